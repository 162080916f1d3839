/- Our texts of one layer, joined: plain functions and their laws, and the contracts of the functions of that layer. -/
import Derived.Test.YtinjkpbpkedfnaaGreatDoorCmLaws2
import Derived.Test.YtinjkpbpkedfnaaGreatDoorTxIn
import Derived.Test.YtinjkpbpkedfnaaGreatDoorOctAll
import Derived.Laws.AppendOwnNone
import Derived.Test.YtinjkpbpkedfnaaGreatDoorApp

/- The contract of the statements' few. -/

namespace Go.Proofs.YtinjkpbpkedfnaaGreatDoor
open Go.RowKit Go.Deep

/-- Are texts few and short, and origins few and small? -/
def fewM (anc : List (List UInt8)) (an : List Orig) : Bool := (decide (anc.length ≤ 50) && decide (an.length ≤ 50)) && ((anc.all fun t => decide (t.length ≤ 300)) && an.all smM)
structure FewM (anc : List (List UInt8)) (an : List Orig) : Prop where
  ta : anc.length ≤ 50
  na : an.length ≤ 50
  each : ∀ t ∈ anc, t.length ≤ 300
  small : ∀ o ∈ an, smM o = true
theorem fewM_is {anc : List (List UInt8)} {an : List Orig} (h : fewM anc an = true) : FewM anc an := by
  unfold fewM at h
  simp only [Bool.and_eq_true, decide_eq_true_eq, List.all_eq_true] at h
  exact ⟨h.1.1, h.1.2, h.2.1, h.2.2⟩
theorem fewM_no {anc : List (List UInt8)} {an : List Orig} (h : 50 < anc.length ∨ 50 < an.length ∨ (anc.all fun t => decide (t.length ≤ 300)) = false ∨ an.all smM = false) : fewM anc an = false := by
  unfold fewM
  rcases h with h | h | h | h
  · rw [decide_eq_false (by omega : ¬ anc.length ≤ 50)]; rfl
  · rw [decide_eq_false (by omega : ¬ an.length ≤ 50), Bool.and_false]; rfl
  · rw [h, Bool.false_and, Bool.and_false]
  · rw [h, Bool.and_false, Bool.and_false]
theorem fewM_yes {anc : List (List UInt8)} {an : List Orig} (h1 : anc.length ≤ 50) (h2 : an.length ≤ 50) (h3 : (anc.all fun t => decide (t.length ≤ 300)) = true) (h4 : an.all smM = true) : fewM anc an = true := by
  unfold fewM
  rw [h3, h4, decide_eq_true h1, decide_eq_true h2]; rfl
structure RdyE (w0 : World) (B : Nat) (p : Cs.Pol) (A1 : Option Addr) (c1 : Nat) (A2 : Option Addr) (c2 : Nat) (A : Option Addr) (l : List Orig) (W : World) : Prop where
  bel : Below w0.heap.size w0 W
  b : CBox W B 36 (polC p A1 c1 A2 c2)
  t : SeenT W A1 p.anc
  l : SeenOs W A l
theorem RdyE.below {w0 : World} {B : Nat} {p : Cs.Pol} {A1 : Option Addr} {c1 : Nat} {A2 : Option Addr} {c2 : Nat} {A : Option Addr} {l : List Orig} {W W' : World} (h : RdyE w0 B p A1 c1 A2 c2 A l W) (hb : Below W.heap.size W W') : RdyE w0 B p A1 c1 A2 c2 A l W' := ⟨Below.onto h.bel hb, h.b.keep hb, h.t.below hb, h.l.below hb⟩
set_option maxHeartbeats 8000000 in
set_option maxRecDepth 20000 in
theorem fewM_any (p : Cs.Pol) (A1 : Option Addr) (c1 : Nat) (A2 : Option Addr) (c2 : Nat) (A : Option Addr) (c : Nat) (l : List Orig) (w : World) (hp : SeenT w A1 p.anc) (hA : SeenOs w A l) :
    Calls Tryz.prog 17 #[.agg (polC p A1 c1 A2 c2), .slice A l.length c] w fun e w' => e = .returned (.bool (fewM p.anc l)) ∧ Below w.heap.size w w' := by
  have hb0 : Below w.heap.size w (w.alloc (.cells (polC p A1 c1 A2 c2) 36)) := (Below.refl _ w).alloc (Nat.le_refl _) _
  have h0 : RdyE w w.heap.size p A1 c1 A2 c2 A l (w.alloc (.cells (polC p A1 c1 A2 c2) 36)) := ⟨hb0, CBox.new w _ _, hp.below hb0, hA.below hb0⟩
  have HX := Lib.hid h0
  have HSM := Lib.hid (fun (o : Orig) W => smallM_any o W)
  clear hb0 h0 hp hA
  obtain ⟨xa, pa, xb, pb⟩ := p
  unfold polC at *
  unfold origV oCells at HSM
  dsimp only at *
  go_enter Tryz.func17, Tryz.ntmps17
  obtain ⟨w1, hw1⟩ : ∃ W, (w.alloc (.cells #[.bool xa, .slice A1 pa.length c1, .bool xb, .slice A2 pb.length c2] 36)) = W := ⟨_, rfl⟩
  have hX1 : RdyE w w.heap.size ⟨xa, pa, xb, pb⟩ A1 c1 A2 c2 A l w1 := by rw [← hw1]; exact HX.out
  have p1 : w1.cell? ⟨w.heap.size, 1, none⟩ = some (.slice A1 pa.length c1) := hX1.b.c 1
  go_upto_region 1 with fail
  clear hw1 HX
  obtain ⟨B, hB⟩ : ∃ A, w.heap.size = A := ⟨_, rfl⟩
  rw [hB] at hX1 p1
  simp only [hB]
  clear hB
  by_cases q1 : 50 < pa.length
  · have hn := Lib.hid (fewM_no (anc := pa) (an := l) (.inl q1))
    have q1' : (50 : Int) < (pa.length : Int) := by omega
    go_wp2_with fail
    go_ret
    exact ⟨by rw [hn.out]; rfl, hX1.bel⟩
  have q1' : ¬ (50 : Int) < (pa.length : Int) := by omega
  by_cases q2 : 50 < l.length
  · have hn := Lib.hid (fewM_no (anc := pa) (an := l) (.inr (.inl q2)))
    have q2' : (50 : Int) < (l.length : Int) := by omega
    go_wp2_with fail
    go_ret
    exact ⟨by rw [hn.out]; rfl, hX1.bel⟩
  have q2' : ¬ (50 : Int) < (l.length : Int) := by omega
  have Q1 := Lib.hid q1; have Q2 := Lib.hid q2
  have hpl : pa.length ≤ 50 := by omega
  have hll : l.length ≤ 50 := by omega
  clear q1 q2
  go_wp2_with fail
  clear q1' q2'
  go_loopw [5] (fun i wr => ∃ k : Nat, k ≤ pa.length ∧ i = .int .i64 k ∧ Hid (((pa.take k).all fun t => decide (t.length ≤ 300)) = true) ∧ wr = w1) (fun i _ => pa.length - (intOf i).toNat)
  case atStart => exact ⟨0, by omega, rfl, Lib.hid rfl, rfl⟩
  case round =>
    obtain ⟨k, hk, rfl, hal, rfl⟩ := hrel
    by_cases hlt : k < pa.length
    · obtain ⟨g, q, rfl, hg, hc⟩ := hX1.t (by show 0 < pa.length; omega)
      have hce : wr.cell? ⟨g, q + k, none⟩ = some (Oct.strV pa[k]) := hc k hlt
      have hmiss : 300 < pa[k].length → (pa.all fun t => decide (t.length ≤ 300)) = false := fun h => List.all_eq_false.2 ⟨_, List.getElem_mem hlt, by simp; omega⟩
      have hnext : ¬ 300 < pa[k].length → ((pa.take (k + 1)).all fun t => decide (t.length ≤ 300)) = true := fun h => by rw [List.take_succ_eq_append_getElem hlt, List.all_append, hal.out]; simp; omega
      obtain ⟨t, ht⟩ : ∃ t, pa[k] = t := ⟨_, rfl⟩
      rw [ht] at hce hmiss hnext
      unfold Oct.strV at hce
      have hce : wr.cell? ⟨g, q + k, none⟩ = some (.string (bA t)) := hce
      clear hc ht
      by_cases q3 : 300 < t.length
      · have hn := Lib.hid (fewM_no (anc := pa) (an := l) (.inr (.inr (.inl (hmiss q3)))))
        have q3' : (300 : Int) < (t.length : Int) := by omega
        clear hmiss hnext
        go_wp2_with fail
        go_ret
        exact ⟨by rw [hn.out]; rfl, hX1.bel⟩
      · have hn := Lib.hid (hnext q3)
        have q3' : ¬ (300 : Int) < (t.length : Int) := by omega
        clear hmiss hnext
        go_wp2_with fail
        exact ⟨⟨k + 1, by omega, by go_num, hn, trivial⟩, by simp [intOf]; omega⟩
    · obtain rfl : k = pa.length := by omega
      have hn := hal.out
      rw [List.take_of_length_le (Nat.le_refl _)] at hn
      have HN := Lib.hid hn
      clear hal hn
      have HX1 := Lib.hid hX1
      go_wp2_with fail
      clear hX1 p1
      go_loopw [6] (fun i wr2 => ∃ k : Nat, k ≤ l.length ∧ i = .int .i64 k ∧ Hid ((l.take k).all smM = true) ∧ Hid (RdyE w B ⟨xa, pa, xb, pb⟩ A1 c1 A2 c2 A l wr2)) (fun i _ => l.length - (intOf i).toNat)
      case atStart => exact ⟨0, by omega, rfl, Lib.hid rfl, HX1⟩
      case round =>
        obtain ⟨j, hj, rfl, hall, hrd⟩ := hrel
        by_cases hjt : j < l.length
        · obtain ⟨g, q, rfl, hg, hc⟩ := hrd.out.l (by omega)
          clear hc
          have hcs := hrd.out.l.at j hjt rfl
          have hmiss : smM l[j] = false → l.all smM = false := fun h => List.all_eq_false.2 ⟨_, List.getElem_mem hjt, by rw [h]; simp⟩
          have hnext : smM l[j] = true → (l.take (j + 1)).all smM = true := fun h => by rw [List.take_succ_eq_append_getElem hjt, List.all_append, hall.out]; simp [h]
          obtain ⟨o, ho⟩ : ∃ o, l[j] = o := ⟨_, rfl⟩
          rw [ho] at hmiss hnext hcs
          obtain ⟨z0, z1, z2, z3, z4, z5, z6⟩ := hcs
          have HM := Lib.hid hmiss; have HNX := Lib.hid hnext
          clear hmiss hnext ho
          go_wp2_with fail
          refine (HSM.out o _).mono ?_
          rintro e w5 ⟨rfl, hb5⟩
          have hrd5 := Lib.hid (hrd.out.below hb5)
          clear z0 z1 z2 z3 z4 z5 z6
          cases hso : smM o with
          | false =>
            have hn := Lib.hid (fewM_no (anc := pa) (an := l) (.inr (.inr (.inr (HM.out hso)))))
            clear hso
            go_wp2_with fail
            go_ret
            exact ⟨by rw [hn.out]; rfl, hrd5.out.bel⟩
          | true =>
            have hn := Lib.hid (HNX.out hso)
            clear hso
            go_wp2_with fail
            exact ⟨⟨j + 1, by omega, by go_num, hn, hrd5⟩, by simp [intOf]; omega⟩
        · obtain rfl : j = l.length := by omega
          have hn2 := hall.out
          rw [List.take_of_length_le (Nat.le_refl _)] at hn2
          have HY := Lib.hid (fewM_yes (anc := pa) (an := l) (by have := Q1.out; omega) (by have := Q2.out; omega) HN.out hn2)
          clear hall hn2
          go_wp2_with fail
          go_ret
          exact ⟨by rw [HY.out]; rfl, hrd.out.bel⟩
end Go.Proofs.YtinjkpbpkedfnaaGreatDoor

/- Lists of texts laid one behind the other, at an operation: nil of any room let in. -/

namespace Go.Proofs.YtinjkpbpkedfnaaGreatDoor
open Go.RowKit

theorem run_append_empty {P : Program} {w : World} (base : Nat) (t ty e : TypeId) (i : TypeInfo) (size c : Nat) (ht : P.underlying t = some (.slice e)) (hi : P.info? e = some i)
    (v : Value) (n : Nat) (xs : List Value) (hown : w.ownsRow base e size v n xs) :
    (Builtin.append_ #[t, t] ty #[v, .slice none 0 c]).run P w = .ok v w := by
  rcases hown.2 with ⟨rfl, rfl⟩ | ⟨g, cap, cur, rfl, _, _, hnc, _⟩
  · simp [Builtin.append_, run_underlying ht, sizeOf, typeInfo, hi, Builtin.lenOf, Builtin.firstCells]
  · simp [Builtin.append_, run_underlying ht, sizeOf, typeInfo, hi, Builtin.lenOf, Builtin.firstCells, hnc, storeCells]
/-- 'append(a, b...)' of lists of texts, a one's own, b lying somewhere. -/
theorem wp_appT {ops : Array Oper} {rest : List Oper} {o : Oper} {a : Act} {w : World} {Q : Exit → Act → World → Prop} (hgd : o.guard = none) (s x : Operand)
    (ho : o.op = .call { callee := .builtin .append, args := #[s, x], argTypes := #[34, 34] }) (base : Nat) (v : Value) (la lb : List (List UInt8)) (hs : a.eval s = v) (hown : w.ownsRow base 9 1 v la.length (la.map Oct.strV))
    (A : Option Addr) (c : Nat) (hx : a.eval x = .slice A lb.length c) (hA : SeenT w A lb) (h63 : la.length + lb.length ≤ maxLen) (hbytes : (la.length + lb.length) * 16 ≤ 140737488355328) (hb : base ≤ w.heap.size)
    (h : ∀ v' w', w'.ownsRow base 9 1 v' (la ++ lb).length ((la ++ lb).map Oct.strV) → w.grownBy w' v.ownBlock → Below base w w' → wpList Tryz.prog ops Q rest (a.put o.dst v') w') :
    wpList Tryz.prog ops Q (o :: rest) a w := by
  obtain ⟨i0, hi, hz0, hz1, hz2⟩ := info_parts info_string
  cases A with
  | none =>
    have h0 : lb.length = 0 := by
      rcases Nat.eq_zero_or_pos lb.length with h | h
      · exact h
      · obtain ⟨g, o, e, _⟩ := hA h; cases e
    have hlb : lb = [] := List.length_eq_zero_iff.1 h0
    subst hlb
    refine wpList_plain hgd fun K hK => ?_
    have hrun := run_append_empty (P := Tryz.prog) (w := w) base 34 o.type 9 i0 1 c Tryz.underlying34 hi v _ _ hown
    unfold Oper.wp
    simp only [List.length_nil] at hx
    simp [execOp, ho, resolve, invoke, builtin, hs, hx, hrun, Result.andThen]
    exact hK _ _ (h v w (by rw [List.append_nil]; exact hown) ⟨rfl, rfl, rfl, Nat.le_refl _, fun _ _ _ => rfl⟩ (Below.refl _ _))
  | some ad =>
    refine wpList_append_own _ hgd s x 34 ho base 9 i0 _ 1 16 Tryz.underlying34 hi hz0 hz1 hz2 rfl (by decide) v _ _ hs hown ad lb.length c (lb.map Oct.strV) hx (by simp) (fun j u hu => ?_) (fun u hu => by obtain ⟨s, _, rfl⟩ := List.mem_map.1 hu; rfl) h63 hbytes hb ?_
    · have hj : j < lb.length := by
        have := (List.getElem?_eq_some_iff.1 hu).1
        simpa using this
      obtain ⟨g, o, e, hg, hc⟩ := hA (by omega)
      cases e
      have e2 : u = Oct.strV lb[j] := by
        rw [List.getElem?_map, List.getElem?_eq_getElem hj] at hu
        exact (Option.some.inj hu).symm
      have e3 : ((⟨g, o, none⟩ : Addr).add j) = ⟨g, o + j, none⟩ := by unfold Addr.add; split <;> simp_all
      rw [e2, e3]; exact hc j hj
    · intro v' w' r1 r2 _
      refine h v' w' (by rw [List.length_append, List.map_append]; exact r1) r2 ((Below.refl base w).grown r2 hb (fun k hk => (hown.lt k hk).1))
end Go.Proofs.YtinjkpbpkedfnaaGreatDoor

/- Lists of origins laid one behind the other, as a step of a region that draws its order. -/

namespace Go.Proofs.YtinjkpbpkedfnaaGreatDoor
open Go.RowKit Go.Deep

theorem info_org : (Tryz.prog.info? 31).map (fun i => (i.zero, i.size, i.bytes)) = some (some (.agg (oCells zeroO)), 7, 64) := by kernel_rfl
def rowO (l : List Orig) : List Value := l.flatMap fun o => (oCells o).toList
theorem rowO_app (a b : List Orig) : rowO a ++ rowO b = rowO (a ++ b) := by unfold rowO; simp
theorem rowO_len : ∀ l : List Orig, (rowO l).length = l.length * 7
  | [] => rfl
  | o :: l => by
    have := rowO_len l
    have e : rowO (o :: l) = (oCells o).toList ++ rowO l := rfl
    rw [e, List.length_append, this, List.length_cons]
    simp [oCells]; omega
theorem rowO_one : ∀ l : List Orig, ∀ u ∈ rowO l, u.oneCell' = true := fun l u hu => by
  obtain ⟨o, _, h⟩ := List.mem_flatMap.1 hu
  simp only [oCells, List.mem_cons, List.not_mem_nil, or_false] at h
  rcases h with rfl | rfl | rfl | rfl | rfl | rfl | rfl <;> rfl
/-- The cells of a list of origins that lies somewhere, as a row. -/
theorem rowO_cells {w : World} {g q : Nat} : ∀ (l : List Orig) (k : Nat), (∀ i (h : i < l.length), ∀ j, j < 7 → w.cell? ⟨g, q + (k + i) * 7 + j, none⟩ = (oCells l[i])[j]?) → ∀ (j : Nat) (u : Value), (rowO l)[j]? = some u → w.cell? ⟨g, q + k * 7 + j, none⟩ = some u
  | [], k, _, j, u, hu => by simp [rowO] at hu
  | o :: l, k, h, j, u, hu => by
    have e : rowO (o :: l) = (oCells o).toList ++ rowO l := rfl
    rw [e] at hu
    by_cases hj : j < 7
    · have h0 := h 0 (by simp) j hj
      simp only [List.getElem_cons_zero, Nat.add_zero] at h0
      rw [List.getElem?_append_left (by simp [oCells]; omega)] at hu
      rw [h0, ← hu]; simp
    · have ih := rowO_cells l (k + 1) (fun i hi j hj => by
        have := h (i + 1) (by simpa using hi) j hj
        rw [show k + (i + 1) = k + 1 + i by omega] at this
        simpa using this) (j - 7) u (by rw [List.getElem?_append_right (by simp [oCells]; omega)] at hu; simpa [oCells] using hu)
      rw [show q + (k + 1) * 7 + (j - 7) = q + k * 7 + j by omega] at ih
      exact ih
/-- What an append wants of a list of origins that lies somewhere. -/
theorem news_orgs {w : World} {A : Option Addr} {n c : Nat} {l : List Orig} (hn : l.length = n) (hnl : A = none → n = 0 ∧ c = 0) (h : SeenOs w A l) : (Value.slice A n c = .slice none 0 0 ∧ n = 0 ∧ rowO l = []) ∨ ∃ ad d, Value.slice A n c = .slice (some ad) n d ∧ ∀ j u, (rowO l)[j]? = some u → w.cell? (ad.add j) = some u := by
  subst hn
  cases A with
  | none =>
    obtain ⟨h0, rfl⟩ := hnl rfl
    have e0 : l = [] := List.length_eq_zero_iff.1 h0
    subst e0
    exact .inl ⟨rfl, rfl, rfl⟩
  | some a =>
    refine .inr ⟨a, c, rfl, fun j u hu => ?_⟩
    by_cases hl : 0 < l.length
    · obtain ⟨g, q, e, hg, hc⟩ := h hl
      cases e
      have := rowO_cells (w := w) (g := g) (q := q) l 0 (fun i hi j hj => by rw [Nat.zero_add]; exact hc i hi j hj) j u hu
      rw [Nat.zero_mul, Nat.add_zero] at this
      have ad : (⟨g, q, none⟩ : Addr).add j = ⟨g, q + j, none⟩ := by simp [Addr.add]
      rw [ad]; exact this
    · have e0 : l = [] := List.length_eq_zero_iff.1 (by omega)
      subst e0
      simp [rowO] at hu
/-- A list of origins of one's own. -/
def OwnO (w : World) (base : Nat) (v : Value) (l : List Orig) : Prop := w.ownsRow base 31 7 v l.length (rowO l)
theorem OwnO.none {w : World} {base B : Nat} (hB : w.heap[B]? = some (.cells #[] 31 (0, 0))) (hb : base ≤ B) : OwnO w base (.slice (some ⟨B, 0, none⟩) 0 0) [] :=
  ⟨by simp [rowO], .inr ⟨B, 0, #[], rfl, hb, hB, Nat.le_refl _, by simp [maxLen], by simp, by simp [rowO]⟩⟩
theorem OwnO.slice {w : World} {base : Nat} {v : Value} {l : List Orig} (h : OwnO w base v l) : ∃ A c, v = .slice A l.length c := by
  obtain ⟨_, ⟨h1, h2⟩ | ⟨g, cap, cur, h1, _⟩⟩ := h
  · exact ⟨Option.none, 0, by rw [h1, h2]⟩
  · exact ⟨_, _, h1⟩
theorem rowO_at : ∀ (l : List Orig) (i : Nat) (hi : i < l.length) (j : Nat), j < 7 → (rowO l)[i * 7 + j]? = (oCells l[i])[j]?
  | [], i, hi, _, _ => by simp at hi
  | o :: l, 0, _, j, hj => by
    have e : rowO (o :: l) = (oCells o).toList ++ rowO l := rfl
    rw [e, Nat.zero_mul, Nat.zero_add, List.getElem?_append_left (by simp [oCells]; omega)]
    simp
  | o :: l, i + 1, hi, j, hj => by
    have e : rowO (o :: l) = (oCells o).toList ++ rowO l := rfl
    have ih := rowO_at l i (by simpa using hi) j hj
    rw [e, List.getElem?_append_right (by simp [oCells]; omega)]
    have e2 : (i + 1) * 7 + j - (oCells o).toList.length = i * 7 + j := by simp [oCells]; omega
    rw [e2, ih]; simp
theorem OwnO.seen {w : World} {base n c : Nat} {A : Option Addr} {l : List Orig} (h : OwnO w base (.slice A n c) l) : SeenOs w A l := fun hn => by
  have hrow := h
  obtain ⟨_, ⟨h1, h2⟩ | ⟨g, cap, cur, h1, hb, hg, _⟩⟩ := h
  · omega
  · cases h1
    refine ⟨g, 0, rfl, (Array.getElem?_eq_some_iff.1 hg).1, fun i hi j hj => ?_⟩
    have hr := rowO_at l i hi j hj
    have hsz : j < (oCells l[i]).size := hj
    obtain ⟨u, hu⟩ : ∃ u, (oCells l[i])[j]? = some u := ⟨_, Array.getElem?_eq_getElem hsz⟩
    rw [hu] at hr ⊢
    have := World.ownsRow.cells hrow (g := g) rfl (i * 7 + j) u hr
    have ea : ((⟨g, 0, Option.none⟩ : Addr).add (i * 7 + j)) = ⟨g, 0 + i * 7 + j, Option.none⟩ := by unfold Addr.add; split <;> simp_all
    rw [ea] at this
    exact this
/-- 'append(a, b...)' of lists of origins, a one's own, b lying somewhere or nil, in a region that draws. -/
theorem step_appO {ops : Array Oper} {o : Oper} {a : Act} {w : World} {K : Act → World → Prop} {Q : Exit → Act → World → Prop} {E : Prop} (hgd : o.guard = none) (s x : Operand)
    (ho : o.op = .call { callee := .builtin .append, args := #[s, x], argTypes := #[37, 37] }) (base : Nat) (v : Value) (la lb : List Orig) (hs : a.eval s = v) (hown : OwnO w base v la)
    (A : Option Addr) (n c m : Nat) (hx : a.eval x = .slice A n c) (hn : lb.length = n) (hnl : A = Option.none → n = 0 ∧ c = 0) (hA : SeenOs w A lb) (hm : la.length + n = m) (h63 : m ≤ maxLen) (hbytes : m * 64 ≤ 140737488355328) (hb : base ≤ w.heap.size)
    (h : ∀ A' c' w', OwnO w' base (.slice A' m c') (la ++ lb) → w.grownBy w' v.ownBlock → Below base w w' → K (a.put o.dst (.slice A' m c')) w') :
    if Region.wanted o (yielded ops a.tmps) = true then Oper.wp Tryz.prog o a w K Q else E := by
  obtain ⟨i0, hi, hz0, hz1, hz2⟩ := info_parts info_org
  subst hn; subst hm
  refine step_append_own hgd s x 37 ho base 31 i0 _ 7 64 Tryz.underlying37 hi hz0 hz1 hz2 rfl (by decide) v la.length (rowO la) hs hown _ hx lb.length (rowO lb) (news_orgs rfl hnl hA) (rowO_len lb) (rowO_one lb) h63 hbytes hb ?_
  intro v' w' r1 r2
  have hown' : OwnO w' base v' (la ++ lb) := by
    unfold OwnO
    rw [rowO_app, ← List.length_append] at r1
    exact r1
  obtain ⟨A', c', rfl⟩ := hown'.slice
  rw [List.length_append] at hown' ⊢
  exact h A' c' w' hown' r2 ((Below.refl base w).grown r2 hb (fun k hk => (hown.lt k hk).1))
theorem below_al2 {B : Nat} {a w : World} (h : Below B a w) (hB : B ≤ w.heap.size) (o : Obj) : Below B a (w.alloc o) := h.alloc hB o
theorem hp_first (w : World) (a b : Obj) : ((w.alloc a).alloc b).drew.heap[w.heap.size]? = some a := (Below.heap_alloc (w.alloc a) b _ (by simp)).trans (World.alloc_heap_new w a)
theorem hp_second (w : World) (a b : Obj) : ((w.alloc a).alloc b).drew.heap[w.heap.size + 1]? = some b := by
  have := World.alloc_heap_new (w.alloc a) b
  rw [World.size_alloc] at this
  exact this
/-- A list of one origin, laid, and kept. -/
theorem orgs_kept {w w4 : World} {B : Nat} {o : Orig} {row : Option Nat} (hB : w.heap[B]? = some (.cells (oCells o) 31 (0, 0))) (hg : w.grownBy w4 row) (hne : some B ≠ row) : SeenOs w4 (some ⟨B, 0, Option.none⟩) [o] := fun _ => by
  have hlt := (Array.getElem?_eq_some_iff.1 hB).1
  have h4 : OBox w4 B o := (hg.block B hlt hne).trans hB
  refine ⟨B, 0, rfl, h4.lt, fun i hi j hj => ?_⟩
  have hi' : i < 1 := hi
  match i, hi' with
  | 0, _ =>
    have := h4.c j
    simp only [Nat.zero_mul, Nat.zero_add]
    exact this
end Go.Proofs.YtinjkpbpkedfnaaGreatDoor
