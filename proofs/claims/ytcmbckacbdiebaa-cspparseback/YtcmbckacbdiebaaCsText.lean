/- The contract of cspparse.Text: texts put together by strings.Join. -/
import Derived.Test.YtcmbckacbdiebaaCsHead
import Derived.Test.YtcmbckacbdiebaaShelf
import Derived.Laws.AppendOwnNone
namespace Go.Proofs.Ytcmbckacbdiebaa
open Go.RowKit Go.Shelf

theorem run_append_empty {P : Program} {w : World} (base : Nat) (t ty e : TypeId) (i : TypeInfo) (size c : Nat) (ht : P.underlying t = some (.slice e)) (hi : P.info? e = some i)
    (v : Value) (n : Nat) (xs : List Value) (hown : w.ownsRow base e size v n xs) :
    (Builtin.append_ #[t, t] ty #[v, .slice none 0 c]).run P w = .ok v w := by
  rcases hown.2 with ⟨rfl, rfl⟩ | ⟨g, cap, cur, rfl, _, _, hnc, _⟩
  · simp [Builtin.append_, run_underlying ht, sizeOf, typeInfo, hi, Builtin.lenOf, Builtin.firstCells]
  · simp [Builtin.append_, run_underlying ht, sizeOf, typeInfo, hi, Builtin.lenOf, Builtin.firstCells, hnc, storeCells]
/-- 'append(a, b...)' of lists of texts, a one's own, b lying somewhere. -/
theorem wp_appT {ops : Array Oper} {rest : List Oper} {o : Oper} {a : Act} {w : World} {Q : Exit → Act → World → Prop} (hgd : o.guard = none) (s x : Operand)
    (ho : o.op = .call { callee := .builtin .append, args := #[s, x], argTypes := #[24, 24] }) (base : Nat) (v : Value) (la lb : List (List UInt8)) (hs : a.eval s = v) (hown : w.ownsRow base 9 1 v la.length (la.map Oct.strV))
    (A : Option Addr) (c : Nat) (hx : a.eval x = .slice A lb.length c) (hA : SeenT w A lb) (h63 : la.length + lb.length ≤ maxLen) (hbytes : (la.length + lb.length) * 16 ≤ 140737488355328) (hb : base ≤ w.heap.size)
    (h : ∀ v' w', w'.ownsRow base 9 1 v' (la ++ lb).length ((la ++ lb).map Oct.strV) → w.grownBy w' v.ownBlock → Below base w w' → wpList Try.prog ops Q rest (a.put o.dst v') w') :
    wpList Try.prog ops Q (o :: rest) a w := by
  obtain ⟨i0, hi, hz0, hz1, hz2⟩ := info_parts info_string
  cases A with
  | none =>
    have h0 : lb.length = 0 := by
      rcases Nat.eq_zero_or_pos lb.length with h | h
      · exact h
      · obtain ⟨g, o, e, _⟩ := hA h; cases e
    have hlb : lb = [] := List.length_eq_zero_iff.1 h0
    subst hlb
    refine wpList_plain hgd fun K hK => ?_
    have hrun := run_append_empty (P := Try.prog) (w := w) base 24 o.type 9 i0 1 c Try.underlying24 hi v _ _ hown
    unfold Oper.wp
    simp only [List.length_nil] at hx
    simp [execOp, ho, resolve, invoke, builtin, hs, hx, hrun, Result.andThen]
    exact hK _ _ (h v w (by rw [List.append_nil]; exact hown) ⟨rfl, rfl, rfl, Nat.le_refl _, fun _ _ _ => rfl⟩ (Below.refl _ _))
  | some ad =>
    refine wpList_append_own _ hgd s x 24 ho base 9 i0 _ 1 16 Try.underlying24 hi hz0 hz1 hz2 rfl (by decide) v _ _ hs hown ad lb.length c (lb.map Oct.strV) hx (by simp) (fun j u hu => ?_) (fun u hu => by obtain ⟨s, _, rfl⟩ := List.mem_map.1 hu; rfl) h63 hbytes hb ?_
    · have hj : j < lb.length := by
        have := (List.getElem?_eq_some_iff.1 hu).1
        simpa using this
      obtain ⟨g, o, e, hg, hc⟩ := hA (by omega)
      cases e
      have e2 : u = Oct.strV lb[j] := by
        rw [List.getElem?_map, List.getElem?_eq_getElem hj] at hu
        exact (Option.some.inj hu).symm
      have e3 : ((⟨g, o, none⟩ : Addr).add j) = ⟨g, o + j, none⟩ := by unfold Addr.add; split <;> simp_all
      rw [e2, e3]; exact hc j hj
    · intro v' w' r1 r2 _
      refine h v' w' (by rw [List.length_append, List.map_append]; exact r1) r2 ((Below.refl base w).grown r2 hb (fun k hk => (hown.lt k hk).1))
theorem jn_lib2 (sep : List UInt8) (ts : List (List UInt8)) : Lib.join ts sep = Hd.jn sep ts := by
  cases ts with
  | nil => rfl
  | cons a l => rw [Lib.join_cons, Lib.joinTail, Hd.jn]; congr 1
/-- strings.Join of texts of one's own. -/
theorem csJoin_any (sep : List UInt8) (v : Value) (ts : List (List UInt8)) (base : Nat) (w : World) (h : w.ownsRow base 9 1 v ts.length (ts.map Oct.strV)) (hts : ts.length ≤ 1000000000) (hlen : (Hd.jn sep ts).length ≤ 140737488355327) :
    Calls Try.prog 28 #[v, .string (bA sep)] w fun e w' => e = .returned (.string (bA (Hd.jn sep ts))) ∧ Below w.heap.size w w' := by
  rcases owns_view h with ⟨rfl, h0⟩ | ⟨g, cap, rfl, _, hg, _, hc⟩
  · have e0 : ts = [] := List.length_eq_zero_iff.1 (by simpa using h0)
    subst e0
    refine (Try.strings_Join_none none 0 (bA sep) w).mono ?_
    rintro e w' ⟨rfl, rfl⟩
    exact ⟨rfl, Below.refl _ _⟩
  · have hm : (ts.map bA).map (·.data.toList) = ts := by rw [List.map_map]; exact List.map_id' ts
    have hl : (ts.map bA).length = ts.length := List.length_map _
    have hcap : ts.length ≤ cap := by
      rcases h.2 with ⟨h1, _⟩ | ⟨g', cap', cur, h1, _, _, h3, _⟩
      · cases h1
      · cases h1; exact h3
    have := Try.strings_Join g 0 cap (ts.map bA) (bA sep) w (fun j x hx => by
      rw [List.getElem?_map] at hx
      have hj : j < ts.length := by
        rcases Nat.lt_or_ge j ts.length with h | h
        · exact h
        · rw [List.getElem?_eq_none h] at hx; cases hx
      rw [List.getElem?_eq_getElem hj] at hx
      cases hx
      rw [Nat.zero_add]; exact hc j hj) hg (by rw [hl]; omega) (by rw [hl]; exact hcap) (by rw [hm, show (bA sep).data.toList = sep from rfl, jn_lib2]; omega)
    rw [hl] at this
    refine this.mono ?_
    rintro e w' ⟨rfl, hw⟩
    exact ⟨by rw [hm, show (bA sep).data.toList = sep from rfl, jn_lib2], hw⟩
theorem dirT_jn (n : List UInt8) (l : List (List UInt8)) : Hd.jn [32] (n :: l) = Cs.dirT n l := rfl
set_option maxHeartbeats 2000000 in
theorem csDirT_any (n : List UInt8) (A : Option Addr) (c : Nat) (l : List (List UInt8)) (w : World) (hl : l.length ≤ 100000000) (hlen : (Cs.dirT n l).length ≤ 1000000000) (hA : SeenT w A l) :
    Calls Try.prog 27 #[.string (bA n), .slice A l.length c] w fun e w' => e = .returned (.string (bA (Cs.dirT n l))) ∧ Below w.heap.size w w' := by
  have hb0 : Below w.heap.size w (w.alloc (.cells #[.string (bA n)] 9)) := (Below.refl _ _).alloc (Nat.le_refl _) _
  have hown : (w.alloc (.cells #[.string (bA n)] 9)).ownsRow w.heap.size 9 1 (.slice (some ⟨w.heap.size, 0, none⟩) 1 1) 1 [.string (bA n)] := World.ownsRow_lit w #[.string (bA n)] 1 (Nat.le_refl _) (by unfold maxLen; omega) rfl
  have HA := Lib.hid (hA.below hb0)
  have HB0 := Lib.hid hb0
  have HL := Lib.hid hlen
  have HO := Lib.hid hown
  clear hA hb0 hlen hown
  go_enter Try.func27, Try.ntmps27
  go_wp2_with (first
    | (at_builtin; refine wp_appT rfl _ _ rfl w.heap.size _ [n] l rfl HO.out A c rfl HA.out (by unfold maxLen; simp; omega) (by simp; omega) (by simp) ?_; intro v2 w2 hown2 _ hb2)
    | fail)
  refine (csJoin_any [32] v2 ([n] ++ l) w.heap.size w2 hown2 (by simp; omega) (by have := HL.out; show (Cs.dirT n l).length ≤ _; omega)).mono ?_
  rintro e w3 ⟨rfl, hb3⟩
  go_wp2_with fail
  go_ret
  exact ⟨rfl, (HB0.out.trans hb2).trans (hb3.mono (Nat.le_trans HB0.out.size hb2.size))⟩
/-- A row of one text, just made. -/
theorem seen_fresh (w : World) (t : List UInt8) : SeenT (w.alloc (.cells #[.string (bA t)] 9)) (some ⟨w.heap.size, 0, none⟩) [t] := fun _ =>
  ⟨w.heap.size, 0, rfl, by simp, fun i hi => by
    have h0 : i = 0 := by simpa using hi
    subst h0
    exact (CBox.new w 9 #[.string (bA t)]).c 0⟩
set_option maxHeartbeats 4000000 in
theorem csText_any (p : Cs.Pol) (v : Value) (w : World) (hf : FitP p) (h1 : (Cs.dirT Cs.nA p.anc).length ≤ 1000000000) (h2 : (Cs.dirT Cs.nB p.box).length ≤ 1000000000) (hp : PolAt w p v) :
    Calls Try.prog 17 #[v] w fun e w' => e = .returned (.string (bA (Cs.text p))) ∧ Below w.heap.size w w' := by
  obtain ⟨A, c, B, d, rfl, ha, hb⟩ := hp
  have hb0 : Below w.heap.size w (w.alloc (.cells (polC p A c B d) 26)) := (Below.refl _ _).alloc (Nat.le_refl _) _
  have k1 := fun W z => csDirT_any Cs.nA A c p.anc W hf.anc h1 z
  have k2 := fun W z => csDirT_any Cs.nB B d p.box W hf.box h2 z
  have hx := CBox.new w 26 (polC p A c B d)
  have HA := Lib.hid (ha.below hb0); have HBB := Lib.hid (hb.below hb0); have HX := Lib.hid hx; have HB0 := Lib.hid hb0
  have ht : Cs.text p = (if p.hasAnc then Cs.dirT Cs.nA p.anc else []) ++ (if p.hasAnc && p.hasBox then [59, 32] else []) ++ (if p.hasBox then Cs.dirT Cs.nB p.box else []) := rfl
  rw [ht]
  obtain ⟨xa, pa, xb, pb⟩ := p
  dsimp only at *
  obtain ⟨t1, e1⟩ : ∃ t, Cs.dirT Cs.nA pa = t := ⟨_, rfl⟩
  obtain ⟨t2, e2⟩ : ∃ t, Cs.dirT Cs.nB pb = t := ⟨_, rfl⟩
  rw [e1] at k1 h1 ⊢
  rw [e2] at k2 h2 ⊢
  have K1 := Lib.hid k1; have K2 := Lib.hid k2; have HT1 := Lib.hid h1; have HT2 := Lib.hid h2
  unfold polC at *
  have c0 := HX.out.c 0; have c1 := HX.out.c 1; have c2 := HX.out.c 2; have c3 := HX.out.c 3
  clear ha hb hb0 hx k1 k2 ht hf h1 h2
  cases xa <;> cases xb
  · go_enter Try.func17, Try.ntmps17
    go_wp2_with fail
    refine (csJoin_any [59, 32] (.slice none 0 0) [] w.heap.size _ (World.ownsRow_nil _ _ _ _) (by simp) (by decide)).mono ?_
    rintro e w1 ⟨rfl, hb1⟩
    go_wp2_with fail
    go_ret
    exact ⟨rfl, Below.onto HB0.out hb1⟩
  · go_enter Try.func17, Try.ntmps17
    go_wp2_with fail
    refine (K2.out _ HBB.out).mono ?_
    rintro e w1 ⟨rfl, hb1⟩
    have HB1 := Lib.hid (Below.onto HB0.out hb1)
    go_wp2_with (first
      | (at_builtin; refine wp_appT rfl _ _ rfl w1.heap.size _ [] [t2] rfl (World.ownsRow_nil _ _ _ _) _ _ rfl (seen_fresh w1 t2) (by unfold maxLen; simp) (by simp) (by simp) ?_; intro v2 w2 hown2 _ hb2)
      | fail)
    refine (csJoin_any [59, 32] v2 ([] ++ [t2]) w1.heap.size w2 hown2 (by simp) (by have := HT2.out; simp [Hd.jn]; omega)).mono ?_
    rintro e w3 ⟨rfl, hb3⟩
    go_wp2_with fail
    go_ret
    exact ⟨by simp [Hd.jn], Below.onto HB1.out ((((Below.refl _ w1).alloc (Nat.le_refl _) _).trans hb2).trans (hb3.mono (by have := hb2.size; rw [World.size_alloc] at this; omega)))⟩
  · go_enter Try.func17, Try.ntmps17
    go_wp2_with fail
    refine (K1.out _ HA.out).mono ?_
    rintro e w1 ⟨rfl, hb1⟩
    have HB1 := Lib.hid (Below.onto HB0.out hb1)
    have x0 := fun o => ((HX.out.keep hb1).alloc o).c 0; have x1 := fun o => ((HX.out.keep hb1).alloc o).c 1; have x2 := fun o => ((HX.out.keep hb1).alloc o).c 2; have x3 := fun o => ((HX.out.keep hb1).alloc o).c 3
    have HXA := Lib.hid (fun o => (HX.out.keep hb1).alloc o); have HSW : Hid (w.heap.size < w1.heap.size) := Lib.hid (HX.out.keep hb1).lt
    go_wp2_with (first
      | (at_builtin; refine wp_appT rfl _ _ rfl w1.heap.size _ [] [t1] rfl (World.ownsRow_nil _ _ _ _) _ _ rfl (seen_fresh w1 t1) (by unfold maxLen; simp) (by simp) (by simp) ?_; intro v2 w2 hown2 _ hb2; have y2 := ((HXA.out _).below hb2 HSW.out).c 2)
      | fail)
    refine (csJoin_any [59, 32] v2 ([] ++ [t1]) w1.heap.size w2 hown2 (by simp) (by have := HT1.out; simp [Hd.jn]; omega)).mono ?_
    rintro e w3 ⟨rfl, hb3⟩
    go_wp2_with fail
    go_ret
    exact ⟨by simp [Hd.jn], Below.onto HB1.out ((((Below.refl _ w1).alloc (Nat.le_refl _) _).trans hb2).trans (hb3.mono (by have := hb2.size; rw [World.size_alloc] at this; omega)))⟩
  · go_enter Try.func17, Try.ntmps17
    go_wp2_with fail
    refine (K1.out _ HA.out).mono ?_
    rintro e w1 ⟨rfl, hb1⟩
    have HB1 := Lib.hid (Below.onto HB0.out hb1)
    have x0 := fun o => ((HX.out.keep hb1).alloc o).c 0; have x1 := fun o => ((HX.out.keep hb1).alloc o).c 1; have x2 := fun o => ((HX.out.keep hb1).alloc o).c 2; have x3 := fun o => ((HX.out.keep hb1).alloc o).c 3
    have HXA := Lib.hid (fun o => (HX.out.keep hb1).alloc o); have HSW : Hid (w.heap.size < w1.heap.size) := Lib.hid (HX.out.keep hb1).lt
    have HBA := Lib.hid (HBB.out.below hb1)
    have HW1 := Lib.hid (fun o => (Below.refl w1.heap.size w1).alloc (Nat.le_refl _) o)
    go_wp2_with (first
      | (at_builtin; refine wp_appT rfl _ _ rfl w1.heap.size _ [] [t1] rfl (World.ownsRow_nil _ _ _ _) _ _ rfl (seen_fresh w1 t1) (by unfold maxLen; simp) (by simp) (by simp) ?_; intro v2 w2 hown2 _ hb2; have y2 := ((HXA.out _).below hb2 HSW.out).c 2; have y3 := ((HXA.out _).below hb2 HSW.out).c 3)
      | fail)
    have hw2 := (HW1.out _).trans hb2
    have HOWN2 := Lib.hid hown2
    have HW2 := Lib.hid hw2
    clear hown2 hb2 x0 x1 x2 x3
    refine (K2.out _ (HBA.out.below hw2)).mono ?_
    rintro e w3 ⟨rfl, hb3⟩
    have HB3 := Lib.hid (hw2.trans (hb3.mono hw2.size))
    have HOWN3 := Lib.hid (fun o => (owns_below HOWN2.out hb3).alloc o)
    clear hw2 hb3
    go_wp2_with (first
      | (at_builtin; refine wp_appT rfl _ _ rfl w1.heap.size _ ([] ++ [t1]) [t2] rfl (HOWN3.out _) _ _ rfl (seen_fresh w3 t2) (by unfold maxLen; simp) (by simp) (by have := HB3.out.size; simp; omega) ?_; intro v4 w4 hown4 _ hb4)
      | fail)
    have hw4 := (HB3.out.alloc HB3.out.size _).trans hb4
    refine (csJoin_any [59, 32] v4 ([] ++ [t1] ++ [t2]) w1.heap.size w4 hown4 (by simp) (by have := HT1.out; have := HT2.out; simp [Hd.jn]; omega)).mono ?_
    rintro e w5 ⟨rfl, hb5⟩
    go_wp2_with fail
    go_ret
    exact ⟨by simp [Hd.jn], Below.onto HB1.out (hw4.trans (hb5.mono hw4.size))⟩
end Go.Proofs.Ytcmbckacbdiebaa
