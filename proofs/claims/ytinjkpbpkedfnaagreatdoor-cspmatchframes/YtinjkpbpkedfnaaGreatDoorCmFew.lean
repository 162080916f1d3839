/- The contract of the statements' few. -/
import Derived.Test.YtinjkpbpkedfnaaGreatDoorCmLaws2
namespace Go.Proofs.YtinjkpbpkedfnaaGreatDoor
open Go.RowKit Go.Deep

/-- Are texts few and short, and origins few and small? -/
def fewM (anc : List (List UInt8)) (an : List Orig) : Bool := (decide (anc.length ≤ 50) && decide (an.length ≤ 50)) && ((anc.all fun t => decide (t.length ≤ 300)) && an.all smM)
structure FewM (anc : List (List UInt8)) (an : List Orig) : Prop where
  ta : anc.length ≤ 50
  na : an.length ≤ 50
  each : ∀ t ∈ anc, t.length ≤ 300
  small : ∀ o ∈ an, smM o = true
theorem fewM_is {anc : List (List UInt8)} {an : List Orig} (h : fewM anc an = true) : FewM anc an := by
  unfold fewM at h
  simp only [Bool.and_eq_true, decide_eq_true_eq, List.all_eq_true] at h
  exact ⟨h.1.1, h.1.2, h.2.1, h.2.2⟩
theorem fewM_no {anc : List (List UInt8)} {an : List Orig} (h : 50 < anc.length ∨ 50 < an.length ∨ (anc.all fun t => decide (t.length ≤ 300)) = false ∨ an.all smM = false) : fewM anc an = false := by
  unfold fewM
  rcases h with h | h | h | h
  · rw [decide_eq_false (by omega : ¬ anc.length ≤ 50)]; rfl
  · rw [decide_eq_false (by omega : ¬ an.length ≤ 50), Bool.and_false]; rfl
  · rw [h, Bool.false_and, Bool.and_false]
  · rw [h, Bool.and_false, Bool.and_false]
theorem fewM_yes {anc : List (List UInt8)} {an : List Orig} (h1 : anc.length ≤ 50) (h2 : an.length ≤ 50) (h3 : (anc.all fun t => decide (t.length ≤ 300)) = true) (h4 : an.all smM = true) : fewM anc an = true := by
  unfold fewM
  rw [h3, h4, decide_eq_true h1, decide_eq_true h2]; rfl
structure RdyE (w0 : World) (B : Nat) (p : Cs.Pol) (A1 : Option Addr) (c1 : Nat) (A2 : Option Addr) (c2 : Nat) (A : Option Addr) (l : List Orig) (W : World) : Prop where
  bel : Below w0.heap.size w0 W
  b : CBox W B 36 (polC p A1 c1 A2 c2)
  t : SeenT W A1 p.anc
  l : SeenOs W A l
theorem RdyE.below {w0 : World} {B : Nat} {p : Cs.Pol} {A1 : Option Addr} {c1 : Nat} {A2 : Option Addr} {c2 : Nat} {A : Option Addr} {l : List Orig} {W W' : World} (h : RdyE w0 B p A1 c1 A2 c2 A l W) (hb : Below W.heap.size W W') : RdyE w0 B p A1 c1 A2 c2 A l W' := ⟨Below.onto h.bel hb, h.b.keep hb, h.t.below hb, h.l.below hb⟩
set_option maxHeartbeats 8000000 in
set_option maxRecDepth 20000 in
theorem fewM_any (p : Cs.Pol) (A1 : Option Addr) (c1 : Nat) (A2 : Option Addr) (c2 : Nat) (A : Option Addr) (c : Nat) (l : List Orig) (w : World) (hp : SeenT w A1 p.anc) (hA : SeenOs w A l) :
    Calls Tryz.prog 17 #[.agg (polC p A1 c1 A2 c2), .slice A l.length c] w fun e w' => e = .returned (.bool (fewM p.anc l)) ∧ Below w.heap.size w w' := by
  have hb0 : Below w.heap.size w (w.alloc (.cells (polC p A1 c1 A2 c2) 36)) := (Below.refl _ w).alloc (Nat.le_refl _) _
  have h0 : RdyE w w.heap.size p A1 c1 A2 c2 A l (w.alloc (.cells (polC p A1 c1 A2 c2) 36)) := ⟨hb0, CBox.new w _ _, hp.below hb0, hA.below hb0⟩
  have HX := Lib.hid h0
  have HSM := Lib.hid (fun (o : Orig) W => smallM_any o W)
  clear hb0 h0 hp hA
  obtain ⟨xa, pa, xb, pb⟩ := p
  unfold polC at *
  unfold origV oCells at HSM
  dsimp only at *
  go_enter Tryz.func17, Tryz.ntmps17
  obtain ⟨w1, hw1⟩ : ∃ W, (w.alloc (.cells #[.bool xa, .slice A1 pa.length c1, .bool xb, .slice A2 pb.length c2] 36)) = W := ⟨_, rfl⟩
  have hX1 : RdyE w w.heap.size ⟨xa, pa, xb, pb⟩ A1 c1 A2 c2 A l w1 := by rw [← hw1]; exact HX.out
  have p1 : w1.cell? ⟨w.heap.size, 1, none⟩ = some (.slice A1 pa.length c1) := hX1.b.c 1
  go_upto_region 1 with fail
  clear hw1 HX
  obtain ⟨B, hB⟩ : ∃ A, w.heap.size = A := ⟨_, rfl⟩
  rw [hB] at hX1 p1
  simp only [hB]
  clear hB
  by_cases q1 : 50 < pa.length
  · have hn := Lib.hid (fewM_no (anc := pa) (an := l) (.inl q1))
    have q1' : (50 : Int) < (pa.length : Int) := by omega
    go_wp2_with fail
    go_ret
    exact ⟨by rw [hn.out]; rfl, hX1.bel⟩
  have q1' : ¬ (50 : Int) < (pa.length : Int) := by omega
  by_cases q2 : 50 < l.length
  · have hn := Lib.hid (fewM_no (anc := pa) (an := l) (.inr (.inl q2)))
    have q2' : (50 : Int) < (l.length : Int) := by omega
    go_wp2_with fail
    go_ret
    exact ⟨by rw [hn.out]; rfl, hX1.bel⟩
  have q2' : ¬ (50 : Int) < (l.length : Int) := by omega
  have Q1 := Lib.hid q1; have Q2 := Lib.hid q2
  have hpl : pa.length ≤ 50 := by omega
  have hll : l.length ≤ 50 := by omega
  clear q1 q2
  go_wp2_with fail
  clear q1' q2'
  go_loopw [5] (fun i wr => ∃ k : Nat, k ≤ pa.length ∧ i = .int .i64 k ∧ Hid (((pa.take k).all fun t => decide (t.length ≤ 300)) = true) ∧ wr = w1) (fun i _ => pa.length - (intOf i).toNat)
  case atStart => exact ⟨0, by omega, rfl, Lib.hid rfl, rfl⟩
  case round =>
    obtain ⟨k, hk, rfl, hal, rfl⟩ := hrel
    by_cases hlt : k < pa.length
    · obtain ⟨g, q, rfl, hg, hc⟩ := hX1.t (by show 0 < pa.length; omega)
      have hce : wr.cell? ⟨g, q + k, none⟩ = some (Oct.strV pa[k]) := hc k hlt
      have hmiss : 300 < pa[k].length → (pa.all fun t => decide (t.length ≤ 300)) = false := fun h => List.all_eq_false.2 ⟨_, List.getElem_mem hlt, by simp; omega⟩
      have hnext : ¬ 300 < pa[k].length → ((pa.take (k + 1)).all fun t => decide (t.length ≤ 300)) = true := fun h => by rw [List.take_succ_eq_append_getElem hlt, List.all_append, hal.out]; simp; omega
      obtain ⟨t, ht⟩ : ∃ t, pa[k] = t := ⟨_, rfl⟩
      rw [ht] at hce hmiss hnext
      unfold Oct.strV at hce
      have hce : wr.cell? ⟨g, q + k, none⟩ = some (.string (bA t)) := hce
      clear hc ht
      by_cases q3 : 300 < t.length
      · have hn := Lib.hid (fewM_no (anc := pa) (an := l) (.inr (.inr (.inl (hmiss q3)))))
        have q3' : (300 : Int) < (t.length : Int) := by omega
        clear hmiss hnext
        go_wp2_with fail
        go_ret
        exact ⟨by rw [hn.out]; rfl, hX1.bel⟩
      · have hn := Lib.hid (hnext q3)
        have q3' : ¬ (300 : Int) < (t.length : Int) := by omega
        clear hmiss hnext
        go_wp2_with fail
        exact ⟨⟨k + 1, by omega, by go_num, hn, trivial⟩, by simp [intOf]; omega⟩
    · obtain rfl : k = pa.length := by omega
      have hn := hal.out
      rw [List.take_of_length_le (Nat.le_refl _)] at hn
      have HN := Lib.hid hn
      clear hal hn
      have HX1 := Lib.hid hX1
      go_wp2_with fail
      clear hX1 p1
      go_loopw [6] (fun i wr2 => ∃ k : Nat, k ≤ l.length ∧ i = .int .i64 k ∧ Hid ((l.take k).all smM = true) ∧ Hid (RdyE w B ⟨xa, pa, xb, pb⟩ A1 c1 A2 c2 A l wr2)) (fun i _ => l.length - (intOf i).toNat)
      case atStart => exact ⟨0, by omega, rfl, Lib.hid rfl, HX1⟩
      case round =>
        obtain ⟨j, hj, rfl, hall, hrd⟩ := hrel
        by_cases hjt : j < l.length
        · obtain ⟨g, q, rfl, hg, hc⟩ := hrd.out.l (by omega)
          clear hc
          have hcs := hrd.out.l.at j hjt rfl
          have hmiss : smM l[j] = false → l.all smM = false := fun h => List.all_eq_false.2 ⟨_, List.getElem_mem hjt, by rw [h]; simp⟩
          have hnext : smM l[j] = true → (l.take (j + 1)).all smM = true := fun h => by rw [List.take_succ_eq_append_getElem hjt, List.all_append, hall.out]; simp [h]
          obtain ⟨o, ho⟩ : ∃ o, l[j] = o := ⟨_, rfl⟩
          rw [ho] at hmiss hnext hcs
          obtain ⟨z0, z1, z2, z3, z4, z5, z6⟩ := hcs
          have HM := Lib.hid hmiss; have HNX := Lib.hid hnext
          clear hmiss hnext ho
          go_wp2_with fail
          refine (HSM.out o _).mono ?_
          rintro e w5 ⟨rfl, hb5⟩
          have hrd5 := Lib.hid (hrd.out.below hb5)
          clear z0 z1 z2 z3 z4 z5 z6
          cases hso : smM o with
          | false =>
            have hn := Lib.hid (fewM_no (anc := pa) (an := l) (.inr (.inr (.inr (HM.out hso)))))
            clear hso
            go_wp2_with fail
            go_ret
            exact ⟨by rw [hn.out]; rfl, hrd5.out.bel⟩
          | true =>
            have hn := Lib.hid (HNX.out hso)
            clear hso
            go_wp2_with fail
            exact ⟨⟨j + 1, by omega, by go_num, hn, hrd5⟩, by simp [intOf]; omega⟩
        · obtain rfl : j = l.length := by omega
          have hn2 := hall.out
          rw [List.take_of_length_le (Nat.le_refl _)] at hn2
          have HY := Lib.hid (fewM_yes (anc := pa) (an := l) (by have := Q1.out; omega) (by have := Q2.out; omega) HN.out hn2)
          clear hall hn2
          go_wp2_with fail
          go_ret
          exact ⟨by rw [HY.out]; rfl, hrd.out.bel⟩
end Go.Proofs.YtinjkpbpkedfnaaGreatDoor
