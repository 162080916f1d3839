/- The contract of host.isDomain: it ranges over labels. -/
import Derived.Test.YtehjnidggnfbfaaDoorHostIter
namespace Go.Proofs.YtehjnidggnfbfaaDoor
open Go.RowKit Go.Shelf
attribute [local go_sem] Oper.semAt_some

def Lab.ok (x : Lab) : Prop := Hst.labelB x.1 = true
theorem dom_long (s : ByteArray) (h : 253 < s.size) : false = Hst.domB s.data.toList := by
  unfold Hst.domB
  rw [show decide (s.data.toList.length ≤ 253) = false by simp; omega]
  rfl
theorem dom_all (l : List UInt8) (hl : l.length ≤ 253) (h : ∀ x ∈ labs l hl, Lab.ok x) : Hst.domB l = true := by
  unfold Hst.domB
  rw [show decide (l.length ≤ 253) = true by simpa using hl, Bool.true_and, List.all_eq_true, ← labs_map l hl]
  intro q hq
  obtain ⟨x, hx, rfl⟩ := List.mem_map.1 hq
  exact h x hx
theorem dom_not (l : List UInt8) (hl : l.length ≤ 253) {pre : List Lab} (hp : pre <+: labs l hl) (h : ∃ x ∈ pre, ¬ Lab.ok x) : Hst.domB l = false := by
  obtain ⟨x, hx, hn⟩ := h
  unfold Hst.domB
  rw [Bool.and_eq_false_iff]; right
  rw [List.all_eq_false, ← labs_map l hl]
  exact ⟨x.1, List.mem_map.2 ⟨x, hp.subset hx, rfl⟩, hn⟩

set_option maxRecDepth 100000 in
set_option maxHeartbeats 2000000 in
theorem isDomain_in (s : ByteArray) (w : World) (hs0 : s.size ≤ maxLen) :
    CallsIn Fence.wide 6 Tryd.prog 53 #[.string s] w fun e W' => e = .returned (.bool (Hst.domB s.data.toList)) ∧ Below w.heap.size w W' := by
  unfold maxLen at hs0
  by_cases hbig : 253 < s.size
  · have hbig' : (253 : Int) < (s.size : Int) := by omega
    have HD := Lib.hid (dom_long s hbig)
    clear hbig
    refine callsIn_of_wp_marks Tryd.func53 rfl trivial ?_ rfl
    simp only [Tryd.ntmps53, List.size_toArray, List.length_cons, List.length_nil, Nat.reduceAdd, Nat.reduceSub, Array.replicate_succ, Array.replicate_zero, List.push_toArray, List.append_toArray, List.nil_append, List.cons_append]
    gi_wp2_with fail
    refine ⟨.bool false, ?_, Oct.ret_bool HD.out, (Below.refl _ _).alloc (Nat.le_refl _) _⟩
    simp [results, Tryd.results53, go_sem]
  · have hsm : s.size ≤ 253 := by omega
    have hs : s.data.toList.length ≤ 253 := by simpa using hsm
    clear hbig hs0
    refine callsIn_of_wp_marks Tryd.func53 rfl trivial ?_ rfl
    simp only [Tryd.ntmps53, List.size_toArray, List.length_cons, List.length_nil, Nat.reduceAdd, Nat.reduceSub, Array.replicate_succ, Array.replicate_zero, List.push_toArray, List.append_toArray, List.nil_append, List.cons_append]
    gi_wp2_with fail
    refine ⟨trivial, ?_⟩
    refine (callsIn_wide.2 (labels_any s _)).mono ?_
    rintro e w' ⟨rfl, rfl⟩
    have c0 := (Boxed.new w 4 (.bool false)).alloc (.cells #[.string s] 9)
    have c1 := Boxed.new (w.alloc (.cells #[.bool false] 4)) 9 (.string s)
    simp only [World.size_alloc] at c1
    have hB0 : Below w.heap.size w ((w.alloc (.cells #[.bool false] 4)).alloc (.cells #[.string s] 9)) := ((Below.refl _ w).alloc (Nat.le_refl _) _).alloc (by simp) _
    gi_wp2_with fail
    refine wpIn_rangeFunc_ownF rfl (by decide) (gf := 86) (lb := #[.pointer (some ⟨w.heap.size + 1, 0, none⟩)]) rfl trivial (enters_of Tryd.func86 (by kernel_rfl) rfl)
      (labels1_stops _ (by decide) (w.heap.size + 1) s hs (fun _ => False) _ c1.cell (fun _ h => h.elim)) Kept.trans (fun W l o o' _ hl ho _ => Kept.putObj W l o o' hl ho) (Below.refl _ _) (fun _ => rfl)
      (fun pre W => (∀ x ∈ pre, Lab.ok x) ∧ Boxed W w.heap.size 4 (.bool false) ∧ Below w.heap.size w W)
      (fun c pre W => (c = .ret ∧ ∃ x ∈ pre, ¬ Lab.ok x) ∧ Boxed W w.heap.size 4 (.bool false) ∧ Below w.heap.size w W)
      (OwnFrom.and (ownFrom_pure _ _) (OwnFrom.and (Own.from (boxed_own _ _ _) _) (ownFrom_below (Nat.le_refl _) (by simp; omega))))
      (fun c => OwnFrom.and (ownFrom_pure _ _) (OwnFrom.and (Own.from (boxed_own _ _ _) _) (ownFrom_below (Nat.le_refl _) (by simp; omega))))
      ⟨by simp, c0, hB0⟩
      (fun x => { tmps := #[.string s, undef, .pointer (some ⟨w.heap.size, 0, none⟩), .string ⟨x.1.toArray⟩, .string s, .int .i64 s.size, .bool (decide ((253 : Int) < (s.size : Int))), .string s, .func (.func 86) #[] #[.pointer (some ⟨w.heap.size + 1, 0, none⟩)], .string ⟨x.1.toArray⟩, undef, undef, undef], defers := [] }) ?assign ?body ?done ?stop
    case assign =>
      intro l x W K hK
      unfold labV
      gi_wp2
      exact hK
    case body =>
      rintro l pre x W ⟨hp, hbx, hB⟩ _
      have hcr := hbx.cell; have hfr := hbx.frozen
      have hxs : (⟨x.1.toArray⟩ : ByteArray).size ≤ maxLen := by have := x.2; unfold maxLen; simp [ByteArray.size]; omega
      cases hl : Hst.labelB x.1 with
      | true =>
        have hcall : Calls Tryd.prog 73 #[.string ⟨x.1.toArray⟩] W fun e w' => e = .returned (.bool true) ∧ W = w' := (isLabel_any _ W hxs).mono (by rintro e w' ⟨rfl, h⟩; exact ⟨Oct.ret_bool hl, h⟩)
        have HL := Lib.hid hl
        clear hl
        gi_wp2_with fail
        refine ⟨trivial, (CallsIn.inRound l (callsIn_wide.2 hcall)).mono ?_⟩
        rintro e w' ⟨rfl, rfl⟩
        clear hcall
        gi_wp2_with fail
        exact ⟨KeepsOthers.refl _, Kept.refl _ _, fun y hy => (List.mem_append.1 hy).elim (hp y) (fun e => by obtain rfl : y = x := by simpa using e
                                                                                                              exact HL.out), hbx, hB⟩
      | false =>
        have hcall : Calls Tryd.prog 73 #[.string ⟨x.1.toArray⟩] W fun e w' => e = .returned (.bool false) ∧ W = w' := (isLabel_any _ W hxs).mono (by rintro e w' ⟨rfl, h⟩; exact ⟨Oct.ret_bool hl, h⟩)
        have HL := Lib.hid hl
        clear hl
        gi_wp2_with fail
        refine ⟨trivial, (CallsIn.inRound l (callsIn_wide.2 hcall)).mono ?_⟩
        rintro e w' ⟨rfl, rfl⟩
        clear hcall
        gi_wp2_with fail
        exact ⟨KeepsOthers.setCell _ _ _, ⟨rfl, x, by simp, fun h => by unfold Lab.ok at h; rw [HL.out] at h; cases h⟩, hbx.set _, hB.setCell (p := ⟨w.heap.size, 0, none⟩) (Nat.le_refl _) _⟩
    case done =>
      rintro D ys W hD rfl ⟨hp, hbx, hB⟩ hK
      have hcr := hbx.cell; have hfr := hbx.frozen
      gi_wp2_with fail
      have hK' := (KeepsOthers.setCell W ⟨w.heap.size, 0, none⟩ (.bool true)).same D _ hK rfl
      refine ⟨by simp, .inl ⟨_, _, rfl, run_takeDeferred hK', ?_⟩⟩
      have hc5 := cell_kept (hbx.set (.bool true)).cell (grownBy_putObj' _ D (.deferred none)) (fun r e => by cases e; exact ⟨_, hK', rfl⟩)
      refine ⟨.bool true, ?_, Oct.ret_bool (dom_all _ hs hp).symm, (hB.setCell (p := ⟨w.heap.size, 0, none⟩) (Nat.le_refl _) _).trans (belowK_b (w := w) (Nat.le_refl _) _ D _ _ (by simp at hD; omega) hK' rfl rfl)⟩
      simp [results, Tryd.results53, go_sem, hc5]
    case stop =>
      rintro D c pre W hD hpre ⟨⟨rfl, hin⟩, hbx, hB⟩ hK
      gi_wp2_with fail
      refine ⟨by simp, .inl ⟨_, _, rfl, run_takeDeferred hK, ?_⟩⟩
      have hc5 := cell_kept hbx.cell (grownBy_putObj' _ D (.deferred none)) (fun r e => by cases e; exact ⟨_, hK, rfl⟩)
      refine ⟨.bool false, ?_, Oct.ret_bool (dom_not _ hs hpre hin).symm, hB.trans (belowK_b (w := w) (Nat.le_refl _) W D _ _ (by simp at hD; omega) hK rfl rfl)⟩
      simp [results, Tryd.results53, go_sem, hc5]
theorem isDomain_any (s : ByteArray) (w : World) (hs0 : s.size ≤ maxLen) : Calls Tryd.prog 53 #[.string s] w fun e W' => e = .returned (.bool (Hst.domB s.data.toList)) ∧ Below w.heap.size w W' := callsIn_wide.1 (isDomain_in s w hs0)
end Go.Proofs.YtehjnidggnfbfaaDoor
