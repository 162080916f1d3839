/- The contracts of the document's Next and Parse. -/
import Derived.Test.YtgddmihojladfaaGreatDoorSfRef10
namespace Go.Proofs.YtgddmihojladfaaGreatDoor
open Go.RowKit Go.Shelf Go.Maps Go.Deep

set_option maxHeartbeats 2000000 in
set_option maxRecDepth 20000 in
theorem rnext_any (s : List UInt8) (w : World) (hs : s.length ≤ 1000000) : Calls Tryz.prog 55 #[.string (bA s)] w (RetI w (Sf.next s)) := by
  have hb := Lib.hid (CBox.new w 66 zI)
  have H1 := Lib.hid (rvalue_all s (w.alloc (.cells zI 66)) hs)
  obtain ⟨o, ho⟩ : ∃ o, Sf.next s = o := ⟨_, rfl⟩
  rw [ho]
  have HO := Lib.hid ho
  clear ho
  go_enter Tryz.func55, Tryz.ntmps55
  go_wp2_with fail
  refine H1.out.mono ?_
  rintro e w1 ⟨rfl, hb1⟩
  have hB1 := Lib.hid (onto (below_one w (.cells zI 66)) hb1)
  have hI1 := Lib.hid (hb.out.keep hb1)
  have hlt := hI1.out.lt
  have hne : ¬ w1.heap.size = w.heap.size := by omega
  have hne' : ¬ w.heap.size = w1.heap.size := by omega
  clear hb hb1 H1
  cases hv : Sf.value s with
  | none =>
    have hO : o = none := by rw [← HO.out]; unfold Sf.next; rw [hv]
    subst hO
    obtain ⟨c0, c1, c2, c3, f0, f1, f2, f3⟩ := hI1.out.all4
    clear hv HO
    unfold rvalV zPar
    go_wp2_with fail
    have hgA : w1.grownBy (set4 w1 w.heap.size (.int .i64 0) (.int .i64 0) (.string (bA [])) (.slice none 0 0)) (some w.heap.size) := g_set4 (g_refl _ _) _ _ _ _ (.inr rfl)
    refine bodyPost_ret (results_ret3 (k := 0) (n := 0) (t := []) rfl _ _ rfl ((hI1.out.set4 _ _ _ _).alloc _)) rfl ?_
    exact ⟨below_al (hB1.out.grown hgA hB1.out.size (fun k hk => by cases hk; exact Nat.le_refl _)) _, .inr ⟨rfl, rfl⟩⟩
  | some x =>
    obtain ⟨p, r⟩ := x
    have hrl := value_len hv
    have H2 := Lib.hid (rparams_any r (w1.alloc (.cells (pC p) 72)) (by omega))
    have HO2 : Hid ((match Sf.pars r with | none => none | some (l, r') => some (⟨p.kind, p.n, p.text, l⟩, r')) = o) := by
      rw [Hid, ← HO.out]; unfold Sf.next; rw [hv]; rfl
    have HBX := Lib.hid (CBox.new w1 72 (pC p))
    have HI2 := Lib.hid (hI1.out.alloc (.cells (pC p) 72))
    have HB2 := Lib.hid (below_al hB1.out (.cells (pC p) 72))
    clear hv HO hI1 hB1
    unfold rvalV parV pC
    go_wp2_with fail
    refine H2.out.mono ?_
    rintro e w3 ⟨hb3, ⟨l, r', v, hl, rfl, hw⟩ | ⟨hl, rfl⟩⟩
    · have HBX3 := Lib.hid (HBX.out.keep hb3)
      have HI3 := Lib.hid (HI2.out.keep hb3)
      have HB3 := Lib.hid (onto HB2.out hb3)
      have HW := Lib.hid (owns_base4 hw (show w.heap.size + 1 ≤ _ by simp; omega))
      obtain ⟨va, vc, rfl⟩ := slice4 hw
      have hO : o = some (⟨p.kind, p.n, p.text, l⟩, r') := by rw [← HO2.out, hl]
      subst hO
      have hlt3 := HI3.out.lt
      have hltx := HBX3.out.lt
      have hn2 : ¬ w3.heap.size = w.heap.size := by omega
      have hn2' : ¬ w.heap.size = w3.heap.size := by omega
      obtain ⟨c0, c1, c2, c3, f0, f1, f2, f3⟩ := HI3.out.all4
      obtain ⟨d0, d1, d2, d3, e0, e1, e2, e3⟩ := HBX3.out.all4
      clear hl hw hb3 H2 HBX HI2 HB2 HO2
      go_wp2_with fail
      have hgA : w3.grownBy (set4 w3 w.heap.size (.int .i64 p.kind) (.int .i64 p.n) (.string (bA p.text)) (.slice va l.length vc)) (some w.heap.size) := g_set4 (g_refl _ _) _ _ _ _ (.inr rfl)
      refine bodyPost_ret (results_ret3 rfl _ _ rfl (HI3.out.set4 _ _ _ _)) rfl ?_
      exact ⟨HB3.out.grown hgA HB3.out.size (fun k hk => by cases hk; exact Nat.le_refl _), .inl ⟨_, r', _, rfl, rfl, owns_base4 (HW.out.kept hgA (not_own4 HW.out (by omega))) (by omega)⟩⟩
    · have HI3 := Lib.hid (HI2.out.keep hb3)
      have HB3 := Lib.hid (onto HB2.out hb3)
      have hO : o = none := by rw [← HO2.out, hl]
      subst hO
      have hlt3 := HI3.out.lt
      have hn2 : ¬ w3.heap.size = w.heap.size := by omega
      have hn2' : ¬ w.heap.size = w3.heap.size := by omega
      obtain ⟨c0, c1, c2, c3, f0, f1, f2, f3⟩ := HI3.out.all4
      clear hl hb3 H2 HBX HI2 HB2 HO2
      go_wp2_with fail
      have hgA : w3.grownBy (set4 w3 w.heap.size (.int .i64 0) (.int .i64 0) (.string (bA [])) (.slice none 0 0)) (some w.heap.size) := g_set4 (g_refl _ _) _ _ _ _ (.inr rfl)
      refine bodyPost_ret (results_ret3 (k := 0) (n := 0) (t := []) rfl _ _ rfl (HI3.out.set4 _ _ _ _)) rfl ?_
      exact ⟨HB3.out.grown hgA HB3.out.size (fun k hk => by cases hk; exact Nat.le_refl _), .inr ⟨rfl, rfl⟩⟩
set_option maxHeartbeats 1000000 in
set_option maxRecDepth 20000 in
theorem rparse_any (s : List UInt8) (w : World) : Calls Tryz.prog 45 #[.string (bA s)] w (RetP w (Sf.parse s)) := by
  by_cases hl : 4000 < s.length
  · have hn : Sf.parse s = none := by unfold Sf.parse; rw [if_pos hl]
    rw [hn]
    have hl' : (4000 : Int) < (s.length : Int) := by omega
    clear hn hl
    go_enter Tryz.func45, Tryz.ntmps45
    go_wp2_with fail
    refine bodyPost_ret (results_ret2 (k := 0) (n := 0) (t := []) rfl _ _ rfl (CBox.new w _ _)) rfl ?_
    exact ⟨(Below.refl _ _).alloc (Nat.le_refl _) _, .inr ⟨rfl, rfl⟩⟩
  · have hl' : (s.length : Int) ≤ 4000 := by omega
    have hb := Lib.hid (CBox.new w 66 zI)
    have htl := Sf.trim_len s
    have H1 := Lib.hid (strim_any s (w.alloc (.cells zI 66)) (by omega))
    obtain ⟨o, ho⟩ : ∃ o, Sf.parse s = o := ⟨_, rfl⟩
    have HO : Hid ((match Sf.next (Sf.trimS s) with | none => none | some (x, r) => if r = [] then some x else none) = o) := by
      rw [Hid, ← ho]; unfold Sf.parse; rw [if_neg hl]; rfl
    rw [ho]
    clear ho
    go_enter Tryz.func45, Tryz.ntmps45
    go_wp2_with fail
    refine H1.out.mono ?_
    rintro e w1 ⟨rfl, hw1⟩
    have hb1 : Below (w.alloc (.cells zI 66)).heap.size (w.alloc (.cells zI 66)) w1 := by rw [← hw1]; exact Below.refl _ _
    clear hw1
    have H2 := Lib.hid (rnext_any (Sf.trimS s) w1 (by omega))
    have hB1 := Lib.hid (((Below.refl _ w).alloc (Nat.le_refl _) (.cells zI 66)).trans (hb1.mono (by simp)))
    have hI1 := Lib.hid (hb.out.keep hb1)
    clear hb1 hb H1
    go_wp2_with fail
    refine H2.out.mono ?_
    rintro e w2 ⟨hb2, ⟨x, r, v, hx, rfl, hw⟩ | ⟨hx, rfl⟩⟩
    · have hI2 := hI1.out.keep hb2
      have hB2 := hB1.out.trans (hb2.mono hB1.out.size)
      have hlt := hI2.lt
      obtain ⟨va, vc, rfl⟩ := slice4 hw
      have HI2 := Lib.hid hI2
      have HB2 := Lib.hid hB2
      have hsz : w.heap.size < w1.heap.size := hI1.out.lt
      have HW2 := Lib.hid (owns_base4 hw (show w.heap.size + 1 ≤ w1.heap.size by omega))
      obtain ⟨c0, c1, c2, c3, f0, f1, f2, f3⟩ := hI2.all4
      rw [hx] at HO
      clear hx hw hI2 hB2 hb2 H2 hI1 hB1
      have hne : ¬ w2.heap.size = w.heap.size := by omega
      have hne' : ¬ w.heap.size = w2.heap.size := by omega
      unfold itmV iC
      cases r with
      | nil =>
        have hO : o = some x := by rw [← HO.out]; rfl
        have HO2 := Lib.hid hO
        clear hO HO
        go_wp2_with fail
        have hgA : w2.grownBy (set4 w2 w.heap.size (.int .i64 x.kind) (.int .i64 x.n) (.string (bA x.text)) (.slice va x.params.length vc)) (some w.heap.size) := g_set4 (g_refl _ _) _ _ _ _ (.inr rfl)
        refine bodyPost_ret (results_ret2 rfl _ _ rfl ((HI2.out.set4 _ _ _ _).alloc _)) rfl ?_
        rw [HO2.out]
        exact ⟨below_al (HB2.out.grown hgA HB2.out.size (fun k hk => by cases hk; exact Nat.le_refl _)) _, .inl ⟨x, _, rfl, rfl, (owns_base4 (HW2.out.kept hgA (not_own4 HW2.out (by omega))) (by omega)).alloc _⟩⟩
      | cons c r =>
        have hO : o = none := by rw [← HO.out]; rfl
        have HO2 := Lib.hid hO
        clear hO HO
        go_wp2_with fail
        have hgA : w2.grownBy (set4 w2 w.heap.size (.int .i64 0) (.int .i64 0) (.string (bA [])) (.slice none 0 0)) (some w.heap.size) := g_set4 (g_refl _ _) _ _ _ _ (.inr rfl)
        refine bodyPost_ret (results_ret2 (k := 0) (n := 0) (t := []) rfl _ _ rfl ((HI2.out.set4 _ _ _ _).alloc _)) rfl ?_
        rw [HO2.out]
        exact ⟨below_al (HB2.out.grown hgA HB2.out.size (fun k hk => by cases hk; exact Nat.le_refl _)) _, .inr ⟨rfl, rfl⟩⟩
    · have hO : o = none := by rw [← HO.out, hx]
      have HO2 := Lib.hid hO
      have hI2 := hI1.out.keep hb2
      have hB2 := hB1.out.trans (hb2.mono hB1.out.size)
      have hlt := hI2.lt
      have HI2 := Lib.hid hI2
      have HB2 := Lib.hid hB2
      obtain ⟨c0, c1, c2, c3, f0, f1, f2, f3⟩ := hI2.all4
      clear hx hI2 hB2 hb2 H2 hI1 hB1 hO HO
      have hne : ¬ w2.heap.size = w.heap.size := by omega
      have hne' : ¬ w.heap.size = w2.heap.size := by omega
      unfold itmV iC
      go_wp2_with fail
      have hgA : w2.grownBy (set4 w2 w.heap.size (.int .i64 0) (.int .i64 0) (.string (bA [])) (.slice none 0 0)) (some w.heap.size) := g_set4 (g_refl _ _) _ _ _ _ (.inr rfl)
      refine bodyPost_ret (results_ret2 (k := 0) (n := 0) (t := []) rfl _ _ rfl ((HI2.out.set4 _ _ _ _).alloc _)) rfl ?_
      rw [HO2.out]
      exact ⟨below_al (HB2.out.grown hgA HB2.out.size (fun k hk => by cases hk; exact Nat.le_refl _)) _, .inr ⟨rfl, rfl⟩⟩
end Go.Proofs.YtgddmihojladfaaGreatDoor
