/- The contract of sfitem.Parse. -/
import Derived.Test.YtgddmihojladfaaGreatDoorSfNext
import Derived.Test.YtgddmihojladfaaGreatDoorSfMath5
namespace Go.Proofs.YtgddmihojladfaaGreatDoor
open Go.RowKit Go.Shelf Go.Maps Go.Deep

theorem dw_app {α : Type} (p : α → Bool) (a b : List α) (h : ∃ x ∈ a, p x = false) : (a ++ b).dropWhile p = a.dropWhile p ++ b := by
  induction a with
  | nil => obtain ⟨x, hx, _⟩ := h; cases hx
  | cons c a ih =>
    cases hc : p c with
    | false => rw [List.cons_append, List.dropWhile_cons_of_neg (by rw [hc]; simp), List.dropWhile_cons_of_neg (by rw [hc]; simp), List.cons_append]
    | true =>
      rw [List.cons_append, List.dropWhile_cons_of_pos hc, List.dropWhile_cons_of_pos hc]
      refine ih ?_
      obtain ⟨x, hx, hp⟩ := h
      rcases List.mem_cons.1 hx with rfl | hx
      · rw [hc] at hp; cases hp
      · exact ⟨x, hx, hp⟩
theorem dw_all {α : Type} (p : α → Bool) (a b : List α) (h : ∀ x ∈ a, p x = true) : (a ++ b).dropWhile p = b.dropWhile p := List.dropWhile_append_of_pos h
theorem dw_head {α : Type} (p : α → Bool) (l : List α) : l.dropWhile p = [] ∨ ∃ c r, l.dropWhile p = c :: r ∧ p c = false := by
  induction l with
  | nil => exact .inl rfl
  | cons c l ih =>
    cases hc : p c with
    | false => exact .inr ⟨c, l, by rw [List.dropWhile_cons_of_neg (by rw [hc]; simp)], hc⟩
    | true => rw [List.dropWhile_cons_of_pos hc]; exact ih
theorem trim_is (s : List UInt8) : Lib.trimB s 32 = Sf.trimS s := by
  have e1 : s = s.takeWhile (fun b => b == 32) ++ Sf.blk s := (List.takeWhile_append_dropWhile).symm
  have hz : ∀ x ∈ s.takeWhile (fun b => b == 32), (x == 32) = true := fun x hx => List.all_eq_true.1 List.all_takeWhile x hx
  obtain ⟨z, hzz⟩ : ∃ z, s.takeWhile (fun b => b == 32) = z := ⟨_, rfl⟩
  rw [hzz] at e1 hz
  unfold Lib.trimB Lib.trimLeftB Lib.trimRightB Sf.trimS
  obtain ⟨m, hm⟩ : ∃ m, Sf.blk s = m := ⟨_, rfl⟩
  have hh := dw_head (fun b : UInt8 => b == 32) s
  have hbl : s.dropWhile (fun b => b == 32) = m := hm
  rw [hbl] at hh
  rw [hm] at e1 ⊢
  rw [e1, List.reverse_append]
  rcases hh with rfl | ⟨c, r, rfl, hc⟩
  · have : (([] : List UInt8).reverse ++ z.reverse).dropWhile (fun x => x == 32) = [] := by
      have h2 := dw_all (fun x : UInt8 => x == 32) z.reverse [] (fun x hx => hz x (List.mem_reverse.1 hx))
      simpa using h2
    rw [this]; rfl
  · rw [dw_app _ _ _ ⟨c, by simp, hc⟩, List.reverse_append, List.reverse_reverse, dw_all _ _ _ hz]
    have h3 : ∃ q, (c :: r).reverse.dropWhile (fun x => x == 32) = q ++ [c] := by
      rw [List.reverse_cons]
      cases hr : r.reverse.any (fun x => !(x == 32)) with
      | true =>
        obtain ⟨x, hx, hp⟩ := List.any_eq_true.1 hr
        exact ⟨_, dw_app _ _ _ ⟨x, hx, by simpa using hp⟩⟩
      | false =>
        refine ⟨[], ?_⟩
        rw [dw_all _ _ _ (fun x hx => by have := List.any_eq_false.1 hr x hx; simpa using this), List.dropWhile_cons_of_neg (by rw [hc]; simp)]
        rfl
    obtain ⟨q, hq⟩ := h3
    have e : ((c :: r).reverse.dropWhile (fun x => x == 32)).reverse = c :: q.reverse := by rw [hq]; simp
    rw [e, List.dropWhile_cons_of_neg (by rw [hc]; simp)]
theorem trim_any (s : List UInt8) (w : World) (hs : s.length ≤ 1000000) : Calls Tryz.prog 51 #[.string (bA s), .string ⟨#[32]⟩] w fun e w' => e = .returned (.string (bA (Sf.trimS s))) ∧ Below w.heap.size w w' := by
  refine (Tryz.strings_Trim_one (bA s) 32 (by decide) w (by rw [bA_size]; omega)).mono ?_
  rintro e w' ⟨rfl, hw⟩
  refine ⟨by rw [show (bA s).data.toList = s from rfl, trim_is], ?_⟩
  rcases hw with rfl | rfl
  · exact Below.refl _ _
  · exact (Below.refl _ _).drew

def RetP (w : World) (o : Option Sf.Itm) (e : Ending) (w' : World) : Prop :=
  Below w.heap.size w w' ∧ ((∃ x v, o = some x ∧ e = .returned (.tuple #[itmV x.kind x.n x.text v, .int .i64 0]) ∧ w'.ownsRow w.heap.size 72 4 v x.params.length (parsRow x.params)) ∨ (o = none ∧ e = .returned (.tuple #[itmV 0 0 [] (.slice none 0 0), .int .i64 50])))
theorem results_ret2 {fn : Func} (h : fn.results = #[.cell 2 66, .tmp 3]) (tmps : Array Value) (w : World) {B : Nat} {k n : Int} {t : List UInt8} {l : Value} (hp : tmps[2]?.getD undef = .pointer (some ⟨B, 0, none⟩)) (hb : CBox w B 66 (iC k n t l)) :
    (results fn tmps).run Tryz.prog w = .ok (.tuple #[itmV k n t l, tmps.getD 3 undef]) w := by
  have hl := load_itm hb
  simp [results, h, hp, hl, asAddr]

theorem below_al {a b : World} (h : Below a.heap.size a b) (o : Obj) : Below a.heap.size a (b.alloc o) := h.alloc h.size o
set_option maxHeartbeats 1000000 in
set_option maxRecDepth 20000 in
theorem parse_any (s : List UInt8) (w : World) : Calls Tryz.prog 42 #[.string (bA s)] w (RetP w (Sf.parse s)) := by
  by_cases hl : 4000 < s.length
  · have hn : Sf.parse s = none := by unfold Sf.parse; rw [if_pos hl]
    rw [hn]
    have hl' : (4000 : Int) < (s.length : Int) := by omega
    clear hn hl
    go_enter Tryz.func42, Tryz.ntmps42
    go_wp2_with fail
    refine bodyPost_ret (results_ret2 (k := 0) (n := 0) (t := []) rfl _ _ rfl (CBox.new w _ _)) rfl ?_
    exact ⟨(Below.refl _ _).alloc (Nat.le_refl _) _, .inr ⟨rfl, rfl⟩⟩
  · have hl' : (s.length : Int) ≤ 4000 := by omega
    have hb := Lib.hid (CBox.new w 66 zI)
    have htl := Sf.trim_len s
    have H1 := Lib.hid (trim_any s (w.alloc (.cells zI 66)) (by omega))
    obtain ⟨o, ho⟩ : ∃ o, Sf.parse s = o := ⟨_, rfl⟩
    have HO : Hid ((match Sf.next (Sf.trimS s) with | none => none | some (x, r) => if r = [] then some x else none) = o) := by
      rw [Hid, ← ho]; unfold Sf.parse; rw [if_neg hl]; rfl
    rw [ho]
    clear ho
    go_enter Tryz.func42, Tryz.ntmps42
    go_wp2_with fail
    refine H1.out.mono ?_
    rintro e w1 ⟨rfl, hb1⟩
    have H2 := Lib.hid (next_any (Sf.trimS s) w1 (by omega))
    have hB1 := Lib.hid (((Below.refl _ w).alloc (Nat.le_refl _) (.cells zI 66)).trans (hb1.mono (by simp)))
    have hI1 := Lib.hid (hb.out.keep hb1)
    clear hb1 hb H1
    go_wp2_with fail
    refine H2.out.mono ?_
    rintro e w2 ⟨hb2, ⟨x, r, v, hx, rfl, hw⟩ | ⟨hx, rfl⟩⟩
    · have hI2 := hI1.out.keep hb2
      have hB2 := hB1.out.trans (hb2.mono hB1.out.size)
      have hlt := hI2.lt
      obtain ⟨va, vc, rfl⟩ := slice4 hw
      have HI2 := Lib.hid hI2
      have HB2 := Lib.hid hB2
      have hsz : w.heap.size < w1.heap.size := hI1.out.lt
      have HW2 := Lib.hid (owns_base4 hw (show w.heap.size + 1 ≤ w1.heap.size by omega))
      obtain ⟨c0, c1, c2, c3, f0, f1, f2, f3⟩ := hI2.all4
      rw [hx] at HO
      clear hx hw hI2 hB2 hb2 H2 hI1 hB1
      have hne : ¬ w2.heap.size = w.heap.size := by omega
      have hne' : ¬ w.heap.size = w2.heap.size := by omega
      unfold itmV iC
      cases r with
      | nil =>
        have hO : o = some x := by rw [← HO.out]; rfl
        have HO2 := Lib.hid hO
        clear hO HO
        go_wp2_with fail
        have hgA : w2.grownBy (set4 w2 w.heap.size (.int .i64 x.kind) (.int .i64 x.n) (.string (bA x.text)) (.slice va x.params.length vc)) (some w.heap.size) := g_set4 (g_refl _ _) _ _ _ _ (.inr rfl)
        refine bodyPost_ret (results_ret2 rfl _ _ rfl ((HI2.out.set4 _ _ _ _).alloc _)) rfl ?_
        rw [HO2.out]
        exact ⟨below_al (HB2.out.grown hgA HB2.out.size (fun k hk => by cases hk; exact Nat.le_refl _)) _, .inl ⟨x, _, rfl, rfl, (owns_base4 (HW2.out.kept hgA (not_own4 HW2.out (by omega))) (by omega)).alloc _⟩⟩
      | cons c r =>
        have hO : o = none := by rw [← HO.out]; rfl
        have HO2 := Lib.hid hO
        clear hO HO
        go_wp2_with fail
        have hgA : w2.grownBy (set4 w2 w.heap.size (.int .i64 0) (.int .i64 0) (.string (bA [])) (.slice none 0 0)) (some w.heap.size) := g_set4 (g_refl _ _) _ _ _ _ (.inr rfl)
        refine bodyPost_ret (results_ret2 (k := 0) (n := 0) (t := []) rfl _ _ rfl ((HI2.out.set4 _ _ _ _).alloc _)) rfl ?_
        rw [HO2.out]
        exact ⟨below_al (HB2.out.grown hgA HB2.out.size (fun k hk => by cases hk; exact Nat.le_refl _)) _, .inr ⟨rfl, rfl⟩⟩
    · have hO : o = none := by rw [← HO.out, hx]
      have HO2 := Lib.hid hO
      have hI2 := hI1.out.keep hb2
      have hB2 := hB1.out.trans (hb2.mono hB1.out.size)
      have hlt := hI2.lt
      have HI2 := Lib.hid hI2
      have HB2 := Lib.hid hB2
      obtain ⟨c0, c1, c2, c3, f0, f1, f2, f3⟩ := hI2.all4
      clear hx hI2 hB2 hb2 H2 hI1 hB1 hO HO
      have hne : ¬ w2.heap.size = w.heap.size := by omega
      have hne' : ¬ w.heap.size = w2.heap.size := by omega
      unfold itmV iC
      go_wp2_with fail
      have hgA : w2.grownBy (set4 w2 w.heap.size (.int .i64 0) (.int .i64 0) (.string (bA [])) (.slice none 0 0)) (some w.heap.size) := g_set4 (g_refl _ _) _ _ _ _ (.inr rfl)
      refine bodyPost_ret (results_ret2 (k := 0) (n := 0) (t := []) rfl _ _ rfl ((HI2.out.set4 _ _ _ _).alloc _)) rfl ?_
      rw [HO2.out]
      exact ⟨below_al (HB2.out.grown hgA HB2.out.size (fun k hk => by cases hk; exact Nat.le_refl _)) _, .inr ⟨rfl, rfl⟩⟩
end Go.Proofs.YtgddmihojladfaaGreatDoor
