/- The contracts of coop's leaves: what isolates, what is but reported, the two maps of words, the reader's making, where reports go. -/
import Derived.Test.YtgddmihojladfaaGreatDoorCoMathAll
import Derived.Test.YtgddmihojladfaaGreatDoorHdPall
import Derived.Test.YtgddmihojladfaaGreatDoorSfParse
import Derived.Maps.Own
import Derived.Maps.Views
namespace Go.Proofs.YtgddmihojladfaaGreatDoor
open Go.RowKit
open Go.Maps Go.WideMaps

theorem isolates_any (k : Int) (w : World) : Calls Tryz.prog 19 #[.int .i64 k] w fun e w' => e = .returned (.bool (Co.isoB k)) ∧ w = w' := by
  go_enter Tryz.func19, Tryz.ntmps19
  go_wp2_with fail
  all_goals
    go_ret
    refine ⟨?_, rfl⟩
    first
    | rfl
    | (simp_all [Co.isoB]; done)
theorem risolates_any (k : Int) (w : World) : Calls Tryz.prog 20 #[.int .i64 k] w fun e w' => e = .returned (.bool (Co.isoB k)) ∧ w = w' := by
  go_enter Tryz.func20, Tryz.ntmps20
  go_wp2_with fail
  all_goals
    go_ret
    refine ⟨?_, rfl⟩
    first
    | rfl
    | (simp_all [Co.isoB]; done)

/-! ### what is but reported -/
theorem rep_fold (h : Hd.Hdr) : Co.repB h = (Hd.foldB h.name Co.nER || Hd.foldB h.name Co.nOR) := by
  unfold Co.repB
  rw [Co.fold_is Co.low_ER, Co.fold_is Co.low_OR, Bool.or_comm]
theorem isReported_any (s : List UInt8) (w : World) (hs : s.length ≤ 10000) : Calls Tryz.prog 26 #[.string (bA s)] w fun e w' => e = .returned (.bool (Hd.foldB s Co.nER || Hd.foldB s Co.nOR)) ∧ Below w.heap.size w w' := by
  obtain ⟨a, ha⟩ : ∃ a, Hd.foldB s Co.nER = a := ⟨_, rfl⟩
  obtain ⟨b, hb⟩ : ∃ b, Hd.foldB s Co.nOR = b := ⟨_, rfl⟩
  have f1 := fun W => fold_val hs (by decide) W ha
  have f2 := fun W => fold_val hs (by decide) W hb
  rw [ha, hb]
  clear ha hb hs
  have F1 := Lib.hid f1; have F2 := Lib.hid f2
  clear f1 f2
  go_enter Tryz.func26, Tryz.ntmps26
  go_wp2_with fail
  refine (F1.out _).mono ?_
  rintro e w1 ⟨rfl, hb1⟩
  cases a with
  | true =>
    go_wp2_with fail
    go_ret
    exact ⟨rfl, hb1⟩
  | false =>
    go_wp2_with fail
    refine (F2.out _).mono ?_
    rintro e w2 ⟨rfl, hb2⟩
    go_wp2_with fail
    go_ret
    exact ⟨by cases b <;> rfl, Below.onto hb1 hb2⟩

/-! ### the maps of words -/
theorem coLaw : Keyed Tryz.prog 9 := string_keyed Tryz.underlying9
theorem coZero (w : World) : (zeroValue 3).run Tryz.prog w = .ok (.int .i64 0) w := by kernel_rfl
def m2 (k1 : List UInt8) (v1 : Int) (k2 : List UInt8) (v2 : Int) : DataW Unit := ((DataW.map []).put (.string k1) (.lit (.int .i64 v1))).put (.string k2) (.lit (.int .i64 v2))
theorem m2_at (k1 k2 s : List UInt8) (v1 v2 : Int) : (m2 k1 v1 k2 v2).atKey (.string s) (.lit (.int .i64 0)) = .lit (.int .i64 (if s = k2 then v2 else if s = k1 then v1 else 0)) := by
  unfold m2
  by_cases h2 : s = k2
  · rw [if_pos h2]; subst h2
    exact atKey_put_same ⟨_, rfl⟩ (by trivial) _ _
  · rw [if_neg h2, atKey_put_other (fun e => h2 (Lit.string.inj e))]
    by_cases h1 : s = k1
    · rw [if_pos h1]; subst h1
      exact atKey_put_same ⟨_, rfl⟩ (by trivial) _ _
    · rw [if_neg h1, atKey_put_other (fun e => h1 (Lit.string.inj e))]
      rfl
/-- A map that answers f of any text. -/
def LooksUp (w : World) (v : Value) (f : List UInt8 → Int) : Prop := ∃ B, ∃ d : DataW Unit, v = .map (some B) ∧ w.ownsMap Tryz.prog 9 (plainElem Tryz.prog 3) B 2 d ∧ ∀ s, d.atKey (.string s) (.lit (.int .i64 0)) = .lit (.int .i64 (f s))
theorem LooksUp.below {w w' : World} {v : Value} {f : List UInt8 → Int} (h : LooksUp w v f) (hb : Below w.heap.size w w') : LooksUp w' v f := by
  obtain ⟨B, d, e, ho, hf⟩ := h
  exact ⟨B, d, e, ho.kept (row := none) (below_g hb none) (by simp), hf⟩
theorem LooksUp.run {w : World} {v : Value} {f : List UInt8 → Int} (h : LooksUp w v f) (s : List UInt8) (hs : s.length ≤ maxLen) : (Instr.lookup 47 v (.string (bA s)) false).run Tryz.prog w = .ok (.int .i64 (f s)) w := by
  obtain ⟨B, d, rfl, ho, hf⟩ := h
  obtain ⟨c, hr, hat, _⟩ := ho.lookup_int coLaw Tryz.underlying47 Tryz.underlying3 (coZero w) (key := .string (bA s)) (keyOf_string_mk Tryz.underlying9 (by rw [bA_size]; exact hs))
  rw [hr]
  have e : d.atKey (.string (bA s).data.toList) (.lit (.int .i64 0)) = .lit (.int .i64 (f s)) := hf s
  rw [e] at hat
  rw [← (Lit.int.inj (DataW.lit.inj hat)).2]
theorem two_made (w : World) (k1 k2 : List UInt8) (v1 v2 : Int) (l1 : k1.length ≤ maxLen) (l2 : k2.length ≤ maxLen) (i1 : (Lit.int .i64 v1).wf = true) (i2 : (Lit.int .i64 v2).wf = true) :
    ∃ w1 w2 : World, (Instr.mapUpdate 47 (.map (some w.heap.size)) (.string (bA k1)) (.int .i64 v1)).run Tryz.prog (w.alloc (.map #[] 0)) = .ok () w1 ∧
    (Instr.mapUpdate 47 (.map (some w.heap.size)) (.string (bA k2)) (.int .i64 v2)).run Tryz.prog w1 = .ok () w2 ∧ Below w.heap.size w w2 ∧
    LooksUp w2 (.map (some w.heap.size)) fun s => if s = k2 then v2 else if s = k1 then v1 else 0 := by
  obtain ⟨w1, r1, o1, g1⟩ := (World.ownsMap_made (H := Unit) w Tryz.prog 9 (plainElem Tryz.prog 3)).update coLaw Tryz.underlying47 (by unfold maxLen; omega) (key := .string (bA k1)) (val := .int .i64 v1) (keyOf_string_mk Tryz.underlying9 (by rw [bA_size]; exact l1)) (plainElem_int Tryz.underlying3 i1)
  obtain ⟨w2, r2, o2, g2⟩ := o1.update coLaw Tryz.underlying47 (by unfold maxLen; omega) (key := .string (bA k2)) (val := .int .i64 v2) (keyOf_string_mk Tryz.underlying9 (by rw [bA_size]; exact l2)) (plainElem_int Tryz.underlying3 i2)
  have hb0 : Below w.heap.size w (w.alloc (.map #[] 0)) := (Below.refl _ w).alloc (Nat.le_refl _) _
  have hb1 := hb0.grown g1 (by simp) (fun j hj => by cases hj; exact Nat.le_refl _)
  have hb2 := hb1.grown g2 hb1.size (fun j hj => by cases hj; exact Nat.le_refl _)
  exact ⟨w1, w2, r1, r2, hb2, ⟨w.heap.size, m2 k1 v1 k2 v2, rfl, o2, fun s => m2_at k1 k2 s v1 v2⟩⟩
set_option maxRecDepth 20000 in
theorem embedderValues_any (w : World) : Calls Tryz.prog 32 #[] w fun e w' => ∃ v, e = .returned v ∧ Below w.heap.size w w' ∧ LooksUp w' v Co.coepW := by
  have hmm := @run_makeMap Tryz.prog
  obtain ⟨w1, w2, r1, r2, hb, hl⟩ := two_made w Co.wCred Co.wReq 1 2 (by decide) (by decide) (by decide) (by decide)
  have HB := Lib.hid hb; have HL := Lib.hid hl
  clear hb hl
  unfold bA Co.wCred at r1; unfold bA Co.wReq at r2
  go_enter Tryz.func32, Tryz.ntmps32
  go_wp2_with fail
  go_ret
  exact ⟨_, rfl, HB.out, HL.out⟩
set_option maxRecDepth 20000 in
theorem openerValues_any (p : Bool) (w : World) : Calls Tryz.prog 29 #[.bool p] w fun e w' => ∃ v, e = .returned v ∧ Below w.heap.size w w' ∧ LooksUp w' v fun s => Co.coopW s p := by
  have hmm := @run_makeMap Tryz.prog
  have hw (q : Bool) (s : List UInt8) : Co.coopW s q = if s = Co.wPop then 1 else if s = Co.wSame then (if q then 3 else 2) else 0 := by
    unfold Co.coopW
    by_cases h : s = Co.wSame
    · subst h; rw [if_pos rfl, if_neg (show ¬ Co.wSame = Co.wPop by decide), if_pos rfl]
    · rw [if_neg h]
      by_cases h2 : s = Co.wPop
      · rw [if_pos h2, if_pos h2]
      · rw [if_neg h2, if_neg h2, if_neg h]
  cases p with
  | true =>
    obtain ⟨w1, w2, r1, r2, hb, hl⟩ := two_made w Co.wSame Co.wPop 3 1 (by decide) (by decide) (by decide) (by decide)
    have HB := Lib.hid hb; have HL := Lib.hid hl; have HW := Lib.hid hw
    clear hb hl hw
    unfold bA Co.wSame at r1; unfold bA Co.wPop at r2
    go_enter Tryz.func29, Tryz.ntmps29
    go_wp2_with fail
    go_ret
    refine ⟨_, rfl, HB.out, ?_⟩
    rw [show (fun s => Co.coopW s true) = _ from funext (HW.out true)]
    exact HL.out
  | false =>
    obtain ⟨w1, w2, r1, r2, hb, hl⟩ := two_made w Co.wSame Co.wPop 2 1 (by decide) (by decide) (by decide) (by decide)
    have HB := Lib.hid hb; have HL := Lib.hid hl; have HW := Lib.hid hw
    clear hb hl hw
    unfold bA Co.wSame at r1; unfold bA Co.wPop at r2
    go_enter Tryz.func29, Tryz.ntmps29
    go_wp2_with fail
    go_ret
    refine ⟨_, rfl, HB.out, ?_⟩
    rw [show (fun s => Co.coopW s false) = _ from funext (HW.out false)]
    exact HL.out

/-! ### the reader's making -/
theorem reader_any (A : Option Addr) (c n : Nat) (w : World) : Calls Tryz.prog 28 #[.slice A n c] w fun e w' => e = .returned (.func (.func 40) #[] #[.pointer (some ⟨w.heap.size, 0, none⟩)]) ∧ Below w.heap.size w w' ∧ Boxed w' w.heap.size 23 (.slice A n c) := by
  go_enter Tryz.func28, Tryz.ntmps28
  go_wp2_with fail
  go_ret
  exact ⟨rfl, (Below.refl _ w).alloc (Nat.le_refl _) _, World.alloc_heap_new _ _⟩
end Go.Proofs.YtgddmihojladfaaGreatDoor
