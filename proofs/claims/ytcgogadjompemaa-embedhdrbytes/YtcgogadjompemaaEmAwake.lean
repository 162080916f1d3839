/- The contracts of the statements' lines and of their head (awake). -/
import Derived.Test.YtcgogadjompemaaEmXfo
import Derived.Test.YtcgogadjompemaaLowFew
namespace Go.Proofs.Ytcgogadjompemaa
open Go.RowKit

set_option maxHeartbeats 1000000 in
theorem load_line (w : World) (a b : ByteArray) : (loadVar 28 ⟨w.heap.size, 0, none⟩).run Try.prog (w.alloc (.cells #[.string a, .string b] 28)) = .ok (.agg #[.string a, .string b]) (w.alloc (.cells #[.string a, .string b] 28)) := by
  have hg := World.alloc_heap_new w (.cells #[.string a, .string b] 28)
  generalize w.alloc (.cells #[.string a, .string b] 28) = W at hg ⊢
  have c0 : W.cell? ⟨w.heap.size, 0, none⟩ = some (.string a) := by simp [World.cell?, hg]
  have c1 : W.cell? ⟨w.heap.size, 1, none⟩ = some (.string b) := by simp [World.cell?, hg]
  simp [go_sem, c0, c1]
theorem results_line {fn : Func} {t : Tmp} (h : fn.results = #[.cell t 28]) (tmps : Array Value) (w : World) (a b : ByteArray) (hp : tmps[t]?.getD undef = .pointer (some ⟨w.heap.size, 0, none⟩)) :
    (results fn tmps).run Try.prog (w.alloc (.cells #[.string a, .string b] 28)) = .ok (.agg #[.string a, .string b]) (w.alloc (.cells #[.string a, .string b] 28)) := by
  have hl := load_line w a b
  simp [results, h, hp, hl, asAddr]
theorem xfo_line (s : ByteArray) (w : World) : Calls Try.prog 15 #[.string s] w fun e w' => e = .returned (.agg #[.string (bA Em.nXG), .string s]) ∧ Below w.heap.size w w' := by
  go_enter Try.func15, Try.ntmps15
  go_wp2_with fail
  exact bodyPost_ret (results_line rfl _ w _ _ rfl) rfl ⟨rfl, (Below.refl _ w).alloc (Nat.le_refl _) _⟩
theorem corp_line (s : ByteArray) (w : World) : Calls Try.prog 18 #[.string s] w fun e w' => e = .returned (.agg #[.string (bA Em.nC), .string s]) ∧ Below w.heap.size w w' := by
  go_enter Try.func18, Try.ntmps18
  go_wp2_with fail
  exact bodyPost_ret (results_line rfl _ w _ _ rfl) rfl ⟨rfl, (Below.refl _ w).alloc (Nat.le_refl _) _⟩
/-- A list of one line, just laid. -/
theorem one_line (w : World) (a b : List UInt8) : SeenH (w.alloc (.cells #[.string (bA a), .string (bA b)] 28)) (some ⟨w.heap.size, 0, none⟩) [⟨a, b⟩] := seen_block (World.alloc_heap_new _ _) rfl
theorem two_line (w : World) (a b c d : List UInt8) : SeenH (w.alloc (.cells #[.string (bA a), .string (bA b), .string (bA c), .string (bA d)] 28)) (some ⟨w.heap.size, 0, none⟩) [⟨a, b⟩, ⟨c, d⟩] := seen_block (World.alloc_heap_new _ _) rfl
theorem small_one {a b : List UInt8} (ha : a.length ≤ 10000) (hb : b.length ≤ 5000) : SmallH [⟨a, b⟩] := ⟨by simp, fun x hx => by rw [List.mem_singleton.1 hx]; exact ⟨ha, hb⟩⟩
theorem small_two {a b c d : List UInt8} (ha : a.length ≤ 10000) (hb : b.length ≤ 5000) (hc : c.length ≤ 10000) (hd : d.length ≤ 5000) : SmallH [⟨a, b⟩, ⟨c, d⟩] := ⟨by simp, fun x hx => by
  rcases List.mem_cons.1 hx with rfl | hx
  · exact ⟨ha, hb⟩
  · rw [List.mem_singleton.1 hx]; exact ⟨hc, hd⟩⟩
theorem small_nil : SmallH [] := ⟨by simp, fun x hx => by simp at hx⟩
theorem seen_nil (w : World) (A : Option Addr) : SeenH w A [] := fun h => absurd h (by simp)
/-- embedhdr's answers of one line, just laid; the answer is given. -/
theorem corp_at {b : List UInt8} {x : Int} (hb : b.length ≤ 5000) (hx : Em.corpL [⟨Em.nC, b⟩] = x) (w : World) : Calls Try.prog 11 #[.slice (some ⟨w.heap.size, 0, none⟩) 1 1] (w.alloc (.cells #[.string (bA Em.nC), .string (bA b)] 28)) fun e w' => e = .returned (.int .i64 x) ∧ Below w.heap.size w w' := by
  have h := corp_any (some ⟨w.heap.size, 0, none⟩) 1 1 [⟨Em.nC, b⟩] _ rfl (small_one (by decide) hb) (one_line w Em.nC b)
  rw [hx] at h
  exact h.mono fun e w' ⟨h1, h2⟩ => ⟨h1, Below.onto1 (Below.refl _ w) h2⟩
theorem xfo_at {b : List UInt8} {x : Int} (hb : b.length ≤ 5000) (hx : Em.xfoL [⟨Em.nXG, b⟩] = x) (w : World) : Calls Try.prog 13 #[.slice (some ⟨w.heap.size, 0, none⟩) 1 1] (w.alloc (.cells #[.string (bA Em.nXG), .string (bA b)] 28)) fun e w' => e = .returned (.int .i64 x) ∧ Below w.heap.size w w' := by
  have h := xfo_any (some ⟨w.heap.size, 0, none⟩) 1 1 [⟨Em.nXG, b⟩] _ rfl (small_one (by decide) hb) (one_line w Em.nXG b)
  rw [hx] at h
  exact h.mono fun e w' ⟨h1, h2⟩ => ⟨h1, Below.onto1 (Below.refl _ w) h2⟩
def aw1 : List UInt8 := [115, 97, 109, 101, 45, 115, 105, 116, 101]
def aw2 : List UInt8 := [83, 97, 109, 101, 45, 83, 105, 116, 101]
def aw3 : List UInt8 := [68, 69, 78, 89]
def aw4 : List UInt8 := [120, 44, 32, 97, 108, 108, 111, 119, 97, 108, 108]
def aw5 : List UInt8 := [120, 44, 32, 121]
theorem aw1V : Em.corpL [⟨Em.nC, aw1⟩] = 2 := by decide +kernel
theorem aw2V : Em.corpL [⟨Em.nC, aw2⟩] = 0 := by decide +kernel
theorem aw3V : Em.xfoL [⟨Em.nXG, aw3⟩] = 1 := by decide +kernel
theorem aw4V : Em.xfoL [⟨Em.nXG, aw4⟩] = 1 := by decide +kernel
theorem aw5V : Em.xfoL [⟨Em.nXG, aw5⟩] = 0 := by decide +kernel
theorem aw6V : Em.xfoL [] = 0 := by decide +kernel
set_option maxHeartbeats 4000000 in
set_option maxRecDepth 20000 in
theorem awake9_any (w : World) : Calls Try.prog 9 #[] w fun e w' => e = .returned (.bool true) ∧ Below w.heap.size w w' := by
  have C1 := Lib.hid (corp_at (by decide) aw1V); have C2 := Lib.hid (corp_at (by decide) aw2V); have C3 := Lib.hid (xfo_at (by decide) aw3V)
  have C4 := Lib.hid (xfo_at (by decide) aw4V); have C5 := Lib.hid (xfo_at (by decide) aw5V)
  have C6 : Hid (∀ w, Calls Try.prog 13 #[.slice none 0 0] w fun e w' => e = .returned (.int .i64 0) ∧ Below w.heap.size w w') := Lib.hid fun w => by
    have h := xfo_any none 0 0 [] w rfl small_nil (seen_nil w _)
    rw [aw6V] at h; exact h
  unfold bA Em.nC aw1 at C1; unfold bA Em.nC aw2 at C2; unfold bA Em.nXG aw3 at C3; unfold bA Em.nXG aw4 at C4; unfold bA Em.nXG aw5 at C5
  go_enter Try.func9, Try.ntmps9
  go_wp2_with fail
  refine (corp_line _ _).mono ?_
  rintro e w1 ⟨rfl, hb1⟩
  have HB1 := Lib.hid hb1; clear hb1
  unfold bA Em.nC
  go_wp2_with fail
  refine (C1.out _).mono ?_
  rintro e w2 ⟨rfl, hb2⟩
  have HB2 := Lib.hid (Below.onto HB1.out hb2); clear hb2 HB1
  go_wp2_with fail
  refine (corp_line _ _).mono ?_
  rintro e w1 ⟨rfl, hb1⟩
  have HB1 := Lib.hid (Below.onto HB2.out hb1); clear hb1 HB2
  unfold bA Em.nC
  go_wp2_with fail
  refine (C2.out _).mono ?_
  rintro e w2 ⟨rfl, hb2⟩
  have HB2 := Lib.hid (Below.onto HB1.out hb2); clear hb2 HB1
  go_wp2_with fail
  refine (xfo_line _ _).mono ?_
  rintro e w1 ⟨rfl, hb1⟩
  have HB1 := Lib.hid (Below.onto HB2.out hb1); clear hb1 HB2
  unfold bA Em.nXG
  go_wp2_with fail
  refine (C3.out _).mono ?_
  rintro e w2 ⟨rfl, hb2⟩
  have HB2 := Lib.hid (Below.onto HB1.out hb2); clear hb2 HB1
  go_wp2_with fail
  refine (xfo_line _ _).mono ?_
  rintro e w1 ⟨rfl, hb1⟩
  have HB1 := Lib.hid (Below.onto HB2.out hb1); clear hb1 HB2
  unfold bA Em.nXG
  go_wp2_with fail
  refine (C4.out _).mono ?_
  rintro e w2 ⟨rfl, hb2⟩
  have HB2 := Lib.hid (Below.onto HB1.out hb2); clear hb2 HB1
  go_wp2_with fail
  refine (xfo_line _ _).mono ?_
  rintro e w1 ⟨rfl, hb1⟩
  have HB1 := Lib.hid (Below.onto HB2.out hb1); clear hb1 HB2
  unfold bA Em.nXG
  go_wp2_with fail
  refine (C5.out _).mono ?_
  rintro e w2 ⟨rfl, hb2⟩
  have HB2 := Lib.hid (Below.onto HB1.out hb2); clear hb2 HB1
  go_wp2_with fail
  refine (C6.out _).mono ?_
  rintro e w2 ⟨rfl, hb2⟩
  have HB1 := Lib.hid (Below.onto HB2.out hb2); clear hb2 HB2
  go_wp2_with fail
  go_ret
  exact ⟨rfl, HB1.out⟩
end Go.Proofs.Ytcgogadjompemaa
