/- The walk of SfitemReads. -/
import Derived.Test.YtilclhhpmenjaaaGreatDoorSfRef11
import Derived.Test.YtilclhhpmenjaaaGreatDoorSfLaws3
namespace Go.Proofs.YtilclhhpmenjaaaGreatDoor
open Go.RowKit Go.Shelf Go.Maps Go.Deep

theorem seen_none (w : World) (A : Option Addr) : SeenP w A [] := fun h => by simp at h
/-- The document's Parse, its two answers. -/
theorem rparse_some {s : List UInt8} {x : Sf.Itm} (h : Sf.parse s = some x) (w : World) : Calls Tryz.prog 14 #[.string (bA s)] w fun e w' => ∃ A c, e = .returned (.tuple #[.agg #[.int .i64 x.kind, .int .i64 x.n, .string (bA x.text), .slice A x.params.length c], .int .i64 0]) ∧ Below w.heap.size w w' ∧ w'.ownsRow w.heap.size 44 4 (.slice A x.params.length c) x.params.length (parsRow x.params) := by
  refine (rparse_any s w).mono ?_
  rintro e w' ⟨hb, ⟨y, v, ho, rfl, hw⟩ | ⟨ho, _⟩⟩
  · rw [h] at ho; cases ho
    obtain ⟨A, c, rfl⟩ := slice4 hw
    exact ⟨A, c, rfl, hb, hw⟩
  · rw [h] at ho; cases ho
theorem rparse_none {s : List UInt8} (h : Sf.parse s = none) (w : World) : Calls Tryz.prog 14 #[.string (bA s)] w fun e w' => e = .returned (.tuple #[.agg #[.int .i64 0, .int .i64 0, .string ⟨#[]⟩, .slice none 0 0], .int .i64 50]) ∧ Below w.heap.size w w' := by
  refine (rparse_any s w).mono ?_
  rintro e w' ⟨hb, ⟨y, v, ho, rfl, hw⟩ | ⟨_, rfl⟩⟩
  · rw [h] at ho; cases ho
  · exact ⟨rfl, hb⟩

set_option maxHeartbeats 4000000 in
set_option maxRecDepth 100000 in
theorem walk_SfitemReads (s : ByteArray) (w : World) (hs : s.size ≤ maxLen) (hT : Tab w) (hM : TabM w) : Calls Tryz.prog 4 #[.string s] w fun e w' => e = .returned (.bool true) ∧ Below w.heap.size w w' := by
  unfold maxLen at hs
  have H := Lib.hid (awake_any w hT hM)
  clear hT hM
  by_cases hl : 5000 < s.size
  · have hl' : (5000 : Int) < (s.size : Int) := by omega
    go_enter Tryz.func4, Tryz.ntmps4
    go_wp2_with fail
    refine H.out.mono ?_
    rintro e w1 ⟨rfl, hb1⟩
    go_wp2_with fail
    go_ret
    exact ⟨rfl, hb1⟩
  · have hl' : (s.size : Int) ≤ 5000 := by omega
    cases hn : Sf.parse s.data.toList with
    | none =>
      have H1 : Hid (∀ W : World, Calls Tryz.prog 13 #[.string s] W fun e w' => e = .returned (.tuple #[.agg #[.int .i64 0, .int .i64 0, .string ⟨#[]⟩, .slice none 0 0], .int .i64 50]) ∧ Below W.heap.size W w') := Lib.hid (fun W => parse_none hn W)
      have H2 : Hid (∀ W : World, Calls Tryz.prog 14 #[.string s] W fun e w' => e = .returned (.tuple #[.agg #[.int .i64 0, .int .i64 0, .string ⟨#[]⟩, .slice none 0 0], .int .i64 50]) ∧ Below W.heap.size W w') := Lib.hid (fun W => rparse_none hn W)
      have H4 : Hid (∀ W : World, Calls Tryz.prog 15 #[.agg #[.int .i64 0, .int .i64 0, .string ⟨#[]⟩, .slice none 0 0], .agg #[.int .i64 0, .int .i64 0, .string ⟨#[]⟩, .slice none 0 0]] W fun e w' => e = .returned (.bool true) ∧ Below W.heap.size W w') := Lib.hid (fun W => same_any 0 0 0 0 [] [] none none 0 0 [] [] W (seen_none _ _) (seen_none _ _) (by simp))
      clear hn hl
      go_enter Tryz.func4, Tryz.ntmps4
      go_wp2_with fail
      refine H.out.mono ?_
      rintro e w1 ⟨rfl, hb1⟩
      have HB1 := Lib.hid hb1
      clear hb1
      go_wp2_with fail
      refine (H1.out _).mono ?_
      rintro e w2 ⟨rfl, hb2⟩
      have HB2 := Lib.hid (below_al (onto HB1.out hb2) (.cells (iC 0 0 [] (.slice none 0 0)) 25))
      have HX2 := Lib.hid (CBox.new w2 25 (iC 0 0 [] (.slice none 0 0)))
      clear hb2
      go_wp2_with fail
      refine (H2.out _).mono ?_
      rintro e w3 ⟨rfl, hb3⟩
      have HB3 := Lib.hid (below_al (onto HB2.out hb3) (.cells (iC 0 0 [] (.slice none 0 0)) 25))
      have hX3 := HX2.out.keep hb3
      have hlt := hX3.lt
      obtain ⟨c0, c1, c2, c3, _, _, _, _⟩ := hX3.all4
      have hne : ¬ w2.heap.size = w3.heap.size := by omega
      clear hb3 hX3 HX2
      go_wp2_with fail
      refine (H4.out _).mono ?_
      rintro e w4 ⟨rfl, hb4⟩
      have HB4 := Lib.hid (onto HB3.out hb4)
      clear hb4
      go_wp2_with fail
      go_ret
      exact ⟨rfl, HB4.out⟩
    | some x =>
      have H1 : Hid (∀ W : World, Calls Tryz.prog 13 #[.string s] W fun e w' => ∃ A c, e = .returned (.tuple #[.agg #[.int .i64 x.kind, .int .i64 x.n, .string (bA x.text), .slice A x.params.length c], .int .i64 0]) ∧ Below W.heap.size W w' ∧ w'.ownsRow W.heap.size 44 4 (.slice A x.params.length c) x.params.length (parsRow x.params)) := Lib.hid (fun W => parse_some hn W)
      have H2 : Hid (∀ W : World, Calls Tryz.prog 14 #[.string s] W fun e w' => ∃ A c, e = .returned (.tuple #[.agg #[.int .i64 x.kind, .int .i64 x.n, .string (bA x.text), .slice A x.params.length c], .int .i64 0]) ∧ Below W.heap.size W w' ∧ w'.ownsRow W.heap.size 44 4 (.slice A x.params.length c) x.params.length (parsRow x.params)) := Lib.hid (fun W => rparse_some hn W)
      obtain ⟨xk, xn, xt, xl⟩ := x
      simp only at H1 H2
      clear hn hl
      go_enter Tryz.func4, Tryz.ntmps4
      go_wp2_with fail
      refine H.out.mono ?_
      rintro e w1 ⟨rfl, hb1⟩
      have HB1 := Lib.hid hb1
      clear hb1
      go_wp2_with fail
      refine (H1.out _).mono ?_
      rintro e w2 ⟨A, cp, rfl, hb2, ho2⟩
      have HB2 := Lib.hid (below_al (onto HB1.out hb2) (.cells (iC xk xn xt (.slice A xl.length cp)) 25))
      have HX2 := Lib.hid (IBox.new (k := xk) (n := xn) (t := xt) ho2)
      clear hb2 ho2
      go_wp2_with fail
      refine (H2.out _).mono ?_
      rintro e w3 ⟨A3, cp3, rfl, hb3, ho3⟩
      have HB3 := Lib.hid (below_al (onto HB2.out hb3) (.cells (iC xk xn xt (.slice A3 xl.length cp3)) 25))
      have hX3 := (HX2.out.keep hb3).alloc (.cells (iC xk xn xt (.slice A3 xl.length cp3)) 25)
      have hY3 := IBox.new (k := xk) (n := xn) (t := xt) ho3
      have H4 := Lib.hid (same_any xk xn xk xn xt xt A A3 cp cp3 xl xl _ hX3.seen hY3.seen hX3.len)
      rw [decide_eq_true rfl] at H4
      have hlt := (HX2.out.keep hb3).lt
      obtain ⟨c0, c1, c2, c3⟩ := (HX2.out.keep hb3).cells
      have hne : ¬ w2.heap.size = w3.heap.size := by omega
      clear hb3 ho3 hX3 hY3 HX2
      go_wp2_with fail
      refine H4.out.mono ?_
      rintro e w4 ⟨rfl, hb4⟩
      have HB4 := Lib.hid (onto HB3.out hb4)
      clear hb4 H4
      go_wp2_with fail
      go_ret
      exact ⟨rfl, HB4.out⟩
end Go.Proofs.YtilclhhpmenjaaaGreatDoor
