/- The walk of SfitemBegins. -/
import Derived.Test.YtilclhhpmenjaaaGreatDoorSfLaws6
namespace Go.Proofs.YtilclhhpmenjaaaGreatDoor
open Go.RowKit Go.Shelf Go.Maps Go.Deep

theorem rnext_some {s : List UInt8} {x : Sf.Itm} {r : List UInt8} (h : Sf.next s = some (x, r)) (w : World) (hs : s.length ≤ 1000000) : Calls Tryz.prog 17 #[.string (bA s)] w fun e w' => ∃ A c, e = .returned (.tuple #[.agg #[.int .i64 x.kind, .int .i64 x.n, .string (bA x.text), .slice A x.params.length c], .string (bA r), .int .i64 0]) ∧ Below w.heap.size w w' ∧ w'.ownsRow w.heap.size 44 4 (.slice A x.params.length c) x.params.length (parsRow x.params) := by
  refine (rnext_any s w hs).mono ?_
  rintro e w' ⟨hb, ⟨y, r', v, ho, rfl, hw⟩ | ⟨ho, _⟩⟩
  · rw [h] at ho; cases ho
    obtain ⟨A, c, rfl⟩ := slice4 hw
    exact ⟨A, c, rfl, hb, hw⟩
  · rw [h] at ho; cases ho
theorem rnext_none {s : List UInt8} (h : Sf.next s = none) (w : World) (hs : s.length ≤ 1000000) : Calls Tryz.prog 17 #[.string (bA s)] w fun e w' => e = .returned (.tuple #[.agg #[.int .i64 0, .int .i64 0, .string ⟨#[]⟩, .slice none 0 0], .string ⟨#[]⟩, .int .i64 50]) ∧ Below w.heap.size w w' := by
  refine (rnext_any s w hs).mono ?_
  rintro e w' ⟨hb, ⟨y, r, v, ho, rfl, hw⟩ | ⟨_, rfl⟩⟩
  · rw [h] at ho; cases ho
  · exact ⟨rfl, hb⟩
/-- A list of parameters, what stands behind, and the error, in one form. -/
theorem list_form (o : Option (List Sf.Par × List UInt8)) : ∃ (l : List Sf.Par) (r : List UInt8) (E : Int), (o = some (l, r) ∧ E = 0) ∨ (o = none ∧ l = [] ∧ r = [] ∧ E = 50) := by
  cases o with
  | none => exact ⟨[], [], 50, .inr ⟨rfl, rfl, rfl, rfl⟩⟩
  | some x => exact ⟨x.1, x.2, 0, .inl ⟨rfl, rfl⟩⟩
theorem item_form (o : Option (Sf.Itm × List UInt8)) : ∃ (x : Sf.Itm) (r : List UInt8) (E : Int), (o = some (x, r) ∧ E = 0) ∨ (o = none ∧ x = ⟨0, 0, [], []⟩ ∧ r = [] ∧ E = 50) := by
  cases o with
  | none => exact ⟨⟨0, 0, [], []⟩, [], 50, .inr ⟨rfl, rfl, rfl, rfl⟩⟩
  | some x => exact ⟨x.1, x.2, 0, .inl ⟨rfl, rfl⟩⟩
/-- What a list's reading answers, whichever it is. -/
def LsR (w : World) (l : List Sf.Par) (r : List UInt8) (E : Int) (e : Ending) (w' : World) : Prop := ∃ A c, e = .returned (.tuple #[.slice A l.length c, .string (bA r), .int .i64 E]) ∧ Below w.heap.size w w' ∧ w'.ownsRow w.heap.size 44 4 (.slice A l.length c) l.length (parsRow l)
def ItR (w : World) (x : Sf.Itm) (r : List UInt8) (E : Int) (e : Ending) (w' : World) : Prop := ∃ A c, e = .returned (.tuple #[.agg #[.int .i64 x.kind, .int .i64 x.n, .string (bA x.text), .slice A x.params.length c], .string (bA r), .int .i64 E]) ∧ Below w.heap.size w w' ∧ w'.ownsRow w.heap.size 44 4 (.slice A x.params.length c) x.params.length (parsRow x.params)
theorem lsR_of {o : Option (List Sf.Par × List UInt8)} {l : List Sf.Par} {r : List UInt8} {E : Int} (h : (o = some (l, r) ∧ E = 0) ∨ (o = none ∧ l = [] ∧ r = [] ∧ E = 50)) {w w' : World} {e : Ending} (hr : RetL w o e w') : LsR w l r E e w' := by
  obtain ⟨hb, ⟨l', r', v, ho, rfl, hw⟩ | ⟨ho, rfl⟩⟩ := hr
  · rcases h with ⟨h1, rfl⟩ | ⟨h1, _⟩
    · rw [h1] at ho; cases ho
      obtain ⟨A, c, rfl⟩ := slice4 hw
      exact ⟨A, c, rfl, hb, hw⟩
    · rw [h1] at ho; cases ho
  · rcases h with ⟨h1, _⟩ | ⟨_, rfl, rfl, rfl⟩
    · rw [h1] at ho; cases ho
    · exact ⟨none, 0, rfl, hb, World.ownsRow_nil _ _ _ _⟩
theorem itR_of {o : Option (Sf.Itm × List UInt8)} {x : Sf.Itm} {r : List UInt8} {E : Int} (h : (o = some (x, r) ∧ E = 0) ∨ (o = none ∧ x = ⟨0, 0, [], []⟩ ∧ r = [] ∧ E = 50)) {w w' : World} {e : Ending} (hr : RetI w o e w') : ItR w x r E e w' := by
  obtain ⟨hb, ⟨l', r', v, ho, rfl, hw⟩ | ⟨ho, rfl⟩⟩ := hr
  · rcases h with ⟨h1, rfl⟩ | ⟨h1, _⟩
    · rw [h1] at ho; cases ho
      obtain ⟨A, c, rfl⟩ := slice4 hw
      exact ⟨A, c, rfl, hb, hw⟩
    · rw [h1] at ho; cases ho
  · rcases h with ⟨h1, _⟩ | ⟨_, rfl, rfl, rfl⟩
    · rw [h1] at ho; cases ho
    · exact ⟨none, 0, rfl, hb, World.ownsRow_nil _ _ _ _⟩
theorem keyR_of {o : Option (List UInt8 × List UInt8)} {w w' : World} {e : Ending} (hr : RetK w o e w') : e = .returned (keyV o) ∧ Below w.heap.size w w' := by
  obtain ⟨hb, ⟨k, r, rfl, rfl⟩ | ⟨rfl, rfl⟩⟩ := hr
  · exact ⟨rfl, hb⟩
  · exact ⟨rfl, hb⟩
theorem key3 (o : Option (List UInt8 × List UInt8)) : ∃ (K R : List UInt8) (E : Int), keyV o = .tuple #[.string (bA K), .string (bA R), .int .i64 E] := by
  cases o with
  | none => exact ⟨[], [], 50, rfl⟩
  | some x => exact ⟨x.1, x.2, 0, rfl⟩

set_option maxHeartbeats 4000000 in
set_option maxRecDepth 100000 in
theorem walk_SfitemBegins (s : ByteArray) (w : World) (hs : s.size ≤ maxLen) (hT : Tab w) (hM : TabM w) : Calls Tryz.prog 5 #[.string s] w fun e w' => e = .returned (.bool true) ∧ Below w.heap.size w w' := by
  unfold maxLen at hs
  have H := Lib.hid (awake_any w hT hM)
  clear hT hM
  by_cases hl : 4000 < s.size
  · have hl' : (4000 : Int) < (s.size : Int) := by omega
    go_enter Tryz.func5, Tryz.ntmps5
    go_wp2_with fail
    refine H.out.mono ?_
    rintro e w1 ⟨rfl, hb1⟩
    go_wp2_with fail
    go_ret
    exact ⟨rfl, hb1⟩
  · have hl' : (s.size : Int) ≤ 4000 := by omega
    have hsl : s.data.toList.length = s.size := by simp
    obtain ⟨x, r, E, hx⟩ := item_form (Sf.next s.data.toList)
    obtain ⟨m, u, F, hm⟩ := list_form (Sf.pars s.data.toList)
    obtain ⟨K, R, G, hk⟩ := key3 (Sf.keyOf s.data.toList)
    have H1 : Hid (∀ W : World, Calls Tryz.prog 16 #[.string s] W (ItR W x r E)) := Lib.hid (fun W => (next_any s.data.toList W (by omega)).mono fun e w' h => itR_of hx h)
    have H2 : Hid (∀ W : World, Calls Tryz.prog 17 #[.string s] W (ItR W x r E)) := Lib.hid (fun W => (rnext_any s.data.toList W (by omega)).mono fun e w' h => itR_of hx h)
    have H3 : Hid (∀ W : World, Calls Tryz.prog 18 #[.string s] W (LsR W m u F)) := Lib.hid (fun W => (params_is_any s.data.toList W (by omega)).mono fun e w' h => lsR_of hm h)
    have H4 : Hid (∀ W : World, Calls Tryz.prog 19 #[.string s] W (LsR W m u F)) := Lib.hid (fun W => (rparams_any s.data.toList W (by omega)).mono fun e w' h => lsR_of hm h)
    have H5 : Hid (∀ W : World, Calls Tryz.prog 21 #[.string s] W fun e w' => e = .returned (.tuple #[.string (bA K), .string (bA R), .int .i64 G]) ∧ Below W.heap.size W w') := Lib.hid (fun W => (key_is_any s.data.toList W (by omega)).mono fun e w' h => by rw [← hk]; exact keyR_of h)
    have H6 : Hid (∀ W : World, Calls Tryz.prog 22 #[.string s] W fun e w' => e = .returned (.tuple #[.string (bA K), .string (bA R), .int .i64 G]) ∧ Below W.heap.size W w') := Lib.hid (fun W => (rkey_any s.data.toList W (by omega)).mono fun e w' h => by
      obtain ⟨h1, q, h2⟩ := h
      rw [← hk, h2]; exact ⟨h1, below_drew _ _⟩)
    obtain ⟨xk, xn, xt, xl⟩ := x
    clear hx hm hk hsl hl
    go_enter Tryz.func5, Tryz.ntmps5
    go_wp2_with fail
    refine H.out.mono ?_
    rintro e w1 ⟨rfl, hb1⟩
    have HB1 := Lib.hid hb1
    clear hb1
    go_wp2_with fail
    refine (H1.out _).mono ?_
    rintro e w2 ⟨A, cp, rfl, hb2, ho2⟩
    simp only at ho2 ⊢
    have HB2 := Lib.hid (below_al (onto HB1.out hb2) (.cells (iC xk xn xt (.slice A xl.length cp)) 25))
    have HX2 := Lib.hid (IBox.new (k := xk) (n := xn) (t := xt) ho2)
    clear hb2 ho2
    go_wp2_with fail
    refine (H2.out _).mono ?_
    rintro e w3 ⟨A3, cp3, rfl, hb3, ho3⟩
    simp only at ho3 ⊢
    have HB3 := Lib.hid (below_al (onto HB2.out hb3) (.cells (iC xk xn xt (.slice A3 xl.length cp3)) 25))
    have hX3 := (HX2.out.keep hb3).alloc (.cells (iC xk xn xt (.slice A3 xl.length cp3)) 25)
    have hY3 := IBox.new (k := xk) (n := xn) (t := xt) ho3
    have H7 := Lib.hid (same_any xk xn xk xn xt xt A A3 cp cp3 xl xl _ hX3.seen hY3.seen hX3.len)
    rw [decide_eq_true rfl] at H7
    have hlt := (HX2.out.keep hb3).lt
    obtain ⟨c0, c1, c2, c3⟩ := (HX2.out.keep hb3).cells
    have hne : ¬ w2.heap.size = w3.heap.size := by omega
    clear hb3 ho3 hX3 hY3 HX2
    go_wp2_with fail
    refine H7.out.mono ?_
    rintro e w4 ⟨rfl, hb4⟩
    have HB4 := Lib.hid (onto HB3.out hb4)
    clear hb4 H7 c0 c1 c2 c3
    go_wp2_with fail
    refine (H3.out _).mono ?_
    rintro e w5 ⟨A5, cp5, rfl, hb5, ho5⟩
    have HB5 := Lib.hid (onto HB4.out hb5)
    have HS5 := Lib.hid (SeenP.own ho5)
    have hml := own_len4 ho5
    clear hb5 ho5
    go_wp2_with fail
    refine (H4.out _).mono ?_
    rintro e w6 ⟨A6, cp6, rfl, hb6, ho6⟩
    have HB6 := Lib.hid (onto HB5.out hb6)
    have H8 := Lib.hid (sameP_any A5 A6 cp5 cp6 m m w6 (HS5.out.below hb6) (SeenP.own ho6) hml)
    rw [decide_eq_true rfl] at H8
    clear hb6 ho6 hml
    go_wp2_with fail
    refine H8.out.mono ?_
    rintro e w7 ⟨rfl, hb7⟩
    have HB7 := Lib.hid (onto HB6.out hb7)
    clear hb7 H8
    go_wp2_with fail
    refine (H5.out _).mono ?_
    rintro e w8 ⟨rfl, hb8⟩
    have HB8 := Lib.hid (onto HB7.out hb8)
    clear hb8
    go_wp2_with fail
    refine (H6.out _).mono ?_
    rintro e w9 ⟨rfl, hb9⟩
    have HB9 := Lib.hid (onto HB8.out hb9)
    clear hb9
    go_wp2_with fail
    go_ret
    exact ⟨rfl, HB9.out⟩
end Go.Proofs.YtilclhhpmenjaaaGreatDoor
