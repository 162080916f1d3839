/- The walk of the statement on parts and words. -/
import Derived.Test.YtnkalbhpmhheiaaOctAwake
import Derived.Test.YtnkalbhpmhheiaaOctRwords
namespace Go.Proofs.Ytnkalbhpmhheiaa
open Go.RowKit

theorem owns_below {w w' : World} {base : Nat} {e : TypeId} {size : Nat} {v : Value} {n : Nat} {xs : List Value} (h : w.ownsRow base e size v n xs) (hb : Below w.heap.size w w') : w'.ownsRow base e size v n xs := by
  obtain ⟨h1, h2 | ⟨g, cap, cur, a, b, c, d⟩⟩ := h
  · exact ⟨h1, .inl h2⟩
  · exact ⟨h1, .inr ⟨g, cap, cur, a, b, by rw [hb.block g (lt_of_block c)]; exact c, d⟩⟩
theorem texts_same (b1 b2 : Nat) (v1 v2 : Value) (pa : List (List UInt8)) (w : World) (h1 : w.ownsRow b1 9 1 v1 pa.length (pa.map Oct.strV)) (h2 : w.ownsRow b2 9 1 v2 pa.length (pa.map Oct.strV)) :
    Calls Try.prog 18 #[v1, v2] w fun e w' => e = .returned (.bool true) ∧ Below w.heap.size w w' :=
  (texts_any b1 b2 v1 v2 pa pa w h1 h2).mono (by rintro e w' ⟨rfl, hb⟩; exact ⟨Oct.ret_bool (by simp), hb⟩)

set_option maxHeartbeats 1000000 in
theorem walk_OctetParts (s : ByteArray) (b : Int) (_ : s.size ≤ maxLen) (_ : (Lit.int .u8 b).wf = true) (hk : s.size ≤ 1048576) (w : World) :
    Calls Try.prog 4 #[.string s, .int .u8 b] w fun e w' => e = .returned (.bool true) ∧ Below w.heap.size w w' := by

  go_enter Try.func4, Try.ntmps4
  go_wp2_with fail
  refine (awake_any _).mono ?_
  rintro e w1 ⟨rfl, hb1⟩
  go_wp2_with fail
  refine (split_any _ _ _ (by omega)).mono ?_
  rintro e w2 ⟨v2, rfl, hb2, ho2⟩
  go_wp2_with fail
  refine (rsplit_any _ _ _ (by omega)).mono ?_
  rintro e w3 ⟨v3, rfl, hb3, ho3⟩
  have ho2' := owns_below ho2 hb3
  go_wp2_with fail
  refine (texts_same _ _ _ _ _ _ ho2' ho3).mono ?_
  rintro e w4 ⟨rfl, hb4⟩
  go_wp2_with fail
  refine (words_any _ _ (by omega)).mono ?_
  rintro e w5 ⟨v5, rfl, hb5, ho5⟩
  go_wp2_with fail
  refine (rwords_any _ _ (by omega)).mono ?_
  rintro e w6 ⟨v6, rfl, hb6, ho6⟩
  have ho5' := owns_below ho5 hb6
  go_wp2_with fail
  refine (texts_same _ _ _ _ _ _ ho5' ho6).mono ?_
  rintro e w7 ⟨rfl, hb7⟩
  go_wp2_with fail
  go_ret
  exact ⟨rfl, Below.onto (Below.onto (Below.onto (Below.onto (Below.onto (Below.onto hb1 hb2) hb3) hb4) hb5) hb6) hb7⟩
end Go.Proofs.Ytnkalbhpmhheiaa
