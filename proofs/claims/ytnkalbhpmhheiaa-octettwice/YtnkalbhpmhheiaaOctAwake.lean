/- The contract of the statements' head: the calls whose answers the document fixes are answered so. -/
import Derived.Test.YtnkalbhpmhheiaaOctNum
import Derived.Test.YtnkalbhpmhheiaaOctLow
import Derived.Test.YtnkalbhpmhheiaaOctTexts
import Derived.Test.YtnkalbhpmhheiaaOctWords
namespace Go.Proofs.Ytnkalbhpmhheiaa
open Go.RowKit

theorem aw_num80 (w : World) : Calls Try.prog 23 #[.string ⟨#[56, 48]⟩, .int .i64 99] w fun e w' => e = .returned (.tuple #[.int .i64 80, .bool true]) ∧ w = w' :=
  (number_any _ _ _ (by decide) (by decide) (by decide)).mono (by rintro e w' ⟨rfl, h⟩; exact ⟨by kernel_rfl, h⟩)
theorem aw_num080 (w : World) : Calls Try.prog 23 #[.string ⟨#[48, 56, 48]⟩, .int .i64 99] w fun e w' => e = .returned (.tuple #[.int .i64 0, .bool false]) ∧ w = w' :=
  (number_any _ _ _ (by decide) (by decide) (by decide)).mono (by rintro e w' ⟨rfl, h⟩; exact ⟨by kernel_rfl, h⟩)
theorem aw_lower (w : World) : Calls Try.prog 12 #[.string ⟨#[97, 90]⟩] w fun e w' => e = .returned (.string ⟨#[97, 122]⟩) ∧ Below w.heap.size w w' :=
  (lower_any _ _ (by decide)).mono (by rintro e w' ⟨rfl, h⟩; exact ⟨by kernel_rfl, h⟩)
theorem aw_fold (w : World) : Calls Try.prog 16 #[.string ⟨#[88, 45, 89]⟩, .string ⟨#[120, 45, 121]⟩] w fun e w' => e = .returned (.bool true) ∧ Below w.heap.size w w' :=
  (fold_any _ _ _ (by decide) (by decide)).mono (by rintro e w' ⟨rfl, h⟩; exact ⟨by kernel_rfl, h⟩)
theorem aw_trim (w : World) : Calls Try.prog 14 #[.string ⟨#[9, 97, 32, 98, 32]⟩] w fun e w' => e = .returned (.string ⟨#[97, 32, 98]⟩) ∧ w = w' :=
  (trim_any _ _ (by decide)).mono (by rintro e w' ⟨rfl, h⟩; exact ⟨by kernel_rfl, h⟩)
theorem aw_token (w : World) : Calls Try.prog 25 #[.string ⟨#[120, 45, 121]⟩] w fun e w' => e = .returned (.bool true) ∧ w = w' :=
  (token_any _ _ (by decide)).mono (by rintro e w' ⟨rfl, h⟩; exact ⟨by kernel_rfl, h⟩)
theorem aw_token0 (w : World) : Calls Try.prog 25 #[.string ⟨#[]⟩] w fun e w' => e = .returned (.bool false) ∧ w = w' :=
  (token_any _ _ (by decide)).mono (by rintro e w' ⟨rfl, h⟩; exact ⟨by kernel_rfl, h⟩)
/-- A slice of so many texts is answered. -/
def RetLen (w : World) (n : Nat) (e : Ending) (w' : World) : Prop := ∃ ao c, e = .returned (.slice ao n c) ∧ Below w.heap.size w w'
theorem RetTexts.len {w : World} {ps : List (List UInt8)} {e : Ending} {w' : World} (h : RetTexts w ps e w') (n : Nat) (hn : ps.length = n) : RetLen w n e w' := by
  obtain ⟨v, rfl, hb, ho⟩ := h
  subst hn
  rcases owns_view ho with ⟨rfl, rfl⟩ | ⟨g, c, rfl, _⟩
  · exact ⟨_, _, rfl, hb⟩
  · exact ⟨_, _, rfl, hb⟩
theorem aw_split (w : World) : Calls Try.prog 19 #[.string ⟨#[97, 44, 44, 98]⟩, .int .u8 44] w (RetLen w 3) :=
  (split_any _ _ _ (by decide)).mono (fun _ _ h => h.len 3 (by decide +kernel))
theorem aw_words (w : World) : Calls Try.prog 21 #[.string ⟨#[32, 97, 32, 32, 98, 32]⟩] w (RetLen w 2) :=
  (words_any _ _ (by decide)).mono (fun _ _ h => h.len 2 (by decide +kernel))

theorem Below.onto {w w1 w2 : World} (h : Below w.heap.size w w1) (h2 : Below w1.heap.size w1 w2) : Below w.heap.size w w2 := h.trans (h2.mono h.size)

set_option maxHeartbeats 1000000 in
theorem awake_any (w : World) : Calls Try.prog 11 #[] w fun e w' => e = .returned (.bool true) ∧ Below w.heap.size w w' := by
  go_enter Try.func11, Try.ntmps11
  go_wp2_with fail
  refine (aw_num80 _).mono ?_
  rintro e w1 ⟨rfl, rfl⟩
  go_wp2_with fail
  refine (aw_num080 _).mono ?_
  rintro e w1 ⟨rfl, rfl⟩
  go_wp2_with fail
  refine (aw_split _).mono ?_
  rintro e w1 ⟨ao1, c1, rfl, hb1⟩
  go_wp2_with fail
  refine (aw_lower _).mono ?_
  rintro e w2 ⟨rfl, hb2⟩
  go_wp2_with fail
  refine (aw_fold _).mono ?_
  rintro e w3 ⟨rfl, hb3⟩
  go_wp2_with fail
  refine (aw_trim _).mono ?_
  rintro e w4 ⟨rfl, rfl⟩
  go_wp2_with fail
  refine (aw_words _).mono ?_
  rintro e w5 ⟨ao2, c2, rfl, hb5⟩
  go_wp2_with fail
  refine (aw_token _).mono ?_
  rintro e w6 ⟨rfl, rfl⟩
  go_wp2_with fail
  refine (aw_token0 _).mono ?_
  rintro e w6 ⟨rfl, rfl⟩
  go_wp2_with fail
  go_ret
  exact ⟨rfl, Below.onto (Below.onto (Below.onto hb1 hb2) hb3) hb5⟩
end Go.Proofs.Ytnkalbhpmhheiaa
