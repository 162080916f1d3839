/- The contract of octet.Words. -/
import Derived.Test.YtcmbckacbdiebaaOctSplit
namespace Go.Proofs.Ytcmbckacbdiebaa
open Go.RowKit

def nonE (x : List UInt8) : Bool := !x.isEmpty

/-- What a round of cut, for Words, keeps. -/
structure WdInv (w wr : World) (Bo : Nat) (s : ByteArray) (k f : Nat) : Prop where
  bel : Below Bo w wr
  more : ∃ d c, Oct.st Oct.blankI (s.data.toList.take k) = (d, c) ∧ f + c.length = k ∧ Out wr Bo ((d.filter nonE).map Oct.strV)

theorem WdInv.no {w wr : World} {Bo : Nat} {s : ByteArray} {k f : Nat} (h : WdInv w wr Bo s k f) (hk : k < s.size) (hb : Oct.blankI s[k].toNat = false) : WdInv w wr Bo s (k + 1) f := by
  obtain ⟨hbel, d, c, h1, h2, h3⟩ := h
  refine ⟨hbel, d, c ++ [s[k]], ?_, by simp; omega, h3⟩
  rw [Oct.take_snoc s k hk]
  exact Oct.st_no _ d c _ _ h1 hb
theorem WdInv.take {w wr : World} {Bo : Nat} {s : ByteArray} {k f : Nat} (h : WdInv w wr Bo s k f) (hk : k ≤ s.size) (hs : s.size ≤ 8796093022206) :
    Calls Try.prog 45 #[.string (s.extract f k), .pointer (some ⟨Bo, 0, none⟩)] wr fun e w' => e = .returned (.tuple #[]) ∧ Below Bo w w' ∧
      ∃ d c, Oct.st Oct.blankI (s.data.toList.take k) = (d, c) ∧ Out w' Bo (((d ++ [c]).filter nonE).map Oct.strV) := by
  obtain ⟨hbel, d, c, h1, h2, h3⟩ := h
  have hl := Oct.st_len _ _ _ _ h1
  have hl2 : (s.data.toList.take k).length ≤ s.size := by simp; omega
  have hl3 := List.length_filter_le nonE d
  have hx := Oct.st_extract _ s k f d c h1 hk h2
  have hy : (s.extract f k).toList = c := by
    have : s.extract f k = ⟨c.toArray⟩ := by injection hx
    rw [this, Lib.toList_data]
  cases he : c.isEmpty with
  | true =>
    refine (wtake_none _ Bo _ wr h3 (by rw [hy]; exact he)).mono ?_
    rintro e w' ⟨rfl, hO, hb⟩
    refine ⟨rfl, hbel.trans hb, d, c, h1, ?_⟩
    have : (d ++ [c]).filter nonE = d.filter nonE := by simp [nonE, he]
    rw [this]; exact hO
  | false =>
    refine (wtake_some _ Bo _ wr h3 (by rw [hy]; exact he) (by simp only [List.length_map]; omega)).mono ?_
    rintro e w' ⟨rfl, hO, hb⟩
    refine ⟨rfl, hbel.trans hb, d, c, h1, ?_⟩
    have : (d ++ [c]).filter nonE = d.filter nonE ++ [c] := by simp [nonE, he]
    rw [this]
    rw [hx] at hO
    simpa using hO
theorem WdInv.yes {w w' : World} {Bo : Nat} {s : ByteArray} {k : Nat} (hk : k < s.size) (hb : Oct.blankI s[k].toNat = true) (hbel : Below Bo w w')
    (hd : ∃ d c, Oct.st Oct.blankI (s.data.toList.take k) = (d, c) ∧ Out w' Bo (((d ++ [c]).filter nonE).map Oct.strV)) : WdInv w w' Bo s (k + 1) (k + 1) := by
  obtain ⟨d, c, h1, h2⟩ := hd
  refine ⟨hbel, d ++ [c], [], ?_, rfl, h2⟩
  rw [Oct.take_snoc s k hk]
  exact Oct.st_yes _ d c _ _ h1 hb
theorem words_end {w' : World} {Bo : Nat} {s : ByteArray} (hd : ∃ d c, Oct.st Oct.blankI (s.data.toList.take s.size) = (d, c) ∧ Out w' Bo (((d ++ [c]).filter nonE).map Oct.strV)) : Out w' Bo ((Oct.words s.data.toList).map Oct.strV) := by
  obtain ⟨d, c, h1, h2⟩ := hd
  rw [Oct.take_all s s.size (Nat.le_refl _)] at h1
  unfold Oct.words
  rw [Oct.split_of _ _ _ _ h1]
  exact h2

set_option maxHeartbeats 1000000 in
theorem cutW_any (s : ByteArray) (Bo : Nat) (w : World) (hs : s.size ≤ 8796093022206) (hI : WdInv w w Bo s 0 0) :
    Calls Try.prog 31 #[.string s, .func (.func 44) #[] #[], .func (.func 45) #[] #[.pointer (some ⟨Bo, 0, none⟩)]] w fun e w' =>
      e = .returned (.tuple #[]) ∧ Below Bo w w' ∧ Out w' Bo ((Oct.words s.data.toList).map Oct.strV) := by
  go_enter Try.func31, Try.ntmps31
  go_wp2_with fail
  go_loopw [6, 10] (fun fr i wr => ∃ k f : Nat, k ≤ s.size ∧ f ≤ k ∧ i = .int .i64 k ∧ fr = .int .i64 f ∧ WdInv w wr Bo s k f) (fun _ i _ => s.size - (intOf i).toNat)
  case atStart => exact ⟨0, 0, Nat.zero_le _, Nat.le_refl _, rfl, rfl, hI⟩
  case round =>
    obtain ⟨k, f, hk, hf, rfl, rfl, hin⟩ := hrel
    by_cases hlt : k < s.size
    · cases hb : Oct.blankI s[k].toNat with
      | true =>
        go_wp2_with (first
          | (go_at_call 44; refine (blank_any _ _).mono ?_; rintro e w' ⟨rfl, rfl⟩)
          | (go_at_call 45; refine (hin.take hk hs).mono ?_; rintro e w' ⟨rfl, hbel2, hd⟩))
        go_roundw
        case rel => exact ⟨k + 1, k + 1, by omega, by omega, by go_num, by go_num, WdInv.yes hlt hb hbel2 hd⟩
        case measure => simp [intOf]; omega
      | false =>
        go_wp2_with (first
          | (go_at_call 44; refine (blank_any _ _).mono ?_; rintro e w' ⟨rfl, rfl⟩))
        go_roundw
        case rel => exact ⟨k + 1, f, by omega, by omega, by go_num, rfl, hin.no hlt hb⟩
        case measure => simp [intOf]; omega
    · obtain rfl : k = s.size := by omega
      go_wp2_with (first
          | (go_at_call 45; refine (hin.take hk hs).mono ?_; rintro e w' ⟨rfl, hbel2, hd⟩))
      go_end0
      exact ⟨rfl, hbel2, words_end hd⟩

set_option maxHeartbeats 1000000 in
theorem words_any (s : ByteArray) (w : World) (hs : s.size ≤ 8796093022206) : Calls Try.prog 33 #[.string s] w (RetTexts w (Oct.words s.data.toList)) := by
  have hI : WdInv (w.alloc (.cells #[.slice none 0 0] 24)) (w.alloc (.cells #[.slice none 0 0] 24)) w.heap.size s 0 0 :=
    ⟨Below.refl _ _, [], [], rfl, rfl, Out.new w⟩
  go_enter Try.func33, Try.ntmps33
  go_wp2_with fail
  refine (cutW_any s w.heap.size _ hs hI).mono ?_
  rintro e w1 ⟨rfl, hbel, hO⟩
  obtain ⟨v, hv, hown⟩ := hO
  have hc := cell_of_one hv
  go_wp2_with fail
  go_ret
  refine ⟨v, rfl, ?_, ?_⟩
  · exact ((Below.refl _ w).alloc (Nat.le_refl _) _).trans hbel
  · rw [List.length_map] at hown
    exact owns_base hown (by omega)
end Go.Proofs.Ytcmbckacbdiebaa
