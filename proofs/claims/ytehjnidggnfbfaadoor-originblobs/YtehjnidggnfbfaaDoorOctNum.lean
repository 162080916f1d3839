/- The contracts of octet.Number and of the document's answer. -/
import Derived.Test.YtehjnidggnfbfaaDoorOctText
import Derived.Test.YtehjnidggnfbfaaDoorOctMath2
namespace Go.Proofs.YtehjnidggnfbfaaDoor
open Go.RowKit

theorem num_no {l : List UInt8} {most : Int} (h : Oct.numOk l most = false) : Ending.returned (.tuple #[.int .i64 0, .bool false]) = .returned (.tuple #[.int .i64 (Oct.numV l most), .bool (Oct.numOk l most)]) := by
  unfold Oct.numV; rw [h]; rfl
theorem num_yes {l : List UInt8} {most n : Int} (h : Oct.numOk l most = true) (hn : n = Oct.val l) : Ending.returned (.tuple #[.int .i64 n, .bool true]) = .returned (.tuple #[.int .i64 (Oct.numV l most), .bool (Oct.numOk l most)]) := by
  unfold Oct.numV; rw [h, hn]; rfl
theorem empty_list {s : ByteArray} (h : s.toList.isEmpty = true) : s.toList = [] := by simpa using h
theorem empty_no {s : ByteArray} (h : s.toList.isEmpty = false) : ¬ s.toList = [] := by simpa using h
theorem empty_size {s : ByteArray} (h : s.toList.isEmpty = false) : 0 < s.size := by
  rw [Lib.toList_data] at h
  have : s.data.toList ≠ [] := by simpa using h
  have := List.length_pos_iff.2 this
  simpa using this

theorem digit_bd (c : Int) (h : Oct.digitI c = true) : 48 ≤ c ∧ c ≤ 57 := by simpa [Oct.digitI] using h

set_option maxHeartbeats 1000000 in
theorem number_go (s : ByteArray) (most : Int) (w : World) (hs : s.size ≤ maxLen) (hm0 : -9223372036854775808 ≤ most) (hm1 : most ≤ 9223372036854775807) (he : s.toList.isEmpty = false) (hp : 0 < s.size)
    (hz : (1 < s.size ∧ ((s[0].toNat : Int) == 48) = false) ∨ s.size ≤ 1) :
    Calls Tryd.prog 56 #[.string s, .int .i64 most] w fun e w' => e = .returned (.tuple #[.int .i64 (Oct.numV s.data.toList most), .bool (Oct.numOk s.data.toList most)]) ∧ w = w' := by
  unfold maxLen at hs
  have he' := empty_no he
  have HE := Lib.hid he
  have HZ : Hid (1 < s.size → ((s[0]!.toNat : Int) == 48) = false) := by
    intro h
    rcases hz with ⟨_, hz⟩ | hz
    · have e : s[0]! = s[0] := by simp [hp]
      rw [e]; exact hz
    · omega
  rcases hz with ⟨h1, hz⟩ | h1
  all_goals
    have h1' : decide ((1 : Int) < (s.size : Int)) = decide (1 < s.size) := by simp; omega
    go_enter Tryd.func56, Tryd.ntmps56
    go_wp2
    clear h1' he he'
    go_loop [6, 23] (fun n i => ∃ k : Nat, ∃ v : Int, k ≤ s.size ∧ i = .int .i64 k ∧ n = .int .i64 v ∧ 0 ≤ v ∧ (0 < k → v ≤ most) ∧ Hid (v = Oct.val (s.data.toList.take k)) ∧ Hid (Oct.allB Oct.digitI (s.data.toList.take k) = true)) (fun _ i => s.size - (intOf i).toNat)
    case atStart => exact ⟨0, 0, Nat.zero_le _, rfl, rfl, by omega, by omega, rfl, rfl⟩
    case round =>
      obtain ⟨k, v, hk, rfl, rfl, hv0, hv1, HV, HD⟩ := hrel
      by_cases hlt : k < s.size
      · cases hdg : Oct.digitI s[k].toNat with
        | false =>
          clear hv1
          go_wp2_with (go_at_call 76; refine (digit_any _ _).mono ?_; rintro e w' ⟨rfl, rfl⟩)
          go_ret2
          exact ⟨num_no (Oct.numOk_miss s k most hlt hdg), rfl⟩
        | true =>
          obtain ⟨b1, b2⟩ := digit_bd _ hdg
          by_cases hd : most < (s[k].toNat : Int) - 48
          · clear hv1
            go_wp2_with (go_at_call 76; refine (digit_any _ _).mono ?_; rintro e w' ⟨rfl, rfl⟩)
            go_ret2
            exact ⟨num_no (Oct.numOk_big s k most hlt HD.out hdg (by rw [← HV.out]; omega)), rfl⟩
          · clear hv1
            go_wp2_with (go_at_call 76; refine (digit_any _ _).mono ?_; rintro e w' ⟨rfl, rfl⟩)
            · have hx : most < (s[k].toNat : Int) - 48 ∨ (most - ((s[k].toNat : Int) - 48)) / 10 < v := by assumption
              go_ret2
              exact ⟨num_no (Oct.numOk_big s k most hlt HD.out hdg (by rw [← HV.out]; omega)), rfl⟩
            · have hx : (s[k].toNat : Int) - 48 ≤ most ∧ v ≤ (most - ((s[k].toNat : Int) - 48)) / 10 := by assumption
              go_round
              case rel => exact ⟨k + 1, v * 10 + ((s[k].toNat : Int) - 48), by omega, by go_num, rfl, by omega, by omega, by rw [Oct.take_snoc s k hlt, Oct.val_snoc, ← HV.out]; show _ = _; omega, Oct.allB_next _ s k hlt HD.out hdg⟩
              case measure => simp [intOf]; omega
      · have hv2 : v ≤ most := hv1 (by omega)
        clear hv1
        go_wp2
        go_ret2
        exact ⟨num_yes (Oct.numOk_end s most HE.out HZ.out (by rw [← Oct.take_all s k (by omega)]; exact HD.out) (by rw [← Oct.take_all s k (by omega), ← HV.out]; exact hv2)) (by rw [HV.out, Oct.take_all s k (by omega)]), rfl⟩

theorem number_any (s : ByteArray) (most : Int) (w : World) (hs : s.size ≤ maxLen) (hm0 : -9223372036854775808 ≤ most) (hm1 : most ≤ 9223372036854775807) :
    Calls Tryd.prog 56 #[.string s, .int .i64 most] w fun e w' => e = .returned (.tuple #[.int .i64 (Oct.numV s.data.toList most), .bool (Oct.numOk s.data.toList most)]) ∧ w = w' := by
  cases he : s.toList.isEmpty with
  | true =>
    have he' := empty_list he
    have HE := Lib.hid he
    clear he
    go_enter Tryd.func56, Tryd.ntmps56
    go_wp2
    go_ret2
    exact ⟨num_no (Oct.numOk_nil s most HE.out), rfl⟩
  | false =>
    have hp := empty_size he
    by_cases h1 : 1 < s.size
    · cases hz : ((s[0].toNat : Int) == 48) with
      | true =>
        have he' := empty_no he
        have h1' : (1 : Int) < (s.size : Int) := by omega
        go_enter Tryd.func56, Tryd.ntmps56
        go_wp2
        go_ret2
        exact ⟨num_no (Oct.numOk_zero s most h1 hz), rfl⟩
      | false => exact number_go s most w hs hm0 hm1 he hp (.inl ⟨h1, hz⟩)
    · exact number_go s most w hs hm0 hm1 he hp (.inr (by omega))
end Go.Proofs.YtehjnidggnfbfaaDoor
