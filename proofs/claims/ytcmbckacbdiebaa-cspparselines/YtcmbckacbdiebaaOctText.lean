/- The contracts of octet.Token, Trim and of the document's answers. -/
import Derived.Test.YtcmbckacbdiebaaOctLeaf
namespace Go.Proofs.Ytcmbckacbdiebaa
open Go.RowKit

theorem token_end (s : ByteArray) (k : Nat) (h : s.size ≤ k) (hi : Oct.allB Oct.tcharI (s.data.toList.take k) = true) : (!s.toList.isEmpty) = Oct.tokenB s.data.toList := by
  rw [Oct.take_all s k h] at hi
  rw [Lib.toList_data, Oct.tokenB, hi]; rfl
theorem token_miss (s : ByteArray) (k : Nat) (h : k < s.size) (hc : (!Oct.tcharI s[k].toNat) = true) : false = Oct.tokenB s.data.toList := by
  rw [Oct.tokenB, Oct.allB_miss _ s k h (by simpa using hc)]; rfl

set_option maxHeartbeats 400000 in
theorem otrim_any (s : ByteArray) (w : World) (hs : s.size ≤ maxLen) : Calls Try.prog 50 #[.string s] w fun e w' => e = .returned (.string ⟨(Oct.trim s.data.toList).toArray⟩) ∧ w = w' := by
  unfold maxLen at hs
  go_enter Try.func50, Try.ntmps50
  go_wp2
  go_loop [3] (fun i => ∃ k : Nat, k ≤ s.size ∧ i = .int .i64 k ∧ Hid (Oct.allB Oct.blankI (s.data.toList.take k) = true)) (fun i => s.size - (intOf i).toNat)
  case atStart => exact ⟨0, Nat.zero_le _, rfl, rfl⟩
  case round =>
    obtain ⟨k, hk, rfl, hin⟩ := hrel
    by_cases hlt : k < s.size
    · by_cases hb : Oct.blankI s[k].toNat = true
      · go_wp2_with (go_at_call 44; refine (blank_any _ _).mono ?_; rintro e w' ⟨rfl, rfl⟩)
        go_round
        case rel => exact ⟨k + 1, by omega, by go_num, Oct.allB_next _ s k hlt hin hb⟩
        case measure => simp [intOf]; omega
      · have hb' : Oct.blankI s[k].toNat = false := by simpa using hb
        clear hb
        go_wp2_with (go_at_call 44; refine (blank_any _ _).mono ?_; rintro e w' ⟨rfl, rfl⟩)
        go_loop [4] (fun i => ∃ m : Nat, k ≤ m ∧ m ≤ s.size ∧ i = .int .i64 m ∧ Hid (Oct.allB Oct.blankI (s.data.toList.drop m) = true)) (fun i => (intOf i).toNat)
        case atStart => exact ⟨s.size, by omega, by omega, rfl, Oct.allB_end _ s⟩
        case round =>
          obtain ⟨m, hm, hm2, rfl, hdr⟩ := hrel
          by_cases hkm : k < m
          · obtain ⟨j, rfl⟩ : ∃ j, m = j + 1 := ⟨m - 1, by omega⟩
            have hj : j < s.size := by omega
            by_cases hb : Oct.blankI s[j].toNat = true
            · go_wp2_with (go_at_call 44; refine (blank_any _ _).mono ?_; rintro e w' ⟨rfl, rfl⟩)
              go_round
              case rel => exact ⟨j, by omega, by omega, by go_num, Oct.allB_drop _ s (j + 1) (by omega) hj hdr.out hb⟩
              case measure => simp [intOf]
            · have hb2 : Oct.blankI s[j].toNat = false := by simpa using hb
              clear hb
              have a1 : (k : Int) ≤ (j : Int) + 1 := by omega
              have a2 : (j : Int) + 1 ≤ (s.size : Int) := by omega
              go_wp2_with (go_at_call 44; refine (blank_any _ _).mono ?_; rintro e w' ⟨rfl, rfl⟩)
              go_ret
              exact ⟨Oct.ret_str (Oct.trim_ret s k (j + 1) hm hm2 hin.out hdr.out (.inr ⟨⟨hlt, hb'⟩, ⟨hj, hb2⟩⟩)), rfl⟩
          · go_wp2
            go_ret
            exact ⟨Oct.ret_str (Oct.trim_ret s k m hm hm2 hin.out hdr.out (.inl (by omega))), rfl⟩
    · go_wp2
      go_loop [4] (fun i => i = .int .i64 s.size) (fun _ => 0)
      case atStart => rfl
      case round =>
        subst hrel
        go_wp2
        go_ret
        exact ⟨Oct.ret_str (Oct.trim_ret s k s.size hk (Nat.le_refl _) hin.out (Oct.allB_end _ s) (.inl (by omega))), rfl⟩

set_option maxHeartbeats 400000 in
theorem rtrim_any (s : ByteArray) (w : World) (hs : s.size ≤ maxLen) : Calls Try.prog 40 #[.string s] w fun e w' => e = .returned (.string ⟨(Oct.trim s.data.toList).toArray⟩) ∧ w = w' := by
  unfold maxLen at hs
  go_enter Try.func40, Try.ntmps40
  go_wp2
  go_loop [3] (fun i => ∃ k : Nat, k ≤ s.size ∧ i = .int .i64 k ∧ Hid (Oct.allB Oct.blankI (s.data.toList.take k) = true)) (fun i => s.size - (intOf i).toNat)
  case atStart => exact ⟨0, Nat.zero_le _, rfl, rfl⟩
  case round =>
    obtain ⟨k, hk, rfl, hin⟩ := hrel
    by_cases hlt : k < s.size
    · by_cases hb : Oct.blankI s[k].toNat = true
      · go_wp2_with (go_at_call 46; refine (rblank_any _ _).mono ?_; rintro e w' ⟨rfl, rfl⟩)
        go_round
        case rel => exact ⟨k + 1, by omega, by go_num, Oct.allB_next _ s k hlt hin hb⟩
        case measure => simp [intOf]; omega
      · have hb' : Oct.blankI s[k].toNat = false := by simpa using hb
        clear hb
        go_wp2_with (go_at_call 46; refine (rblank_any _ _).mono ?_; rintro e w' ⟨rfl, rfl⟩)
        go_loop [4] (fun i => ∃ m : Nat, k ≤ m ∧ m ≤ s.size ∧ i = .int .i64 m ∧ Hid (Oct.allB Oct.blankI (s.data.toList.drop m) = true)) (fun i => (intOf i).toNat)
        case atStart => exact ⟨s.size, by omega, by omega, rfl, Oct.allB_end _ s⟩
        case round =>
          obtain ⟨m, hm, hm2, rfl, hdr⟩ := hrel
          by_cases hkm : k < m
          · obtain ⟨j, rfl⟩ : ∃ j, m = j + 1 := ⟨m - 1, by omega⟩
            have hj : j < s.size := by omega
            by_cases hb : Oct.blankI s[j].toNat = true
            · go_wp2_with (go_at_call 46; refine (rblank_any _ _).mono ?_; rintro e w' ⟨rfl, rfl⟩)
              go_round
              case rel => exact ⟨j, by omega, by omega, by go_num, Oct.allB_drop _ s (j + 1) (by omega) hj hdr.out hb⟩
              case measure => simp [intOf]
            · have hb2 : Oct.blankI s[j].toNat = false := by simpa using hb
              clear hb
              have a1 : (k : Int) ≤ (j : Int) + 1 := by omega
              have a2 : (j : Int) + 1 ≤ (s.size : Int) := by omega
              go_wp2_with (go_at_call 46; refine (rblank_any _ _).mono ?_; rintro e w' ⟨rfl, rfl⟩)
              go_ret
              exact ⟨Oct.ret_str (Oct.trim_ret s k (j + 1) hm hm2 hin.out hdr.out (.inr ⟨⟨hlt, hb'⟩, ⟨hj, hb2⟩⟩)), rfl⟩
          · go_wp2
            go_ret
            exact ⟨Oct.ret_str (Oct.trim_ret s k m hm hm2 hin.out hdr.out (.inl (by omega))), rfl⟩
    · go_wp2
      go_loop [4] (fun i => i = .int .i64 s.size) (fun _ => 0)
      case atStart => rfl
      case round =>
        subst hrel
        go_wp2
        go_ret
        exact ⟨Oct.ret_str (Oct.trim_ret s k s.size hk (Nat.le_refl _) hin.out (Oct.allB_end _ s) (.inl (by omega))), rfl⟩
end Go.Proofs.Ytcmbckacbdiebaa
