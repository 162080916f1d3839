/- The contracts of octet.Lower, Fold and of the document's answers. -/
import Derived.Test.YtcmbckacbdiebaaOctText
import Derived.Test.YtcmbckacbdiebaaOctMem
namespace Go.Proofs.Ytcmbckacbdiebaa
open Go.RowKit

set_option maxHeartbeats 400000 in
theorem lower_core (s : ByteArray) (cap : Nat) (C : Array Value) (w : World) (hs : s.size ≤ maxLen)
    (hconv : (convert 9 59 (.string s)).run Try.prog w = .ok (.slice (some ⟨w.heap.size, 0, none⟩) s.size cap) (w.drew.alloc (.cells C 5 (C.size, C.size + 1))))
    (hB : Oct.BytesAt (w.alloc (.cells C 5 (C.size, C.size + 1))) w.heap.size s.data.toList) :
    Calls Try.prog 34 #[.string s] w fun e w' => e = .returned (.string ⟨(Oct.lower s.data.toList).toArray⟩) ∧ Below w.heap.size w w' := by
  unfold maxLen at hs
  go_enter Try.func34, Try.ntmps34
  go_wp2
  clear hconv
  go_loopw [9] (fun i wr => ∃ k : Nat, k ≤ s.size ∧ i = .int .i64 k ∧ Oct.BytesAt wr w.heap.size (Oct.lowTo s.data.toList k) ∧ Below w.heap.size w wr) (fun i _ => s.size - (intOf i).toNat)
  case atStart => exact ⟨0, Nat.zero_le _, rfl, by rw [Oct.lowTo_zero]; exact hB, ((Below.refl _ _).alloc (Nat.le_refl _) _).drew⟩
  case round =>
    obtain ⟨k, hk, rfl, hbs, hbel⟩ := hrel
    clear hB
    by_cases hlt : k < s.size
    · obtain ⟨hcell, hfro⟩ := hbs.look s k hlt
      have hb := s[k].toNat_lt
      by_cases h1 : 65 ≤ (s[k].toNat : Int)
      · by_cases h2 : (s[k].toNat : Int) ≤ 90
        · go_wp2
          go_roundw
          case rel => exact ⟨k + 1, by omega, by go_num, hbs.turn s k hlt h1 h2, hbel.setCell (Nat.le_refl _) _⟩
          case measure => simp [intOf]; omega
        · have hd : decide ((s[k].toNat : Int) ≤ 90) = false := by simpa using h2
          go_wp2
          go_roundw
          case rel => exact ⟨k + 1, by omega, by go_num, hbs.keep s k hlt (by omega), hbel⟩
          case measure => simp [intOf]; omega
      · have hd : decide (65 ≤ (s[k].toNat : Int)) = false := by simpa using h1
        go_wp2
        go_roundw
        case rel => exact ⟨k + 1, by omega, by go_num, hbs.keep s k hlt (by omega), hbel⟩
        case measure => simp [intOf]; omega
    · have hback := Oct.BytesAt.back (P := Try.prog) s k cap 59 9 5 hbs (by omega) Try.underlying59 Try.underlying5 Try.underlying9
      go_wp2
      go_ret
      exact ⟨rfl, hbel⟩

set_option maxHeartbeats 400000 in
theorem rlower_core (s : ByteArray) (cap : Nat) (C : Array Value) (w : World) (hs : s.size ≤ maxLen)
    (hconv : (convert 9 59 (.string s)).run Try.prog w = .ok (.slice (some ⟨w.heap.size, 0, none⟩) s.size cap) (w.drew.alloc (.cells C 5 (C.size, C.size + 1))))
    (hB : Oct.BytesAt (w.alloc (.cells C 5 (C.size, C.size + 1))) w.heap.size s.data.toList) :
    Calls Try.prog 36 #[.string s] w fun e w' => e = .returned (.string ⟨(Oct.lower s.data.toList).toArray⟩) ∧ Below w.heap.size w w' := by
  unfold maxLen at hs
  go_enter Try.func36, Try.ntmps36
  go_wp2
  clear hconv
  go_loopw [4] (fun i wr => ∃ k : Nat, k ≤ s.size ∧ i = .int .i64 k ∧ Oct.BytesAt wr w.heap.size (Oct.lowTo s.data.toList k) ∧ Below w.heap.size w wr) (fun i _ => s.size - (intOf i).toNat)
  case atStart => exact ⟨0, Nat.zero_le _, rfl, by rw [Oct.lowTo_zero]; exact hB, ((Below.refl _ _).alloc (Nat.le_refl _) _).drew⟩
  case round =>
    obtain ⟨k, hk, rfl, hbs, hbel⟩ := hrel
    clear hB
    by_cases hlt : k < s.size
    · obtain ⟨hcell, hfro⟩ := hbs.look s k hlt
      have hb := s[k].toNat_lt
      by_cases h1 : 65 ≤ (s[k].toNat : Int)
      · by_cases h2 : (s[k].toNat : Int) ≤ 90
        · go_wp2
          go_roundw
          case rel => exact ⟨k + 1, by omega, by go_num, hbs.turn s k hlt h1 h2, hbel.setCell (Nat.le_refl _) _⟩
          case measure => simp [intOf]; omega
        · have hd : decide ((s[k].toNat : Int) ≤ 90) = false := by simpa using h2
          go_wp2
          go_roundw
          case rel => exact ⟨k + 1, by omega, by go_num, hbs.keep s k hlt (by omega), hbel⟩
          case measure => simp [intOf]; omega
      · have hd : decide (65 ≤ (s[k].toNat : Int)) = false := by simpa using h1
        go_wp2
        go_roundw
        case rel => exact ⟨k + 1, by omega, by go_num, hbs.keep s k hlt (by omega), hbel⟩
        case measure => simp [intOf]; omega
    · have hback := Oct.BytesAt.back (P := Try.prog) s k cap 59 9 5 hbs (by omega) Try.underlying59 Try.underlying5 Try.underlying9
      go_wp2
      go_ret
      exact ⟨rfl, hbel⟩

theorem bytes_new (s : ByteArray) (w : World) (cap : Nat) : Oct.BytesAt (w.alloc (.cells (bytesRow s cap) 5 ((bytesRow s cap).size, (bytesRow s cap).size + 1))) w.heap.size s.data.toList :=
  Oct.BytesAt.new w _ _ _ (fun j hj => by
    have hj' : j < s.data.size := by simpa using hj
    simpa using bytesRow_at s cap j hj')
theorem lower_any (s : ByteArray) (w : World) (hs : s.size ≤ maxLen) : Calls Try.prog 34 #[.string s] w fun e w' => e = .returned (.string ⟨(Oct.lower s.data.toList).toArray⟩) ∧ Below w.heap.size w w' :=
  lower_core s _ _ w hs (run_bytes_of_string w 9 59 5 s Try.underlying9 Try.underlying59 Try.underlying5) (bytes_new s w _)
theorem rlower_any (s : ByteArray) (w : World) (hs : s.size ≤ maxLen) : Calls Try.prog 36 #[.string s] w fun e w' => e = .returned (.string ⟨(Oct.lower s.data.toList).toArray⟩) ∧ Below w.heap.size w w' :=
  rlower_core s _ _ w hs (run_bytes_of_string w 9 59 5 s Try.underlying9 Try.underlying59 Try.underlying5) (bytes_new s w _)

set_option maxHeartbeats 400000 in
theorem fold_any (s t : ByteArray) (w : World) (hs : s.size ≤ maxLen) (ht : t.size ≤ maxLen) : Calls Try.prog 49 #[.string s, .string t] w fun e w' => e = .returned (.bool (Oct.lower s.data.toList == Oct.lower t.data.toList)) ∧ Below w.heap.size w w' := by
  go_enter Try.func49, Try.ntmps49
  go_wp2_with fail
  refine (lower_any _ _ hs).mono ?_
  rintro e w1 ⟨rfl, hb1⟩
  go_wp2_with fail
  refine (lower_any _ _ ht).mono ?_
  rintro e w2 ⟨rfl, hb2⟩
  go_wp2_with fail
  go_ret
  exact ⟨rfl, hb1.trans (hb2.mono hb1.size)⟩
set_option maxHeartbeats 400000 in
theorem rfold_any (s t : ByteArray) (w : World) (hs : s.size ≤ maxLen) (ht : t.size ≤ maxLen) : Calls Try.prog 39 #[.string s, .string t] w fun e w' => e = .returned (.bool (Oct.lower s.data.toList == Oct.lower t.data.toList)) ∧ Below w.heap.size w w' := by
  go_enter Try.func39, Try.ntmps39
  go_wp2_with fail
  refine (rlower_any _ _ hs).mono ?_
  rintro e w1 ⟨rfl, hb1⟩
  go_wp2_with fail
  refine (rlower_any _ _ ht).mono ?_
  rintro e w2 ⟨rfl, hb2⟩
  go_wp2_with fail
  go_ret
  exact ⟨rfl, hb1.trans (hb2.mono hb1.size)⟩
end Go.Proofs.Ytcmbckacbdiebaa
