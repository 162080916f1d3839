/- The contracts of octet.Lower, Fold and of the document's answers. -/
import Derived.Test.YtnnjfiknfmjliaaOctText
import Derived.Test.YtnnjfiknfmjliaaOctMem
namespace Go.Proofs.Ytnnjfiknfmjliaa
open Go.RowKit

set_option maxHeartbeats 400000 in
theorem lower_core (s : ByteArray) (cap : Nat) (C : Array Value) (w : World) (hs : s.size ≤ maxLen)
    (hconv : (convert 9 49 (.string s)).run Try.prog w = .ok (.slice (some ⟨w.heap.size, 0, none⟩) s.size cap) (w.drew.alloc (.cells C 5 (C.size, C.size + 1))))
    (hB : Oct.BytesAt (w.alloc (.cells C 5 (C.size, C.size + 1))) w.heap.size s.data.toList) :
    Calls Try.prog 29 #[.string s] w fun e w' => e = .returned (.string ⟨(Oct.lower s.data.toList).toArray⟩) ∧ Below w.heap.size w w' := by
  unfold maxLen at hs
  go_enter Try.func29, Try.ntmps29
  go_wp2
  clear hconv
  go_loopw [9] (fun i wr => ∃ k : Nat, k ≤ s.size ∧ i = .int .i64 k ∧ Oct.BytesAt wr w.heap.size (Oct.lowTo s.data.toList k) ∧ Below w.heap.size w wr) (fun i _ => s.size - (intOf i).toNat)
  case atStart => exact ⟨0, Nat.zero_le _, rfl, by rw [Oct.lowTo_zero]; exact hB, ((Below.refl _ _).alloc (Nat.le_refl _) _).drew⟩
  case round =>
    obtain ⟨k, hk, rfl, hbs, hbel⟩ := hrel
    clear hB
    by_cases hlt : k < s.size
    · obtain ⟨hcell, hfro⟩ := hbs.look s k hlt
      have hb := s[k].toNat_lt
      by_cases h1 : 65 ≤ (s[k].toNat : Int)
      · by_cases h2 : (s[k].toNat : Int) ≤ 90
        · go_wp2
          go_roundw
          case rel => exact ⟨k + 1, by omega, by go_num, hbs.turn s k hlt h1 h2, hbel.setCell (Nat.le_refl _) _⟩
          case measure => simp [intOf]; omega
        · have hd : decide ((s[k].toNat : Int) ≤ 90) = false := by simpa using h2
          go_wp2
          go_roundw
          case rel => exact ⟨k + 1, by omega, by go_num, hbs.keep s k hlt (by omega), hbel⟩
          case measure => simp [intOf]; omega
      · have hd : decide (65 ≤ (s[k].toNat : Int)) = false := by simpa using h1
        go_wp2
        go_roundw
        case rel => exact ⟨k + 1, by omega, by go_num, hbs.keep s k hlt (by omega), hbel⟩
        case measure => simp [intOf]; omega
    · have hback := Oct.BytesAt.back (P := Try.prog) s k cap 49 9 5 hbs (by omega) Try.underlying49 Try.underlying5 Try.underlying9
      go_wp2
      go_ret
      exact ⟨rfl, hbel⟩

set_option maxHeartbeats 400000 in
theorem rlower_core (s : ByteArray) (cap : Nat) (C : Array Value) (w : World) (hs : s.size ≤ maxLen)
    (hconv : (convert 9 49 (.string s)).run Try.prog w = .ok (.slice (some ⟨w.heap.size, 0, none⟩) s.size cap) (w.drew.alloc (.cells C 5 (C.size, C.size + 1))))
    (hB : Oct.BytesAt (w.alloc (.cells C 5 (C.size, C.size + 1))) w.heap.size s.data.toList) :
    Calls Try.prog 30 #[.string s] w fun e w' => e = .returned (.string ⟨(Oct.lower s.data.toList).toArray⟩) ∧ Below w.heap.size w w' := by
  unfold maxLen at hs
  go_enter Try.func30, Try.ntmps30
  go_wp2
  clear hconv
  go_loopw [4] (fun i wr => ∃ k : Nat, k ≤ s.size ∧ i = .int .i64 k ∧ Oct.BytesAt wr w.heap.size (Oct.lowTo s.data.toList k) ∧ Below w.heap.size w wr) (fun i _ => s.size - (intOf i).toNat)
  case atStart => exact ⟨0, Nat.zero_le _, rfl, by rw [Oct.lowTo_zero]; exact hB, ((Below.refl _ _).alloc (Nat.le_refl _) _).drew⟩
  case round =>
    obtain ⟨k, hk, rfl, hbs, hbel⟩ := hrel
    clear hB
    by_cases hlt : k < s.size
    · obtain ⟨hcell, hfro⟩ := hbs.look s k hlt
      have hb := s[k].toNat_lt
      by_cases h1 : 65 ≤ (s[k].toNat : Int)
      · by_cases h2 : (s[k].toNat : Int) ≤ 90
        · go_wp2
          go_roundw
          case rel => exact ⟨k + 1, by omega, by go_num, hbs.turn s k hlt h1 h2, hbel.setCell (Nat.le_refl _) _⟩
          case measure => simp [intOf]; omega
        · have hd : decide ((s[k].toNat : Int) ≤ 90) = false := by simpa using h2
          go_wp2
          go_roundw
          case rel => exact ⟨k + 1, by omega, by go_num, hbs.keep s k hlt (by omega), hbel⟩
          case measure => simp [intOf]; omega
      · have hd : decide (65 ≤ (s[k].toNat : Int)) = false := by simpa using h1
        go_wp2
        go_roundw
        case rel => exact ⟨k + 1, by omega, by go_num, hbs.keep s k hlt (by omega), hbel⟩
        case measure => simp [intOf]; omega
    · have hback := Oct.BytesAt.back (P := Try.prog) s k cap 49 9 5 hbs (by omega) Try.underlying49 Try.underlying5 Try.underlying9
      go_wp2
      go_ret
      exact ⟨rfl, hbel⟩

theorem bytes_new (s : ByteArray) (w : World) (cap : Nat) : Oct.BytesAt (w.alloc (.cells (bytesRow s cap) 5 ((bytesRow s cap).size, (bytesRow s cap).size + 1))) w.heap.size s.data.toList :=
  Oct.BytesAt.new w _ _ _ (fun j hj => by
    have hj' : j < s.data.size := by simpa using hj
    simpa using bytesRow_at s cap j hj')
theorem lower_any (s : ByteArray) (w : World) (hs : s.size ≤ maxLen) : Calls Try.prog 29 #[.string s] w fun e w' => e = .returned (.string ⟨(Oct.lower s.data.toList).toArray⟩) ∧ Below w.heap.size w w' :=
  lower_core s _ _ w hs (run_bytes_of_string w 9 49 5 s Try.underlying9 Try.underlying49 Try.underlying5) (bytes_new s w _)
theorem rlower_any (s : ByteArray) (w : World) (hs : s.size ≤ maxLen) : Calls Try.prog 30 #[.string s] w fun e w' => e = .returned (.string ⟨(Oct.lower s.data.toList).toArray⟩) ∧ Below w.heap.size w w' :=
  rlower_core s _ _ w hs (run_bytes_of_string w 9 49 5 s Try.underlying9 Try.underlying49 Try.underlying5) (bytes_new s w _)

end Go.Proofs.Ytnnjfiknfmjliaa
