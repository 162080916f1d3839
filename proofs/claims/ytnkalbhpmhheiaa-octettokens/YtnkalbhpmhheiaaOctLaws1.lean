/- The walks of the statements on small letters, tokens and numbers. -/
import Derived.Test.YtnkalbhpmhheiaaOctAwake
import Derived.Test.YtnkalbhpmhheiaaOctMath4
import Derived.OpenShut
namespace Go.Proofs.Ytnkalbhpmhheiaa
open Go.RowKit

set_option maxHeartbeats 1000000 in
theorem walk_OctetLowers (s t : ByteArray) (hs : s.size ≤ maxLen) (ht : t.size ≤ maxLen) (w : World) :
    Calls Try.prog 3 #[.string s, .string t] w fun e w' => e = .returned (.bool true) ∧ Below w.heap.size w w' := by
  go_enter Try.func3, Try.ntmps3
  go_wp2_with fail
  refine (awake_any _).mono ?_
  rintro e w1 ⟨rfl, hb1⟩
  go_wp2_with fail
  refine (lower_any _ _ hs).mono ?_
  rintro e w2 ⟨rfl, hb2⟩
  go_wp2_with fail
  refine (rlower_any _ _ hs).mono ?_
  rintro e w3 ⟨rfl, hb3⟩
  go_wp2_with fail
  refine (trim_any _ _ hs).mono ?_
  rintro e w4 ⟨rfl, rfl⟩
  go_wp2_with fail
  refine (rtrim_any _ _ hs).mono ?_
  rintro e w4 ⟨rfl, rfl⟩
  go_wp2_with fail
  refine (fold_any _ _ _ hs ht).mono ?_
  rintro e w4 ⟨rfl, hb4⟩
  go_wp2_with fail
  refine (rfold_any _ _ _ hs ht).mono ?_
  rintro e w5 ⟨rfl, hb5⟩
  go_wp2_with fail
  go_ret
  exact ⟨rfl, Below.onto (Below.onto (Below.onto (Below.onto hb1 hb2) hb3) hb4) hb5⟩

theorem size_mk (l : List UInt8) : (⟨l.toArray⟩ : ByteArray).size = l.length := by simp [ByteArray.size]
theorem size_lower (s : ByteArray) (hs : s.size ≤ maxLen) : (⟨(Oct.lower s.data.toList).toArray⟩ : ByteArray).size ≤ maxLen := by
  rw [size_mk, Oct.lower_length]
  have h : s.data.toList.length = s.size := by simp
  omega
theorem size_trim (s : ByteArray) (hs : s.size ≤ maxLen) : (⟨(Oct.trim s.data.toList).toArray⟩ : ByteArray).size ≤ maxLen := by
  rw [size_mk]
  have := Oct.trim_length s.data.toList
  have h : s.data.toList.length = s.size := by simp
  omega
theorem beq_turn (a b : List UInt8) : ((a == b) == (b == a)) = true := by
  rw [beq_iff_eq, Bool.eq_iff_iff, beq_iff_eq, beq_iff_eq]
  exact ⟨Eq.symm, Eq.symm⟩

set_option maxHeartbeats 1000000 in
theorem walk_OctetTwice (s t : ByteArray) (hs : s.size ≤ maxLen) (ht : t.size ≤ maxLen) (w : World) :
    Calls Try.prog 7 #[.string s, .string t] w fun e w' => e = .returned (.bool true) ∧ Below w.heap.size w w' := by
  have hsl := size_lower s hs
  have hst := size_trim s hs
  have q1 := Oct.lower_lower s.data.toList
  have q2 := Oct.trim_trim s.data.toList
  have q3 := Oct.token_lower s.data.toList
  have q4 := beq_turn (Oct.lower s.data.toList) (Oct.lower t.data.toList)
  go_enter Try.func7, Try.ntmps7
  go_wp2_with fail
  refine (awake_any _).mono ?_
  rintro e w1 ⟨rfl, hb1⟩
  go_wp2_with fail
  refine (lower_any _ _ hs).mono ?_
  rintro e w2 ⟨rfl, hb2⟩
  go_wp2_with fail
  refine (trim_any _ _ hs).mono ?_
  rintro e w3 ⟨rfl, rfl⟩
  go_wp2_with fail
  refine (lower_any _ _ hsl).mono ?_
  rintro e w3 ⟨rfl, hb3⟩
  go_wp2_with fail
  refine (trim_any _ _ hst).mono ?_
  rintro e w4 ⟨rfl, rfl⟩
  go_wp2_with fail
  refine (fold_any _ _ _ hs hsl).mono ?_
  rintro e w4 ⟨rfl, hb4⟩
  go_wp2_with fail
  refine (fold_any _ _ _ hs ht).mono ?_
  rintro e w5 ⟨rfl, hb5⟩
  go_wp2_with fail
  refine (fold_any _ _ _ ht hs).mono ?_
  rintro e w6 ⟨rfl, hb6⟩
  go_wp2_with fail
  refine (token_any _ _ hs).mono ?_
  rintro e w7 ⟨rfl, rfl⟩
  go_wp2_with fail
  refine (token_any _ _ hsl).mono ?_
  rintro e w7 ⟨rfl, rfl⟩
  go_wp2_with fail
  go_ret
  exact ⟨rfl, Below.onto (Below.onto (Below.onto (Below.onto (Below.onto hb1 hb2) hb3) hb4) hb5) hb6⟩

set_option maxHeartbeats 1000000 in
theorem walk_OctetTokens (s : ByteArray) (m : Int) (hs : s.size ≤ maxLen) (hm : (Lit.int .i64 m).wf = true) (w : World) :
    Calls Try.prog 5 #[.string s, .int .i64 m] w fun e w' => e = .returned (.bool true) ∧ Below w.heap.size w w' := by
  obtain ⟨m0, m1⟩ := bounds_i64 hm
  go_enter Try.func5, Try.ntmps5
  go_wp2_with fail
  refine (awake_any _).mono ?_
  rintro e w1 ⟨rfl, hb1⟩
  go_wp2_with fail
  refine (number_any _ _ _ hs m0 m1).mono ?_
  rintro e w2 ⟨rfl, rfl⟩
  go_wp2_with fail
  refine (rnumber_any _ _ _ hs m0 m1).mono ?_
  rintro e w2 ⟨rfl, rfl⟩
  go_wp2_with fail
  refine (token_any _ _ hs).mono ?_
  rintro e w2 ⟨rfl, rfl⟩
  go_wp2_with fail
  refine (rtoken_any _ _ hs).mono ?_
  rintro e w2 ⟨rfl, rfl⟩
  go_wp2_with fail
  go_ret
  exact ⟨rfl, hb1⟩
end Go.Proofs.Ytnkalbhpmhheiaa
