/- Single values that are handed in: a text, a Boolean, numbers. -/
import Derived.Test.YtnnjfiknfmjliaaOpen
namespace Go.Proofs.Ytnnjfiknfmjliaa
open Go.ChangeShapes Go.WideShapes Go.ChangeAt Go.RowKit

section
variable {H : Type} {enc : TypeId × Value → H} {W : World} {b0 : Nat} {v : Value} {d : DataW H} {ps : List MemPlace}
theorem one_str {n : Nat} {c : Value} {y : Option (DataW H × List MemPlace)} (h : DataW.trod enc Try.prog W 0 (fun _ => true) true n 9 [c] = y) (hy : y.isSome = true) : ∃ s : ByteArray, c = .string s ∧ s.size ≤ maxLen := by
  obtain ⟨z, rfl⟩ := Option.isSome_iff_exists.1 hy
  obtain ⟨s, e0, _, hn⟩ := DataW.trod_string Try.underlying9 h
  simp only [List.cons.injEq, and_true] at e0
  exact ⟨s, e0, hn⟩
theorem one_strd {n : Nat} {c : Value} {y : Option (DataW H × List MemPlace)} (h : DataW.trod enc Try.prog W 0 (fun _ => true) true n 9 [c] = y) (hy : y.isSome = true) : ∃ s : ByteArray, c = .string s ∧ s.size ≤ maxLen ∧ y = some (.lit (.string s.data.toList), []) := by
  obtain ⟨z, rfl⟩ := Option.isSome_iff_exists.1 hy
  obtain ⟨s, e0, e1, hn⟩ := DataW.trod_string Try.underlying9 h
  simp only [List.cons.injEq, and_true] at e0
  exact ⟨s, e0, hn, by rw [e1]⟩
theorem one_bool {n : Nat} {c : Value} {y : Option (DataW H × List MemPlace)} (h : DataW.trod enc Try.prog W 0 (fun _ => true) true n 4 [c] = y) (hy : y.isSome = true) : ∃ b : Bool, c = .bool b := by
  obtain ⟨z, rfl⟩ := Option.isSome_iff_exists.1 hy
  obtain ⟨s, e0, _⟩ := DataW.trod_bool Try.underlying4 h
  simp only [List.cons.injEq, and_true] at e0
  exact ⟨s, e0⟩
theorem one_u32 {n : Nat} {c : Value} {y : Option (DataW H × List MemPlace)} (h : DataW.trod enc Try.prog W 0 (fun _ => true) true n 59 [c] = y) (hy : y.isSome = true) : ∃ a : Int, c = .int .u32 a ∧ 0 ≤ a ∧ a ≤ 4294967295 := by
  obtain ⟨z, rfl⟩ := Option.isSome_iff_exists.1 hy
  obtain ⟨a, e2, _, ha⟩ := DataW.trod_int Try.underlying59 h
  simp only [List.cons.injEq, and_true] at e2
  exact ⟨a, e2, (bounds_u32 ha).1, (bounds_u32 ha).2⟩
theorem one_int {n : Nat} {c : Value} {y : Option (DataW H × List MemPlace)} (h : DataW.trod enc Try.prog W 0 (fun _ => true) true n 3 [c] = y) (hy : y.isSome = true) : ∃ a : Int, c = .int .i64 a ∧ -9223372036854775808 ≤ a ∧ a ≤ 9223372036854775807 := by
  obtain ⟨z, rfl⟩ := Option.isSome_iff_exists.1 hy
  obtain ⟨a, e2, _, ha⟩ := DataW.trod_int Try.underlying3 h
  simp only [List.cons.injEq, and_true] at e2
  obtain ⟨h1, h2⟩ := bounds_i64 ha
  exact ⟨a, e2, by omega, by omega⟩
end
end Go.Proofs.Ytnnjfiknfmjliaa
