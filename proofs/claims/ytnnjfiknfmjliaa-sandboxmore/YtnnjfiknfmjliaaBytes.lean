/- Texts as lists of bytes. No function of the program is named here. -/
import Derived.Test.YtnnjfiknfmjliaaProg
import Derived.Test.YtnnjfiknfmjliaaOctMath
import Derived.WalkKit
import Derived.Lib.Hide
import Derived.Lib.Join
namespace Go.Proofs.Ytnnjfiknfmjliaa

/-- A text as a value: bytes as a list. -/
abbrev bA (l : List UInt8) : ByteArray := ⟨l.toArray⟩
theorem bA_size (l : List UInt8) : (bA l).size = l.length := rfl
theorem bA_of (s : ByteArray) : bA s.data.toList = s := rfl
theorem bA_app (a b : List UInt8) : bA a ++ bA b = bA (a ++ b) := by
  apply ByteArray.ext
  simp
namespace Byt
theorem drop_ext (s : ByteArray) (k : Nat) : s.extract k s.size = bA (s.data.toList.drop k) := by
  rw [Lib.extract_eq, List.take_of_length_le (by simp)]
theorem take_ext (s : ByteArray) (k : Nat) : s.extract 0 k = bA (s.data.toList.take k) := by
  rw [Lib.extract_eq]; simp
theorem while_hit (p : Int → Bool) (s : ByteArray) (k : Nat) (h : k < s.size) (hi : Oct.allB p (s.data.toList.take k) = true) (hc : p s[k].toNat = false) :
    (s.data.toList.takeWhile fun b => p b.toNat) = s.data.toList.take k ∧ (s.data.toList.dropWhile fun b => p b.toNat) = s.data.toList.drop k := by
  have h' : k < s.data.toList.length := by simpa using h
  have ha : ∀ b ∈ s.data.toList.take k, p b.toNat = true := by simpa [Oct.allB] using hi
  have e := List.take_append_drop k s.data.toList
  have hd : s.data.toList.drop k = s[k] :: s.data.toList.drop (k + 1) := by rw [List.drop_eq_getElem_cons h']; rfl
  constructor
  · rw [← e, List.takeWhile_append_of_pos ha, hd, List.takeWhile_cons_of_neg (by rw [hc]; simp), List.append_nil, ← hd, e]
  · rw [← e, List.dropWhile_append_of_pos ha, hd, List.dropWhile_cons_of_neg (by rw [hc]; simp), ← hd, e]
theorem while_all (p : Int → Bool) (s : ByteArray) (k : Nat) (h : s.size ≤ k) (hi : Oct.allB p (s.data.toList.take k) = true) :
    (s.data.toList.takeWhile fun b => p b.toNat) = s.data.toList ∧ (s.data.toList.dropWhile fun b => p b.toNat) = [] := by
  rw [Oct.take_all s k h] at hi
  have ha : ∀ b ∈ s.data.toList, p b.toNat = true := List.all_eq_true.1 hi
  constructor
  · have := List.takeWhile_append_of_pos (l₁ := s.data.toList) (l₂ := []) ha
    simpa using this
  · have := List.dropWhile_append_of_pos (l₁ := s.data.toList) (l₂ := []) ha
    simpa using this
/-- The head of a text, and what stands behind. -/
theorem uncons (s : ByteArray) (h : 0 < s.size) : s.data.toList = s[0] :: (s.extract 1 s.size).data.toList := by
  have e := Oct.split_at s 0 h
  rw [drop_ext]
  simpa using e
theorem nil_of (s : ByteArray) (h : ¬ 0 < s.size) : s.data.toList = [] := by
  have e : s.data.toList.length = s.size := by simp
  exact List.length_eq_zero_iff.1 (by omega)
def sOf : Value → ByteArray | .string s => s | _ => ⟨#[]⟩
end Byt
end Go.Proofs.Ytnnjfiknfmjliaa
