/- The parts of a text between separating bytes: plain functions and their laws; no program is named here. -/
import Derived.Test.YtnnjfiknfmjliaaOctMath
namespace Go.Proofs.Ytnnjfiknfmjliaa
namespace Oct

/-- One byte more: the parts that are whole, and the one that has begun. -/
def stp (p : Int → Bool) (x : List (List UInt8) × List UInt8) (b : UInt8) : List (List UInt8) × List UInt8 := if p b.toNat then (x.1 ++ [x.2], []) else (x.1, x.2 ++ [b])
def st (p : Int → Bool) (l : List UInt8) : List (List UInt8) × List UInt8 := l.foldl (stp p) ([], [])
def split (p : Int → Bool) (l : List UInt8) : List (List UInt8) := (st p l).1 ++ [(st p l).2]
def words (l : List UInt8) : List (List UInt8) := (split blankI l).filter fun x => !x.isEmpty
/-- A text as a value. -/
def strV (l : List UInt8) : Value := .string ⟨l.toArray⟩

theorem st_snoc (p : Int → Bool) (l : List UInt8) (b : UInt8) : st p (l ++ [b]) = stp p (st p l) b := by simp [st, List.foldl_append]
theorem st_yes (p : Int → Bool) (d : List (List UInt8)) (c : List UInt8) (s : List UInt8) (b : UInt8) (h : st p s = (d, c)) (hp : p b.toNat = true) : st p (s ++ [b]) = (d ++ [c], []) := by
  rw [st_snoc, h, stp, if_pos hp]
theorem st_no (p : Int → Bool) (d : List (List UInt8)) (c : List UInt8) (s : List UInt8) (b : UInt8) (h : st p s = (d, c)) (hp : p b.toNat = false) : st p (s ++ [b]) = (d, c ++ [b]) := by
  rw [st_snoc, h, stp, if_neg (by simp [hp])]
theorem st_suffix' (p : Int → Bool) : ∀ (l : List UInt8) (x : List (List UInt8) × List UInt8) (r : List UInt8), x.2 <:+ r → (l.foldl (stp p) x).2 <:+ r ++ l
  | [], x, r, h => by simpa using h
  | b :: l, x, r, h => by
    rw [List.foldl_cons, show r ++ b :: l = (r ++ [b]) ++ l by simp]
    refine st_suffix' p l _ _ ?_
    unfold stp
    split
    · exact List.nil_suffix
    · obtain ⟨t, ht⟩ := h
      exact ⟨t, by rw [← ht]; simp⟩
theorem st_suffix (p : Int → Bool) (l : List UInt8) : (st p l).2 <:+ l := by
  have h := st_suffix' p l ([], []) [] (List.nil_suffix)
  rw [List.nil_append] at h
  exact h
theorem st_extract (p : Int → Bool) (s : ByteArray) (k f : Nat) (d : List (List UInt8)) (c : List UInt8) (h : st p (s.data.toList.take k) = (d, c)) (hk : k ≤ s.size) (hf : f + c.length = k) : Value.string (s.extract f k) = strV c := by
  have h1 := st_suffix p (s.data.toList.take k)
  rw [h] at h1
  have h2 := List.suffix_iff_eq_drop.1 h1
  have h3 : (s.data.toList.take k).length = k := by simp; omega
  rw [h3, show k - c.length = f by omega] at h2
  have h5 : c = List.drop f (List.take k s.data.toList) := h2
  have h4 : (s.extract f k).data.toList = c := by
    rw [Lib.extract_data, h5, List.drop_take]
  unfold strV
  rw [← h4]
theorem st_len' (p : Int → Bool) : ∀ (l : List UInt8) (x : List (List UInt8) × List UInt8), (l.foldl (stp p) x).1.length + (l.foldl (stp p) x).2.length ≤ x.1.length + x.2.length + l.length
  | [], x => by simp
  | b :: l, x => by
    rw [List.foldl_cons]
    have h := st_len' p l (stp p x b)
    have h1 : (stp p x b).1.length + (stp p x b).2.length ≤ x.1.length + x.2.length + 1 := by
      unfold stp; split <;> simp <;> omega
    simp only [List.length_cons]; omega
theorem st_len (p : Int → Bool) (l d : List UInt8) (x : List (List UInt8)) (h : st p l = (x, d)) : x.length + d.length ≤ l.length := by
  have := st_len' p l ([], [])
  rw [show l.foldl (stp p) ([], []) = (x, d) from h] at this
  simpa using this
theorem split_of (p : Int → Bool) (l d : List UInt8) (x : List (List UInt8)) (h : st p l = (x, d)) : split p l = x ++ [d] := by
  rw [split, h]
end Oct
end Go.Proofs.Ytnnjfiknfmjliaa
