/- Laws of small letters, blanks at the ends, tokens, and of the parts of texts laid one behind the other; no program is named here. -/
import Derived.Test.YtnnjfiknfmjliaaOctMem
import Derived.Test.YtnnjfiknfmjliaaOctMath3
namespace Go.Proofs.Ytnnjfiknfmjliaa
namespace Oct

theorem low1_low1 (c : UInt8) : low1 (low1 c) = low1 c := by
  unfold low1
  by_cases h : 65 ≤ c.toNat ∧ c.toNat ≤ 90
  · rw [if_pos h]
    have : (c + 32).toNat = c.toNat + 32 := by
      rw [UInt8.toNat_add]
      have : (32 : UInt8).toNat = 32 := rfl
      omega
    rw [if_neg (by omega)]
  · rw [if_neg h, if_neg h]
theorem lower_lower (l : List UInt8) : lower (lower l) = lower l := by
  simp [lower, low1_low1]
theorem lower_length (l : List UInt8) : (lower l).length = l.length := by simp [lower]
theorem tchar_low1 (c : UInt8) : tcharI (low1 c).toNat = tcharI c.toNat := by
  have : ∀ n : Fin 256, tcharI (low1 (UInt8.ofNat n)).toNat = tcharI (UInt8.ofNat n).toNat := by decide +kernel
  have h := this ⟨c.toNat, c.toNat_lt⟩
  simpa using h
theorem token_lower (l : List UInt8) : tokenB (lower l) = tokenB l := by
  unfold tokenB lower allB
  rw [List.all_map]
  congr 1
  · congr 1
    funext c
    exact tchar_low1 c
  · simp

theorem dw_idem (p : UInt8 → Bool) : ∀ l : List UInt8, (l.dropWhile p).dropWhile p = l.dropWhile p
  | [] => rfl
  | c :: l => by
    by_cases h : p c = true
    · rw [List.dropWhile_cons_of_pos h]; exact dw_idem p l
    · rw [List.dropWhile_cons_of_neg h, List.dropWhile_cons_of_neg h]
theorem dw_prefix (p : UInt8 → Bool) (m a : List UInt8) (h : m <+: a) (ha : a.dropWhile p = a) : m.dropWhile p = m := by
  obtain ⟨t, rfl⟩ := h
  cases m with
  | nil => rfl
  | cons c m =>
    by_cases hc : p c = true
    · exfalso
      rw [List.cons_append, List.dropWhile_cons_of_pos hc] at ha
      have h1 := congrArg List.length ha
      have h2 := (List.dropWhile_suffix (p := p) (l := m ++ t)).length_le
      simp only [List.length_cons] at h1
      omega
    · rw [List.dropWhile_cons_of_neg hc]
theorem trim_trim (l : List UInt8) : trim (trim l) = trim l := by
  unfold trim
  generalize ha : (l.dropWhile fun b => blankI b.toNat) = a
  have ha2 : (a.dropWhile fun b => blankI b.toNat) = a := by rw [← ha]; exact dw_idem _ _
  have hp : (a.reverse.dropWhile fun b => blankI b.toNat).reverse <+: a := by
    have := List.dropWhile_suffix (p := fun b : UInt8 => blankI b.toNat) (l := a.reverse)
    have := List.reverse_prefix.2 this
    simpa using this
  rw [dw_prefix _ _ _ hp ha2, List.reverse_reverse, dw_idem]
theorem trim_length (l : List UInt8) : (trim l).length ≤ l.length := by
  unfold trim
  rw [List.length_reverse]
  have h1 := (List.dropWhile_suffix (p := fun b : UInt8 => blankI b.toNat) (l := (l.dropWhile fun b => blankI b.toNat).reverse)).length_le
  have h2 := (List.dropWhile_suffix (p := fun b : UInt8 => blankI b.toNat) (l := l)).length_le
  simp only [List.length_reverse] at h1
  omega

theorem st_from (p : Int → Bool) : ∀ (t : List UInt8) (d : List (List UInt8)) (x : List (List UInt8) × List UInt8), t.foldl (stp p) (d ++ x.1, x.2) = (d ++ (t.foldl (stp p) x).1, (t.foldl (stp p) x).2)
  | [], d, x => rfl
  | b :: t, d, x => by
    rw [List.foldl_cons, List.foldl_cons, ← st_from p t d (stp p x b)]
    congr 1
    unfold stp
    split <;> simp
theorem split_glue (p : Int → Bool) (s t : List UInt8) (c : UInt8) (hc : p c.toNat = true) : split p (s ++ [c] ++ t) = split p s ++ split p t := by
  have e : st p (s ++ [c] ++ t) = ((st p s).1 ++ [(st p s).2] ++ (st p t).1, (st p t).2) := by
    have h1 : st p (s ++ [c] ++ t) = t.foldl (stp p) (st p (s ++ [c])) := by simp [st, List.foldl_append]
    rw [h1, st_yes p (st p s).1 (st p s).2 s c rfl hc]
    have := st_from p t ((st p s).1 ++ [(st p s).2]) ([], [])
    rw [List.append_nil] at this
    exact this
  unfold split
  rw [e]
  simp
theorem words_glue (s t : List UInt8) : words (s ++ [32] ++ t) = words s ++ words t := by
  unfold words
  rw [split_glue blankI s t 32 rfl, List.filter_append]
theorem split_pos (p : Int → Bool) (l : List UInt8) : 0 < (split p l).length := by simp [split]
theorem split_len (p : Int → Bool) (l : List UInt8) : (split p l).length ≤ l.length + 1 := by
  have := st_len p l (st p l).2 (st p l).1 rfl
  simp [split]; omega
theorem words_len (l : List UInt8) : (words l).length ≤ l.length + 1 := by
  have h1 := split_len blankI l
  have h2 := List.length_filter_le (fun x => !x.isEmpty) (split blankI l)
  unfold words; omega
end Oct
end Go.Proofs.Ytnnjfiknfmjliaa
