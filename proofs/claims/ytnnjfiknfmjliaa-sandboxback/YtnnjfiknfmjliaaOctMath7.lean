/- Words have no blanks; there are none just where a trimmed text is empty. No program is named here. -/
import Derived.Test.YtnnjfiknfmjliaaOctMath5
namespace Go.Proofs.Ytnnjfiknfmjliaa
namespace Oct

theorem word_of (l x : List UInt8) (h : x ∈ words l) : x ≠ [] ∧ ∀ b ∈ x, blankI b.toNat = false := by
  unfold words at h
  obtain ⟨h1, h2⟩ := List.mem_filter.1 h
  refine ⟨?_, split_none blankI l x h1⟩
  intro e; subst e; simp at h2
theorem dw_none (p : UInt8 → Bool) (l : List UInt8) (h : ∀ b ∈ l, p b = false) : l.dropWhile p = l := by
  cases l with
  | nil => rfl
  | cons a r => rw [List.dropWhile_cons_of_neg (by simp [h a (by simp)])]
theorem trim_none (l : List UInt8) (h : ∀ b ∈ l, blankI b.toNat = false) : trim l = l := by
  unfold trim
  rw [dw_none _ l h, dw_none _ l.reverse (fun b hb => h b (by simpa using hb)), List.reverse_reverse]
theorem st_plain (p : Int → Bool) : ∀ (l : List UInt8) (x : List (List UInt8) × List UInt8), (∀ b ∈ l, p b.toNat = false) → l.foldl (stp p) x = (x.1, x.2 ++ l)
  | [], x, _ => by simp
  | b :: l, x, h => by
    rw [List.foldl_cons, st_plain p l _ (fun c hc => h c (by simp [hc])), stp, if_neg (by simp [h b (by simp)])]
    simp
theorem words_one (l : List UInt8) (h0 : l ≠ []) (h : ∀ b ∈ l, blankI b.toNat = false) : words l = [l] := by
  have e : st blankI l = ([], l) := by
    have := st_plain blankI l ([], []) h
    rw [List.nil_append] at this
    exact this
  unfold words
  rw [split_of _ _ _ _ e]
  have : l.isEmpty = false := by simpa using h0
  simp [this]
theorem dw_nil (p : UInt8 → Bool) : ∀ l : List UInt8, l.dropWhile p = [] → ∀ x ∈ l, p x = true
  | [], _, x, hx => by simp at hx
  | a :: l, h, x, hx => by
    by_cases ha : p a = true
    · rw [List.dropWhile_cons_of_pos ha] at h
      rcases List.mem_cons.1 hx with hx | hx
      · rw [hx]; exact ha
      · exact dw_nil p l h x hx
    · rw [List.dropWhile_cons_of_neg ha] at h
      cases h
theorem trim_nil (l : List UInt8) : trim l = [] ↔ ∀ b ∈ l, blankI b.toNat = true := by
  unfold trim
  rw [List.reverse_eq_nil_iff]
  constructor
  · intro h
    have h1 := dw_nil _ _ h
    cases ha : (l.dropWhile fun b => blankI b.toNat) with
    | nil => exact dw_nil _ _ ha
    | cons a r =>
      exfalso
      have h2 := h1 a (by rw [ha]; simp)
      have h3 := dw_idem (fun b : UInt8 => blankI b.toNat) l
      rw [ha, List.dropWhile_cons_of_pos (p := fun b : UInt8 => blankI b.toNat) h2] at h3
      have h4 := congrArg List.length h3
      have h5 := (List.dropWhile_suffix (p := fun b : UInt8 => blankI b.toNat) (l := r)).length_le
      simp only [List.length_cons] at h4
      omega
  · intro h
    have e : (l.dropWhile fun b => blankI b.toNat) = [] := by
      have := List.dropWhile_append_of_pos (l₁ := l) (l₂ := []) (p := fun b : UInt8 => blankI b.toNat) h
      simpa using this
    rw [e]; rfl
theorem words_st (l : List UInt8) : ((st blankI l).1.filter (fun x => !x.isEmpty) = [] ∧ (st blankI l).2 = []) ↔ ∀ b ∈ l, blankI b.toNat = true := by
  induction hn : l.length generalizing l with
  | zero =>
    have : l = [] := List.length_eq_zero_iff.1 hn
    subst this; simp [st]
  | succ n ih =>
    obtain ⟨r, b, rfl⟩ : ∃ r b, l = r ++ [b] := by
      have : l ≠ [] := by intro h; subst h; simp at hn
      exact ⟨l.dropLast, l.getLast this, (List.dropLast_concat_getLast this).symm⟩
    have ihr := ih r (by simpa using hn)
    cases hb : blankI b.toNat with
    | true =>
      rw [st_yes blankI (st blankI r).1 (st blankI r).2 r b rfl hb]
      constructor
      · rintro ⟨h1, _⟩ x hx
        rw [List.filter_append] at h1
        obtain ⟨h2, h3⟩ := List.append_eq_nil_iff.1 h1
        have h4 : (st blankI r).2 = [] := by
          cases hc : (st blankI r).2 with
          | nil => rfl
          | cons a t => rw [hc] at h3; simp at h3
        rcases List.mem_append.1 hx with hx | hx
        · exact ihr.1 ⟨h2, h4⟩ x hx
        · have : x = b := by simpa using hx
          rw [this]; exact hb
      · intro h
        obtain ⟨h2, h4⟩ := ihr.2 (fun x hx => h x (by simp [hx]))
        refine ⟨?_, rfl⟩
        rw [List.filter_append, h2, h4]; rfl
    | false =>
      rw [st_no blankI (st blankI r).1 (st blankI r).2 r b rfl hb]
      constructor
      · rintro ⟨_, h2⟩; simp at h2
      · intro h
        have := h b (by simp)
        rw [this] at hb; cases hb
theorem words_nil (l : List UInt8) : ((words l).length == 0) = (trim l).isEmpty := by
  rw [Bool.eq_iff_iff, beq_iff_eq, List.length_eq_zero_iff, List.isEmpty_iff, trim_nil, ← words_st]
  unfold words split
  rw [List.filter_append, List.append_eq_nil_iff]
  constructor
  · rintro ⟨h1, h2⟩
    refine ⟨h1, ?_⟩
    cases hc : (st blankI l).2 with
    | nil => rfl
    | cons a t => rw [hc] at h2; simp at h2
  · rintro ⟨h1, h2⟩
    refine ⟨h1, ?_⟩
    rw [h2]; rfl
theorem st_each (p : Int → Bool) : ∀ (l : List UInt8) (x : List (List UInt8) × List UInt8) (n : Nat), (∀ q ∈ x.1 ++ [x.2], q.length ≤ n) → ∀ q ∈ (l.foldl (stp p) x).1 ++ [(l.foldl (stp p) x).2], q.length ≤ n + l.length
  | [], x, n, h => by simpa using h
  | a :: l, x, n, h => by
    rw [List.foldl_cons, List.length_cons, show n + (l.length + 1) = (n + 1) + l.length by omega]
    refine st_each p l (stp p x a) (n + 1) ?_
    intro q hq
    unfold stp at hq
    split at hq
    · simp only [List.mem_append, List.mem_singleton] at hq
      rcases hq with (hq | hq) | hq
      · have := h q (by simp [hq]); omega
      · have := h q (by simp [hq]); omega
      · subst hq; simp
    · simp only [List.mem_append, List.mem_singleton] at hq
      rcases hq with hq | hq
      · have := h q (by simp [hq]); omega
      · have := h x.2 (by simp)
        subst hq; simp; exact this
theorem word_len (l x : List UInt8) (h : x ∈ words l) : x.length ≤ l.length := by
  unfold words at h
  obtain ⟨h1, _⟩ := List.mem_filter.1 h
  have := st_each blankI l ([], []) 0 (by simp) x h1
  simpa using this
end Oct
end Go.Proofs.Ytnnjfiknfmjliaa
