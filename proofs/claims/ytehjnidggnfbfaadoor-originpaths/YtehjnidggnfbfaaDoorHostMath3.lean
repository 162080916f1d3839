/- Laws of sites. No program is named here. -/
import Derived.Test.YtehjnidggnfbfaaDoorHostMath2
import Derived.Test.YtehjnidggnfbfaaDoorHostSite
namespace Go.Proofs.YtehjnidggnfbfaaDoor
open Hst

/-- What the longest is: not less than any that matches, and one of them (or 1). -/
theorem fold_ge (ls : List (List UInt8)) : ∀ (l : List (List (List UInt8))) b, b ≤ l.foldl (stepN ls) b
  | [], _ => Nat.le_refl _
  | x :: r, b => Nat.le_trans (step_ge ls b x) (fold_ge ls r _)
theorem fold_all (ls : List (List UInt8)) : ∀ (l : List (List (List UInt8))) b, ∀ x ∈ l, hitB ls x = true → x.length ≤ l.foldl (stepN ls) b
  | [], _, x, h, _ => by simp at h
  | y :: r, b, x, h, hh => by
    rw [List.foldl_cons]
    rcases List.mem_cons.1 h with rfl | h
    · refine Nat.le_trans ?_ (fold_ge ls r _)
      unfold stepN
      by_cases hb : b < x.length
      · simp [hb, hh]
      · simp [hb]; omega
    · exact fold_all ls r _ x h hh
theorem fold_one (ls : List (List UInt8)) : ∀ (l : List (List (List UInt8))) b, l.foldl (stepN ls) b = b ∨ ∃ x ∈ l, hitB ls x = true ∧ l.foldl (stepN ls) b = x.length
  | [], b => .inl rfl
  | y :: r, b => by
    rw [List.foldl_cons]
    rcases fold_one ls r (stepN ls b y) with h | ⟨x, hx, hh, he⟩
    · rw [h]
      unfold stepN
      split
      · rename_i hc
        rw [Bool.and_eq_true] at hc
        exact .inr ⟨y, by simp, hc.2, rfl⟩
      · exact .inl rfl
    · exact .inr ⟨x, by simp [hx], hh, he⟩
theorem best_all (ls sx : List (List UInt8)) (s : List UInt8) (hs : s ∈ sx) (hh : hitB ls (parts s) = true) : (parts s).length ≤ bestN ls sx := fold_all ls _ 1 _ (List.mem_map.2 ⟨s, hs, rfl⟩) hh
theorem best_one (ls sx : List (List UInt8)) : bestN ls sx = 1 ∨ ∃ s ∈ sx, hitB ls (parts s) = true ∧ bestN ls sx = (parts s).length := by
  rcases fold_one ls (sx.map parts) 1 with h | ⟨x, hx, hh, he⟩
  · exact .inl h
  · obtain ⟨s, hs, rfl⟩ := List.mem_map.1 hx
    exact .inr ⟨s, hs, hh, he⟩
/-- The longest hangs on which suffixes there are, and which match, alone. -/
theorem best_le_of (ls ls' sx sx' : List (List UInt8)) (h : ∀ s ∈ sx, hitB ls (parts s) = true → ∃ s' ∈ sx', hitB ls' (parts s') = true ∧ (parts s).length ≤ (parts s').length) : bestN ls sx ≤ bestN ls' sx' := by
  rcases best_one ls sx with e | ⟨s, hs, hh, e⟩
  · rw [e]; exact best_ge ls' sx'
  · obtain ⟨s', hs', hh', hl⟩ := h s hs hh
    have := best_all ls' sx' s' hs' hh'
    omega
theorem best_turn (ls sx : List (List UInt8)) : bestN ls (sx ++ sx.reverse) = bestN ls sx := by
  apply Nat.le_antisymm
  · exact best_le_of _ _ _ _ (fun s hs hh => ⟨s, by simpa using hs, hh, Nat.le_refl _⟩)
  · exact best_le_of _ _ _ _ (fun s hs hh => ⟨s, by simp [hs], hh, Nat.le_refl _⟩)
theorem site_turn (h : Host) (sx : List (List UInt8)) : siteL h (sx ++ sx.reverse) = siteL h sx := by
  unfold siteL siteN
  rw [best_turn]

theorem hit_len {ls ks : List (List UInt8)} (h : hitB ls ks = true) : ks.length ≤ ls.length ∧ ls.drop (ls.length - ks.length) = ks := by
  unfold hitB at h
  rw [Bool.and_eq_true, decide_eq_true_eq, beq_iff_eq] at h
  exact h
theorem hit_mk {ls ks : List (List UInt8)} (h1 : ks.length ≤ ls.length) (h2 : ls.drop (ls.length - ks.length) = ks) : hitB ls ks = true := by
  unfold hitB
  rw [Bool.and_eq_true, decide_eq_true_eq, beq_iff_eq]
  exact ⟨h1, h2⟩
/-- Where the labels behind some place are at least as many, matching is the same there. -/
theorem hit_drop {ls ks : List (List UInt8)} (j : Nat) (h : ks.length ≤ ls.length - j) : hitB (ls.drop j) ks = hitB ls ks := by
  have e : (ls.drop j).drop ((ls.drop j).length - ks.length) = ls.drop (ls.length - ks.length) ∨ j > ls.length := by
    by_cases hj : j ≤ ls.length
    · left
      rw [List.drop_drop, List.length_drop]
      congr 1; omega
    · right; omega
  rcases e with e | e
  · unfold hitB
    rw [e, List.length_drop]
    congr 1
    rw [decide_eq_decide]
    omega
  · have hk : ks = [] := List.length_eq_zero_iff.1 (by omega)
    subst hk
    unfold hitB
    simp
    omega
theorem best_bound (ls sx : List (List UInt8)) (hl : 0 < ls.length) : bestN ls sx ≤ ls.length := by
  rcases best_one ls sx with e | ⟨s, _, hh, e⟩
  · omega
  · have := (hit_len hh).1; omega
/-- The site of a site is the site. -/
theorem best_drop (ls sx : List (List UInt8)) : (ls.drop (ls.length - bestN ls sx - 1)).length ≤ bestN (ls.drop (ls.length - bestN ls sx - 1)) sx + 1 := by
  obtain ⟨B, hB⟩ : ∃ B, bestN ls sx = B := ⟨_, rfl⟩
  rw [hB, List.length_drop]
  have h1 := best_ge (ls.drop (ls.length - B - 1)) sx
  rcases best_one ls sx with e | ⟨s, hs, hh, e⟩
  · rw [hB] at e; omega
  · rw [hB] at e
    have hk := (hit_len hh).1
    have h2 := best_all (ls.drop (ls.length - B - 1)) sx s hs (by rw [hit_drop _ (by omega)]; exact hh)
    omega

theorem join_app (a b : List (List UInt8)) (ha : a ≠ []) (hb : b ≠ []) : Oct.join 46 (a ++ b) = Oct.join 46 a ++ 46 :: Oct.join 46 b := by
  induction a with
  | nil => exact absurd rfl ha
  | cons p r ih =>
    cases r with
    | nil =>
      cases b with
      | nil => exact absurd rfl hb
      | cons q t => rfl
    | cons q t =>
      have := ih (by simp)
      simp only [List.cons_append] at this ⊢
      simp only [Oct.join]
      rw [this]
      simp
theorem parts_drop (n : List UInt8) (k : Nat) (hk : k < (parts n).length) : parts (Oct.join 46 ((parts n).drop k)) = (parts n).drop k := by
  refine parts_join _ ?_ ?_
  · intro e
    have := congrArg List.length e
    simp at this; omega
  · intro q hq
    exact parts_none n q (List.mem_of_mem_drop hq)
theorem siteN_site (n : List UInt8) (sx : List (List UInt8)) : siteN (siteN n sx) sx = siteN n sx := by
  unfold siteN
  have hp := parts_pos n
  have h1 := best_ge (parts n) sx
  rw [parts_drop n _ (by omega)]
  have h2 := best_drop (parts n) sx
  rw [show ((parts n).drop ((parts n).length - bestN (parts n) sx - 1)).length - bestN ((parts n).drop ((parts n).length - bestN (parts n) sx - 1)) sx - 1 = 0 by omega]
  rfl
/-- A name is what stands ahead of its site, a point, and the site; or the site. -/
theorem site_end (n : List UInt8) (sx : List (List UInt8)) : siteN n sx = n ∨ ∃ pre, n = pre ++ 46 :: siteN n sx := by
  unfold siteN
  obtain ⟨k, hk⟩ : ∃ k, (parts n).length - bestN (parts n) sx - 1 = k := ⟨_, rfl⟩
  rw [hk]
  have hp := parts_pos n
  have h1 := best_ge (parts n) sx
  rcases Nat.eq_zero_or_pos k with h0 | h0
  · left; rw [h0, List.drop_zero, join_parts]
  · right
    refine ⟨Oct.join 46 ((parts n).take k), ?_⟩
    rw [← join_app]
    · rw [List.take_append_drop, join_parts]
    · intro e
      have := congrArg List.length e
      rw [List.length_take] at this
      simp only [List.length_nil] at this
      omega
    · intro e
      have := congrArg List.length e
      simp at this; omega
theorem site_ne (n : List UInt8) (sx : List (List UInt8)) (h : domB n = true) : siteN n sx ≠ [] := by
  unfold siteN
  obtain ⟨k, hk⟩ : ∃ k, (parts n).length - bestN (parts n) sx - 1 = k := ⟨_, rfl⟩
  rw [hk]
  have hp := parts_pos n
  have h1 := best_ge (parts n) sx
  obtain ⟨q, r, e⟩ : ∃ q r, (parts n).drop k = q :: r := by
    cases hd : (parts n).drop k with
    | nil => have := congrArg List.length hd; simp at this; omega
    | cons q r => exact ⟨q, r, rfl⟩
  have hq : q ∈ parts n := List.mem_of_mem_drop (by rw [e]; simp)
  have hl := lab_pos ((dom_len h).2 q hq)
  rw [e]
  cases r with
  | nil => intro e2; simp [Oct.join] at e2; subst e2; simp at hl
  | cons q2 r => simp [Oct.join]
theorem site_len (n : List UInt8) (sx : List (List UInt8)) : (siteN n sx).length ≤ n.length := by
  rcases site_end n sx with e | ⟨pre, e⟩
  · rw [e]; exact Nat.le_refl _
  · have := congrArg List.length e
    simp at this; omega
/-- A label ahead changes no site, if no suffix is as long as all of the host. -/
theorem site_more (p n : List UInt8) (sx : List (List UInt8)) (hw : ∀ s ∈ sx, (parts s).length < (parts n).length) (hp : (parts (p ++ 46 :: n)).length = (parts n).length + 1) (h3 : ¬ (siteN n sx = n ∧ (parts (p ++ 46 :: n)).length < 3)) :
    siteN (p ++ 46 :: n) sx = siteN n sx := by
  have hs : parts (p ++ 46 :: n) = parts p ++ parts n := by
    have := Oct.split_glue (fun x => x == 46) p n 46 rfl
    rw [List.append_assoc] at this
    exact this
  have hl := parts_pos n
  have h1 := best_ge (parts n) sx
  have hd : (parts p ++ parts n).drop 1 = parts n := by
    rw [hs, List.length_append] at hp
    have h1p : (parts p).length = 1 := by omega
    rw [← h1p, List.drop_left]
  have hlen : (parts p ++ parts n).length = (parts n).length + 1 := by rw [← hs]; exact hp
  have hbe : bestN (parts p ++ parts n) sx = bestN (parts n) sx := by
    have hh : ∀ s ∈ sx, hitB (parts n) (parts s) = hitB (parts p ++ parts n) (parts s) := fun s hs => by
      have := hit_drop (ls := parts p ++ parts n) (ks := parts s) 1 (by have := hw s hs; omega)
      rwa [hd] at this
    apply Nat.le_antisymm
    · exact best_le_of _ _ _ _ (fun s hs hx => ⟨s, hs, by rw [hh s hs]; exact hx, Nat.le_refl _⟩)
    · exact best_le_of _ _ _ _ (fun s hs hx => ⟨s, hs, by rw [← hh s hs]; exact hx, Nat.le_refl _⟩)
  have hB : bestN (parts n) sx < (parts n).length ∨ (parts n).length = 1 := by
    rcases best_one (parts n) sx with e | ⟨s, hs, _, e⟩
    · rw [e]; omega
    · rw [e]; exact .inl (hw s hs)
  rcases hB with hB | hB
  · unfold siteN
    rw [hs, hbe, hlen, show (parts n).length + 1 - bestN (parts n) sx - 1 = 1 + ((parts n).length - bestN (parts n) sx - 1) by omega, ← List.drop_drop, hd]
  · exfalso
    apply h3
    refine ⟨?_, by omega⟩
    unfold siteN
    rw [show (parts n).length - bestN (parts n) sx - 1 = 0 by omega, List.drop_zero, join_parts]
end Go.Proofs.YtehjnidggnfbfaaDoor
