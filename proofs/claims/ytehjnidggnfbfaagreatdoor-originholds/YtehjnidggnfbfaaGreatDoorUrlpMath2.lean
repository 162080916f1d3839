/- Laws of URLs: paths, ports, what stands at the ends. No function of the program is walked here. -/
import Derived.Test.YtehjnidggnfbfaaGreatDoorUrlpWalk
import Derived.Test.YtehjnidggnfbfaaGreatDoorHostAll
namespace Go.Proofs.YtehjnidggnfbfaaGreatDoor
namespace Urp
open Oct

/-! ### cutting at a byte -/
def No (c : UInt8) (l : List UInt8) : Prop := ∀ b ∈ l, b ≠ c
theorem has_app (c : UInt8) (x y : List UInt8) : hasB c (x ++ y) = (hasB c x || hasB c y) := by simp [hasB, List.any_append]
theorem no_has {c : UInt8} {l : List UInt8} (h : No c l) : hasB c l = false := by
  unfold hasB; rw [List.any_eq_false]; intro b hb; simpa using h b hb
theorem has_no {c : UInt8} {l : List UInt8} (h : hasB c l = false) : No c l := by
  unfold hasB at h; rw [List.any_eq_false] at h; intro b hb; simpa using h b hb
theorem bef_app {c : UInt8} {x : List UInt8} (h : No c x) (y : List UInt8) : bef c (x ++ y) = x ++ bef c y := by
  unfold bef; exact List.takeWhile_append_of_pos (fun b hb => by simpa using h b hb)
theorem aft_app {c : UInt8} {x : List UInt8} (h : No c x) (y : List UInt8) : aft c (x ++ y) = aft c y := by
  unfold aft; rw [List.dropWhile_append_of_pos (fun b hb => by simpa using h b hb)]
theorem bef_no {c : UInt8} {x : List UInt8} (h : No c x) : bef c x = x := by
  have := bef_app h []; simpa [bef] using this
theorem aft_no {c : UInt8} {x : List UInt8} (h : No c x) : aft c x = [] := by
  have := aft_app h []; simpa [aft] using this
theorem bef_hit (c : UInt8) (y : List UInt8) : bef c (c :: y) = [] := by simp [bef]
theorem aft_hit (c : UInt8) (y : List UInt8) : aft c (c :: y) = y := by simp [aft]
theorem has_hit (c : UInt8) (y : List UInt8) : hasB c (c :: y) = true := by simp [hasB]
theorem bef_app_has {c : UInt8} {x : List UInt8} (h : hasB c x = true) (y : List UInt8) : bef c (x ++ y) = bef c x ∧ aft c (x ++ y) = aft c x ++ y := by
  induction x with
  | nil => simp [hasB] at h
  | cons b x ih =>
    by_cases hb : b = c
    · subst hb; exact ⟨by rw [List.cons_append, bef_hit, bef_hit], by rw [List.cons_append, aft_hit, aft_hit]⟩
    · have h' : hasB c x = true := by
        have hbc : (b == c) = false := by simpa using hb
        simpa [hasB, hbc] using h
      have hbc : (b != c) = true := by simpa using hb
      obtain ⟨h1, h2⟩ := ih h'
      constructor
      · show bef c (b :: (x ++ y)) = bef c (b :: x)
        have e : ∀ z, bef c (b :: z) = b :: bef c z := fun z => by simp [bef, hb]
        rw [e, e, h1]
      · show aft c (b :: (x ++ y)) = aft c (b :: x) ++ y
        have e : ∀ z, aft c (b :: z) = aft c z := fun z => by simp [aft, hb]
        rw [e, e, h2]
theorem no_app {c : UInt8} {x y : List UInt8} (h1 : No c x) (h2 : No c y) : No c (x ++ y) := by
  intro b hb; rcases List.mem_append.1 hb with h | h
  · exact h1 b h
  · exact h2 b h
theorem no_bef (c : UInt8) (l : List UInt8) : No c (bef c l) := by
  induction l with
  | nil => intro b hb; simp [bef] at hb
  | cons a l ih =>
    intro b hb
    by_cases h : a = c
    · subst h; rw [bef_hit] at hb; cases hb
    · have e : bef c (a :: l) = a :: bef c l := by simp [bef, h]
      rw [e] at hb
      rcases List.mem_cons.1 hb with rfl | hb
      · exact h
      · exact ih b hb
theorem bef_sub (c : UInt8) (l : List UInt8) : ∀ b ∈ bef c l, b ∈ l := fun _ hb => (List.takeWhile_prefix (p := fun b => b != c) (l := l)).subset hb
theorem aft_sub (c : UInt8) (l : List UInt8) : ∀ b ∈ aft c l, b ∈ l := fun _ hb => (List.dropWhile_suffix (p := fun b => b != c) (l := l)).subset (List.mem_of_mem_drop hb)
/-- A text is what stands ahead of a byte, the byte, and what stands behind. -/
theorem cut_join {c : UInt8} {l : List UInt8} (h : hasB c l = true) : l = bef c l ++ c :: aft c l := by
  induction l with
  | nil => simp [hasB] at h
  | cons b x ih =>
    by_cases hb : b = c
    · subst hb; rw [bef_hit, aft_hit]; rfl
    · have hbc : (b == c) = false := by simpa using hb
      have h' : hasB c x = true := by simpa [hasB, hbc] using h
      have e1 : bef c (b :: x) = b :: bef c x := by simp [bef, hb]
      have e2 : aft c (b :: x) = aft c x := by simp [aft, hb]
      rw [e1, e2]
      simp only [List.cons_append]
      rw [← ih h']

/-! ### what stands at the ends -/
theorem dw_none {p : UInt8 → Bool} {l : List UInt8} (h : ∀ b ∈ l, p b = false) : l.dropWhile p = l := by
  cases l with
  | nil => rfl
  | cons b l => rw [List.dropWhile_cons_of_neg (by rw [h b (by simp)]; simp)]
theorem trimU_vis {l : List UInt8} (h : ∀ b ∈ l, outerB b = false) : trimU l = l := by
  unfold trimU
  rw [dw_none h, dw_none (fun b hb => h b (by simpa using hb)), List.reverse_reverse]
theorem trimU_left {a l : List UInt8} (h : ∀ b ∈ a, outerB b = true) : trimU (a ++ l) = trimU l := by
  unfold trimU; rw [List.dropWhile_append_of_pos h]
theorem dw_app_ne {p : UInt8 → Bool} (a b : List UInt8) (h : ∃ x ∈ a, p x = false) : (a ++ b).dropWhile p = a.dropWhile p ++ b := by
  induction a with
  | nil => obtain ⟨x, hx, _⟩ := h; cases hx
  | cons c a ih =>
    cases hc : p c with
    | false => rw [List.cons_append, List.dropWhile_cons_of_neg (by simp [hc]), List.dropWhile_cons_of_neg (by simp [hc])]; rfl
    | true =>
      rw [List.cons_append, List.dropWhile_cons_of_pos hc, List.dropWhile_cons_of_pos hc]
      apply ih
      obtain ⟨x, hx, hp⟩ := h
      rcases List.mem_cons.1 hx with rfl | hx
      · rw [hc] at hp; cases hp
      · exact ⟨x, hx, hp⟩
theorem dw_nil {p : UInt8 → Bool} {a : List UInt8} (h : ∀ x ∈ a, p x = true) : a.dropWhile p = [] := by
  have := List.dropWhile_append_of_pos (l₁ := a) (l₂ := []) h
  simpa using this
theorem trimU_right {l z : List UInt8} (h : ∀ b ∈ z, outerB b = true) : trimU (l ++ z) = trimU l := by
  unfold trimU
  by_cases hx : ∃ x ∈ l, outerB x = false
  · rw [dw_app_ne l z hx, List.reverse_append, List.dropWhile_append_of_pos (fun b hb => h b (by simpa using hb))]
  · have hall : ∀ x ∈ l, outerB x = true := fun x hm => by
      cases he : outerB x with
      | true => rfl
      | false => exact absurd ⟨x, hm, he⟩ hx
    rw [dw_nil hall, dw_nil (a := l ++ z) (fun x hm => (List.mem_append.1 hm).elim (hall x) (h x))]
/-- Without what stands at the end. -/
def endU (l : List UInt8) : List UInt8 := (l.reverse.dropWhile outerB).reverse
theorem endU_pre (l : List UInt8) : endU l <+: l := by
  have := List.dropWhile_suffix (p := outerB) (l := l.reverse)
  have := List.reverse_prefix.2 this
  simpa [endU] using this
theorem trimU_mid {x : List UInt8} (m : List UInt8) (hx : x ≠ []) (h : ∀ b ∈ x, outerB b = false) : trimU (x ++ m) = x ++ endU m := by
  have e1 : (x ++ m).dropWhile outerB = x ++ m := by
    cases x with
    | nil => exact absurd rfl hx
    | cons b x => rw [List.cons_append, List.dropWhile_cons_of_neg (by rw [h b (by simp)]; simp)]
  unfold trimU endU
  rw [e1, List.reverse_append]
  by_cases hm : ∃ y ∈ m.reverse, outerB y = false
  · rw [dw_app_ne _ _ hm, List.reverse_append, List.reverse_reverse]
  · have hall : ∀ y ∈ m.reverse, outerB y = true := fun y hy => by
      cases he : outerB y with
      | true => rfl
      | false => exact absurd ⟨y, hy, he⟩ hm
    rw [List.dropWhile_append_of_pos hall, dw_nil hall, dw_none (fun b hb => h b (by simpa using hb))]
    simp

/-! ### segments -/
theorem walk_mem : ∀ (ps k : List (List UInt8)), ∀ x ∈ walk k ps, x ∈ k ∨ x = [] ∨ (x ∈ ps ∧ x ≠ dot1 ∧ x ≠ dot2)
  | [], k, x, h => .inl h
  | p :: r, k, x, h => by
    have h' : x ∈ walk (stepC r.isEmpty k p) r := h
    rcases walk_mem r _ x h' with h1 | h1 | ⟨h1, h2, h3⟩
    · have hs : x ∈ k ∨ x = [] ∨ (x = p ∧ p ≠ dot1 ∧ p ≠ dot2) := by
        unfold stepC at h1
        have hd : ∀ y ∈ k.dropLast, y ∈ k := fun y hy => List.dropLast_subset k hy
        split at h1
        · split at h1
          · rcases List.mem_append.1 h1 with h1 | h1
            · exact .inl (hd x h1)
            · exact .inr (.inl (by simpa using h1))
          · exact .inl (hd x h1)
        · rename_i hn2
          split at h1
          · split at h1
            · rcases List.mem_append.1 h1 with h1 | h1
              · exact .inl h1
              · exact .inr (.inl (by simpa using h1))
            · exact .inl h1
          · rename_i hn1
            rcases List.mem_append.1 h1 with h1 | h1
            · exact .inl h1
            · exact .inr (.inr ⟨by simpa using h1, hn1, hn2⟩)
      rcases hs with h | h | ⟨rfl, ha, hb⟩
      · exact .inl h
      · exact .inr (.inl h)
      · exact .inr (.inr ⟨by simp, ha, hb⟩)
    · exact .inr (.inl h1)
    · exact .inr (.inr ⟨List.mem_cons_of_mem _ h1, h2, h3⟩)
theorem walk_id : ∀ (ps k : List (List UInt8)), (∀ x ∈ ps, x ≠ dot1 ∧ x ≠ dot2) → walk k ps = k ++ ps
  | [], k, _ => by simp [walk]
  | p :: r, k, h => by
    show walk (stepC r.isEmpty k p) r = _
    rw [step_x _ k p (h p (by simp)).2 (h p (by simp)).1, walk_id r _ (fun x hx => h x (List.mem_cons_of_mem _ hx))]
    simp
theorem segs_no (p : List UInt8) : ∀ q ∈ segs p, ∀ b ∈ q, ((b.toNat : Int) == 47) = false := split_none (fun x => x == 47) p
/-- What remains of a path's segments: none is points, none has a stroke. -/
theorem kept_good (p : List UInt8) : ∀ x ∈ walk [] (segs p), x ≠ dot1 ∧ x ≠ dot2 ∧ ∀ b ∈ x, ((b.toNat : Int) == 47) = false := by
  intro x hx
  rcases walk_mem (segs p) [] x hx with h | h | ⟨h1, h2, h3⟩
  · cases h
  · subst h; exact ⟨by decide, by decide, by simp⟩
  · exact ⟨h2, h3, segs_no p x h1⟩
theorem segs_join (ks : List (List UInt8)) (h0 : ks ≠ []) (h : ∀ q ∈ ks, ∀ b ∈ q, ((b.toNat : Int) == 47) = false) : segs (join 47 ks) = ks := Hst.split_join 47 ks h0 h
theorem segs_str (p : List UInt8) : segs (47 :: p) = [] :: segs p := by
  have := split_glue (fun x => x == 47) [] p 47 (by rfl)
  exact this
theorem path_segs (p : List UInt8) : segs (pathOf p) = [] :: walk [] (segs p) := by
  unfold pathOf
  rw [segs_str, segs_join _ (walk_segs_ne p) (fun q hq => (kept_good p q hq).2.2)]
/-- A path that was made so is made so again. -/
theorem path_again (p : List UInt8) : pathOf ((pathOf p).drop 1) = pathOf p := by
  have e : (pathOf p).drop 1 = join 47 (walk [] (segs p)) := rfl
  rw [e]
  unfold pathOf
  rw [segs_join _ (walk_segs_ne p) (fun q hq => (kept_good p q hq).2.2), walk_id _ _ (fun x hx => ⟨(kept_good p x hx).1, (kept_good p x hx).2.1⟩)]
  rfl
theorem join_mem (c : UInt8) (ks : List (List UInt8)) : ∀ b ∈ join c ks, b = c ∨ ∃ k ∈ ks, b ∈ k := by
  induction ks with
  | nil => intro b hb; simp [join] at hb
  | cons p r ih =>
    intro b hb
    cases r with
    | nil => exact .inr ⟨p, by simp, by simpa [join] using hb⟩
    | cons q r =>
      have hb' : b ∈ p ++ c :: join c (q :: r) := hb
      rcases List.mem_append.1 hb' with h | h
      · exact .inr ⟨p, by simp, h⟩
      · rcases List.mem_cons.1 h with h | h
        · exact .inl h
        · rcases ih b h with h | ⟨k, hk, h⟩
          · exact .inl h
          · exact .inr ⟨k, List.mem_cons_of_mem _ hk, h⟩
theorem segs_sub (p : List UInt8) : ∀ k ∈ segs p, ∀ b ∈ k, b ∈ p := by
  intro k hk b hb
  have e : join 47 (segs p) = p := join_split 47 p
  rw [← e]
  generalize segs p = ks at hk
  clear e
  induction ks with
  | nil => cases hk
  | cons q r ih =>
    rcases List.mem_cons.1 hk with rfl | hk
    · cases r with
      | nil => simpa [join] using hb
      | cons q r => show b ∈ k ++ 47 :: join 47 (q :: r); simp [hb]
    · cases r with
      | nil => cases hk
      | cons q2 r => show b ∈ q ++ 47 :: join 47 (q2 :: r); simp [ih hk]
theorem path_sub (p : List UInt8) : ∀ b ∈ pathOf p, b = 47 ∨ b ∈ p := by
  intro b hb
  unfold pathOf at hb
  rcases List.mem_cons.1 hb with h | h
  · exact .inl h
  · rcases join_mem 47 _ b h with h | ⟨k, hk, h⟩
    · exact .inl h
    · rcases walk_mem (segs p) [] k hk with h1 | h1 | ⟨h1, _, _⟩
      · cases h1
      · subst h1; cases h
      · exact .inr (segs_sub p k h1 b h)

/-! ### ports -/
theorem port_bd {s p : List UInt8} {x : Int} (h : portOf s p = some x) : x = -1 ∨ (0 ≤ x ∧ x ≤ 65535 ∧ x ≠ own s ∧ p = Lib.itoa x) := by
  unfold portOf at h
  split at h
  · simp only [Option.some.injEq] at h; exact .inl h.symm
  · split at h
    · rename_i hk
      have h3 := numOk_parts _ _ hk
      have h0 := val_nonneg _ h3.2.2.1
      split at h
      · simp only [Option.some.injEq] at h; exact .inl h.symm
      · rename_i hne
        simp only [Option.some.injEq] at h
        subst h
        refine .inr ⟨h0, h3.2.2.2, hne, ?_⟩
        unfold Lib.itoa
        rw [if_neg (by omega)]
        exact (dec_val (p.length - 1) p (by omega) h3.2.2.1 h3.2.1).symm
    · cases h
end Urp
end Go.Proofs.YtehjnidggnfbfaaGreatDoor
