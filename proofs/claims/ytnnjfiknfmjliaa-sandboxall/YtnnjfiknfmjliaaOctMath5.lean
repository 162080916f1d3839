/- Parts with the byte between are the text; none has the byte. No program is named here. -/
import Derived.Test.YtnnjfiknfmjliaaOctMath4
namespace Go.Proofs.Ytnnjfiknfmjliaa
namespace Oct

/-- Texts with a byte between. -/
def join (c : UInt8) : List (List UInt8) → List UInt8
  | [] => []
  | [p] => p
  | p :: q :: r => p ++ c :: join c (q :: r)
theorem join_snoc (c : UInt8) (p : List UInt8) : ∀ l : List (List UInt8), join c (l ++ [p]) = join c l ++ (if l.isEmpty then [] else [c]) ++ p
  | [] => by simp [join]
  | [q] => by simp [join]
  | q :: r :: l => by
    have := join_snoc c p (r :: l)
    simp only [List.cons_append] at this
    simp only [List.cons_append, join, this]
    simp
theorem join_st (c : UInt8) (l : List UInt8) : join c ((st (fun x => x == (c.toNat : Int)) l).1 ++ [(st (fun x => x == (c.toNat : Int)) l).2]) = l := by
  generalize hp : (fun x : Int => x == (c.toNat : Int)) = p
  induction hn : l.length generalizing l with
  | zero =>
    have : l = [] := List.length_eq_zero_iff.1 hn
    subst this; rfl
  | succ n ih =>
    obtain ⟨r, b, rfl⟩ : ∃ r b, l = r ++ [b] := by
      have : l ≠ [] := by intro h; subst h; simp at hn
      exact ⟨l.dropLast, l.getLast this, (List.dropLast_concat_getLast this).symm⟩
    have ihr := ih r (by simpa using hn)
    cases hb : p b.toNat with
    | true =>
      rw [st_yes p (st p r).1 (st p r).2 r b rfl hb]
      have hbc : b = c := by
        rw [← hp] at hb
        have := beq_iff_eq.1 hb
        exact UInt8.toNat_inj.1 (by omega)
      rw [join_snoc, ihr, hbc]
      simp
    | false =>
      rw [st_no p (st p r).1 (st p r).2 r b rfl hb]
      rw [join_snoc] at ihr
      rw [join_snoc, ← List.append_assoc, ihr]
theorem join_split (c : UInt8) (l : List UInt8) : join c (split (fun x => x == (c.toNat : Int)) l) = l := join_st c l

theorem st_none (p : Int → Bool) : ∀ (l : List UInt8) (x : List (List UInt8) × List UInt8), (∀ q ∈ x.1 ++ [x.2], ∀ b ∈ q, p b.toNat = false) → ∀ q ∈ (l.foldl (stp p) x).1 ++ [(l.foldl (stp p) x).2], ∀ b ∈ q, p b.toNat = false
  | [], x, h => h
  | a :: l, x, h => by
    rw [List.foldl_cons]
    refine st_none p l (stp p x a) ?_
    intro q hq b hb
    unfold stp at hq
    by_cases ha : p a.toNat = true
    · rw [if_pos ha] at hq
      simp only [List.mem_append, List.mem_singleton] at hq
      rcases hq with (hq | hq) | hq
      · exact h q (by simp [hq]) b hb
      · exact h q (by simp [hq]) b hb
      · subst hq; simp at hb
    · rw [if_neg ha] at hq
      simp only [List.mem_append, List.mem_singleton] at hq
      rcases hq with hq | hq
      · exact h q (by simp [hq]) b hb
      · subst hq
        rcases List.mem_append.1 hb with hb | hb
        · exact h x.2 (by simp) b hb
        · have : b = a := by simpa using hb
          subst this; simpa using ha
theorem split_none (p : Int → Bool) (l : List UInt8) : ∀ q ∈ split p l, ∀ b ∈ q, p b.toNat = false := st_none p l ([], []) (by simp)
theorem split_in (c : UInt8) (l : List UInt8) (k : Nat) (h : k < (split (fun x => x == (c.toNat : Int)) l).length) : inI c.toNat (split (fun x => x == (c.toNat : Int)) l)[k] = false := by
  have := split_none (fun x => x == (c.toNat : Int)) l _ (List.getElem_mem h)
  unfold inI
  rw [List.any_eq_false]
  intro b hb
  rw [this b hb]; simp
theorem join_take (c : UInt8) (ps : List (List UInt8)) (k : Nat) (h : k < ps.length) : join c (ps.take (k + 1)) = join c (ps.take k) ++ (if k = 0 then [] else [c]) ++ ps[k] := by
  rw [List.take_succ_eq_append_getElem h, join_snoc]
  congr 2
  by_cases hk : k = 0
  · subst hk; simp
  · have : (ps.take k).isEmpty = false := by
      cases ps with
      | nil => simp at h
      | cons a r =>
        cases k with
        | zero => exact absurd rfl hk
        | succ k => rfl
    rw [this]; simp [hk]
theorem join_len (c : UInt8) (ps : List (List UInt8)) (k : Nat) (h : k < ps.length) : (join c (ps.take k)).length + (if k = 0 then 0 else 1) + ps[k].length ≤ (join c ps).length := by
  have h1 : ∀ j, j + (k + 1) ≤ ps.length → (join c (ps.take (k + 1))).length ≤ (join c (ps.take (j + (k + 1)))).length := by
    intro j
    induction j with
    | zero => intro _; simp
    | succ j ih =>
      intro hj
      have h2 := ih (by omega)
      have h3 := congrArg List.length (join_take c ps (j + (k + 1)) (by omega))
      rw [show j + 1 + (k + 1) = j + (k + 1) + 1 by omega]
      simp only [List.length_append] at h3
      omega
  have h4 := h1 (ps.length - (k + 1)) (by omega)
  rw [show ps.length - (k + 1) + (k + 1) = ps.length by omega, List.take_length] at h4
  have h5 := congrArg List.length (join_take c ps k h)
  simp only [List.length_append] at h5
  by_cases hk : k = 0
  · rw [if_pos hk] at h5 ⊢
    simp only [List.length_nil] at h5
    omega
  · rw [if_neg hk] at h5 ⊢
    simp only [List.length_cons, List.length_nil] at h5
    omega
end Oct
end Go.Proofs.Ytnnjfiknfmjliaa
