/- A number that is told has the digits that it was told by. No program is named here. -/
import Derived.Test.YtilclhhpmenjaaaGreatDoorOctMath2
namespace Go.Proofs.YtilclhhpmenjaaaGreatDoor
namespace Oct

theorem val_take (l : List UInt8) (i : Nat) (h : i < l.length) : val (l.take (i + 1)) = 10 * val (l.take i) + ((l[i].toNat : Int) - 48) := by
  rw [List.take_succ_eq_append_getElem h, val_snoc]
theorem allB_at (p : Int → Bool) (l : List UInt8) (h : allB p l = true) (i : Nat) (hi : i < l.length) : p l[i].toNat = true := by
  unfold allB at h
  rw [List.all_eq_true] at h
  exact h _ (List.getElem_mem hi)
theorem allB_take (p : Int → Bool) (l : List UInt8) (h : allB p l = true) (i : Nat) : allB p (l.take i) = true := by
  unfold allB at *
  rw [List.all_eq_true] at *
  intro x hx
  exact h x (List.mem_of_mem_take hx)
theorem numOk_parts (l : List UInt8) (most : Int) (h : numOk l most = true) : 0 < l.length ∧ (1 < l.length → l.headD 0 ≠ 48) ∧ allB digitI l = true ∧ val l ≤ most := by
  unfold numOk at h
  simp only [Bool.and_eq_true, decide_eq_true_eq] at h
  obtain ⟨⟨⟨h1, h2⟩, h3⟩, h4⟩ := h
  refine ⟨?_, ?_, h3, h4⟩
  · cases l with
    | nil => simp at h1
    | cons a r => simp
  · intro hl he
    rw [he] at h2
    simp [hl] at h2
/-- The first digit is not 0: from the first digit on the number is not less than a power of ten. -/
theorem val_pow (l : List UInt8) (ha : allB digitI l = true) (h0 : l.headD 0 ≠ 48) : ∀ j, j < l.length → (10 : Int) ^ j ≤ val (l.take (j + 1))
  | 0, h => by
    rw [val_take l 0 h]
    have hd := allB_at digitI l ha 0 h
    have h1 : l[0] ≠ 48 := by
      cases l with
      | nil => simp at h
      | cons a r => simpa using h0
    have h2 : l[0].toNat ≠ 48 := fun e => h1 (UInt8.toNat_inj.1 e)
    simp [digitI] at hd
    have : val (l.take 0) = 0 := rfl
    rw [this]
    simp
    omega
  | j + 1, h => by
    rw [val_take l (j + 1) h]
    have ih := val_pow l ha h0 j (by omega)
    have hd := allB_at digitI l ha (j + 1) h
    simp [digitI] at hd
    rw [Int.pow_succ]
    omega
theorem digits_len (l : List UInt8) (most : Int) (h : numOk l most = true) (hm : most ≤ 9223372036854775807) : l.length ≤ 19 := by
  obtain ⟨h1, h2, h3, h4⟩ := numOk_parts l most h
  rcases Nat.lt_or_ge l.length 20 with hl | hl
  · omega
  · exfalso
    have this : (10 : Int) ^ 19 ≤ val (l.take 20) := val_pow l h3 (h2 (by omega)) 19 (by omega)
    have h5 := val_ge (l.take 20) (l.drop 20) (by
      have e := List.take_append_drop 20 l
      rw [← e] at h3
      simp only [allB, List.all_append, Bool.and_eq_true] at h3
      exact h3.2) (val_nonneg _ (allB_take _ _ h3 20))
    rw [List.take_append_drop] at h5
    have h6 : (10 : Int) ^ 19 = 10000000000000000000 := by decide
    rw [h6] at this
    omega
theorem val_zero (l : List UInt8) (most : Int) (h : numOk l most = true) (hv : val l = 0) : l = [48] := by
  obtain ⟨h1, h2, h3, _⟩ := numOk_parts l most h
  by_cases hl : 1 < l.length
  · exfalso
    have := val_pow l h3 (h2 hl) (l.length - 1) (by omega)
    rw [show l.length - 1 + 1 = l.length by omega, List.take_length, hv] at this
    have : (0 : Int) < 10 ^ (l.length - 1) := Int.pow_pos (by decide)
    omega
  · cases l with
    | nil => simp at h1
    | cons a r =>
      have hr : r = [] := List.length_eq_zero_iff.1 (by simp only [List.length_cons] at hl; omega)
      subst hr
      have hd := allB_at digitI [a] h3 0 (by simp)
      simp [digitI] at hd
      simp [val] at hv
      have : a.toNat = 48 := by omega
      have : a = 48 := UInt8.toNat_inj.1 this
      rw [this]
theorem val_pos (l : List UInt8) (most : Int) (h : numOk l most = true) (hv : 0 < val l) (j : Nat) (hj : 0 < j) (hj2 : j ≤ l.length) : 0 < val (l.take j) := by
  obtain ⟨h1, h2, h3, _⟩ := numOk_parts l most h
  by_cases hl : 1 < l.length
  · have := val_pow l h3 (h2 hl) (j - 1) (by omega)
    rw [show j - 1 + 1 = j by omega] at this
    have : (0 : Int) < 10 ^ (j - 1) := Int.pow_pos (by decide)
    omega
  · have : j = l.length := by omega
    rw [this, List.take_length]; exact hv
theorem digit_step (l : List UInt8) (ha : allB digitI l = true) (i : Nat) (h : i < l.length) (v : Int) (hv : v = val (l.take (i + 1))) : v / 10 = val (l.take i) ∧ UInt8.ofNat (48 + v % 10).toNat = l[i] := by
  rw [val_take l i h] at hv
  have hd := allB_at digitI l ha i h
  simp [digitI] at hd
  refine ⟨by omega, ?_⟩
  have e : (48 + v % 10).toNat = l[i].toNat := by omega
  rw [e]; simp
end Oct
end Go.Proofs.YtilclhhpmenjaaaGreatDoor
