/- The numbers that digits tell: plain functions and their laws; no program is named here. -/
import Derived.Test.YtilclhhpmenjaaaGreatDoorOctMath
namespace Go.Proofs.YtilclhhpmenjaaaGreatDoor
namespace Oct

/-- The number that digits tell; may it be told at all, up to most? -/
def val (l : List UInt8) : Int := l.foldl (fun n b => 10 * n + ((b.toNat : Int) - 48)) 0
def numOk (l : List UInt8) (most : Int) : Bool := !l.isEmpty && !(decide (1 < l.length) && l.headD 0 == 48) && allB digitI l && decide (val l ≤ most)
def numV (l : List UInt8) (most : Int) : Int := if numOk l most then val l else 0
theorem val_snoc (l : List UInt8) (b : UInt8) : val (l ++ [b]) = 10 * val l + ((b.toNat : Int) - 48) := by simp [val, List.foldl_append]
theorem val_ge (l r : List UInt8) (h : allB digitI r = true) (h0 : 0 ≤ val l) : val l ≤ val (l ++ r) := by
  induction r generalizing l with
  | nil => simp
  | cons b r ih =>
    have h1 : digitI b.toNat = true ∧ allB digitI r = true := by simpa [allB] using h
    have h2 : (48 : Int) ≤ b.toNat := by have := h1.1; simp [digitI] at this; omega
    have e := val_snoc l b
    have := ih (l ++ [b]) h1.2 (by omega)
    rw [List.append_assoc] at this
    simp only [List.singleton_append] at this
    omega
theorem val_nonneg (l : List UInt8) (h : allB digitI l = true) : 0 ≤ val l := by
  have := val_ge [] l h (by simp [val])
  simpa [val] using this
theorem numOk_big (s : ByteArray) (k : Nat) (most : Int) (h : k < s.size) (ha : allB digitI (s.data.toList.take k) = true) (hd : digitI s[k].toNat = true)
    (hv : most < 10 * val (s.data.toList.take k) + ((s[k].toNat : Int) - 48)) : numOk s.data.toList most = false := by
  unfold numOk
  by_cases hall : allB digitI s.data.toList = true
  · have h1 := val_ge (s.data.toList.take (k + 1)) (s.data.toList.drop (k + 1)) (by
      have e := List.take_append_drop (k + 1) s.data.toList
      rw [← e] at hall
      simp only [allB, List.all_append, Bool.and_eq_true] at hall
      exact hall.2) (val_nonneg _ (allB_next _ s k h ha hd))
    rw [List.take_append_drop, take_snoc s k h, val_snoc] at h1
    rw [show decide (val s.data.toList ≤ most) = false by simp; omega]
    simp
  · simp [hall]
theorem numOk_miss (s : ByteArray) (k : Nat) (most : Int) (h : k < s.size) (hd : digitI s[k].toNat = false) : numOk s.data.toList most = false := by
  unfold numOk; rw [allB_miss _ s k h hd]; simp
theorem numOk_neg (s : ByteArray) (most : Int) (h : most < 0) : numOk s.data.toList most = false := by
  unfold numOk
  by_cases hall : allB digitI s.data.toList = true
  · have := val_nonneg _ hall
    rw [show decide (val s.data.toList ≤ most) = false by simp; omega]
    simp
  · simp [hall]
theorem numOk_nil (s : ByteArray) (most : Int) (h : s.toList.isEmpty = true) : numOk s.data.toList most = false := by
  unfold numOk; rw [Lib.toList_data] at h; rw [h]; simp
theorem head_at (s : ByteArray) (h : 0 < s.size) : s.data.toList.headD 0 = s[0] := by
  have e := split_at s 0 h
  generalize s[0] = c at *
  rw [e]; rfl
theorem numOk_zero (s : ByteArray) (most : Int) (h : 1 < s.size) (h0 : ((s[0].toNat : Int) == 48) = true) : numOk s.data.toList most = false := by
  have h1 : s[0] = 48 := by
    have : s[0].toNat = 48 := by have := beq_iff_eq.1 h0; omega
    exact UInt8.toNat_inj.1 this
  unfold numOk
  rw [head_at s (by omega), h1]
  have h2 : decide (1 < s.data.toList.length) = true := by simpa using h
  rw [h2]; simp
theorem numOk_end (s : ByteArray) (most : Int) (h0 : s.toList.isEmpty = false) (hz : 1 < s.size → ((s[0]!.toNat : Int) == 48) = false) (ha : allB digitI s.data.toList = true) (hv : val s.data.toList ≤ most) : numOk s.data.toList most = true := by
  rw [Lib.toList_data] at h0
  unfold numOk
  rw [h0, ha, show decide (val s.data.toList ≤ most) = true by simpa using hv]
  by_cases h1 : 1 < s.size
  · have h2 := hz h1
    have e : s[0]! = s[0] := by simp [show 0 < s.size by omega]
    rw [e] at h2
    rw [head_at s (by omega)]
    have h3 : (s[0] == 48) = false := by
      rw [beq_eq_false_iff_ne]; intro h; rw [h] at h2; simp at h2
    rw [h3]; simp
  · have h2 : decide (1 < s.data.toList.length) = false := by simpa using h1
    rw [h2]; simp
end Oct
end Go.Proofs.YtilclhhpmenjaaaGreatDoor
