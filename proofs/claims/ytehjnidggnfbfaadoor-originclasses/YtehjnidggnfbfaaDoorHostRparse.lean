/- The contract of the document's Parse. -/
import Derived.Test.YtehjnidggnfbfaaDoorHostParse
namespace Go.Proofs.YtehjnidggnfbfaaDoor
open Go.RowKit

theorem read_len {n : List UInt8} (h : n.length < 1 ∨ 253 < n.length) : Hst.read n = none := by
  have e : Hst.domB n = false := by
    unfold Hst.domB
    rcases h with h | h
    · have : n = [] := List.length_eq_zero_iff.1 (by omega)
      subst this; rfl
    · rw [show decide (n.length ≤ 253) = false by simp; omega]; rfl
  unfold Hst.read; rw [e]; rfl
theorem read_bad {n : List UInt8} (k : Nat) (hk : k < (Hst.parts n).length) (h : Hst.labelB (Hst.parts n)[k] = false) : Hst.read n = none := by
  have e : Hst.domB n = false := by
    unfold Hst.domB
    rw [Bool.and_eq_false_iff]; right
    rw [List.all_eq_false]
    exact ⟨_, List.getElem_mem hk, by rw [h]; simp⟩
  unfold Hst.read; rw [e]; rfl
theorem dom_of {n : List UInt8} (hl : n.length ≤ 253) (h : (Hst.parts n).all Hst.labelB = true) : Hst.domB n = true := by
  unfold Hst.domB; rw [h, show decide (n.length ≤ 253) = true by simpa using hl]; rfl
theorem read_name {n : List UInt8} (hd : Hst.domB n = true) (h : Hst.digB (Hst.last n) = false) : Hst.read n = some ⟨n, false, 0⟩ := by
  unfold Hst.read; rw [hd, h]; rfl
theorem read_no {n : List UInt8} (hd : Hst.domB n = true) (h : Hst.digB (Hst.last n) = true) (hn : Hst.numsB (Hst.parts n) = false) : Hst.read n = none := by
  unfold Hst.read; rw [hd, h, hn]; rfl
theorem read_yes {n : List UInt8} (hd : Hst.domB n = true) (h : Hst.digB (Hst.last n) = true) (hn : Hst.numsB (Hst.parts n) = true) : Hst.read n = some ⟨[], true, Hst.addrOf (Hst.parts n)⟩ := by
  unfold Hst.read; rw [hd, h, hn]; rfl
theorem nums_len {ps : List (List UInt8)} (h : ¬ ps.length = 4) : Hst.numsB ps = false := by unfold Hst.numsB; simp [h]
theorem nums_bad {ps : List (List UInt8)} (k : Nat) (hk : k < ps.length) (h : Oct.numOk ps[k] 255 = false) : Hst.numsB ps = false := by
  unfold Hst.numsB
  rw [Bool.and_eq_false_iff]; right
  rw [List.all_eq_false]
  exact ⟨_, List.getElem_mem hk, by rw [h]; simp⟩
theorem nums_all {ps : List (List UInt8)} (hl : ps.length = 4) (h : ps.all (fun p => Oct.numOk p 255) = true) : Hst.numsB ps = true := by unfold Hst.numsB; simp [hl, h]
theorem all_next {p : List UInt8 → Bool} {ps : List (List UInt8)} {k : Nat} (hk : k < ps.length) (h : (ps.take k).all p = true) (hp : p ps[k] = true) : (ps.take (k + 1)).all p = true := by
  rw [List.take_succ_eq_append_getElem hk, List.all_append, h]; simp [hp]
theorem all_done {p : List UInt8 → Bool} {ps : List (List UInt8)} {k : Nat} (hk : ps.length ≤ k) (h : (ps.take k).all p = true) : ps.all p = true := by
  rwa [List.take_of_length_le hk] at h
theorem last_at (l : List UInt8) (h : (Hst.parts l).length - 1 < (Hst.parts l).length) : (Hst.parts l)[(Hst.parts l).length - 1] = Hst.last l := by
  unfold Hst.last
  generalize Hst.parts l = ps at *
  have hne : ps ≠ [] := by intro e; subst e; simp at h
  rw [← List.getLast_eq_getElem hne]
  cases ps with
  | nil => exact absurd rfl hne
  | cons a r => rw [List.getLastD_cons, List.getLast_eq_getLastD]
theorem addr_snoc (l : List (List UInt8)) (p : List UInt8) : Hst.addrOf (l ++ [p]) = 256 * Hst.addrOf l + Oct.val p := by simp [Hst.addrOf]
theorem addr_take (ps : List (List UInt8)) (k : Nat) (hk : k < ps.length) : Hst.addrOf (ps.take (k + 1)) = 256 * Hst.addrOf (ps.take k) + Oct.val ps[k] := by
  rw [List.take_succ_eq_append_getElem hk, addr_snoc]
theorem addr_bd (ps : List (List UInt8)) : ∀ k, k ≤ ps.length → (ps.take k).all (fun p => Oct.numOk p 255) = true → 0 ≤ Hst.addrOf (ps.take k) ∧ Hst.addrOf (ps.take k) < 256 ^ k
  | 0, _, _ => by simp [Hst.addrOf]
  | k + 1, hk, h => by
    have hk' : k < ps.length := by omega
    rw [List.take_succ_eq_append_getElem hk', List.all_append, Bool.and_eq_true] at h
    have ih := addr_bd ps k (by omega) h.1
    have hv := num_bd (l := ps[k]) (by simpa using h.2)
    rw [addr_take ps k hk', Int.pow_succ]
    omega
theorem addr_bd3 (ps : List (List UInt8)) (k : Nat) (hk : k < 4) (hl : k ≤ ps.length) (h : (ps.take k).all (fun p => Oct.numOk p 255) = true) : 0 ≤ Hst.addrOf (ps.take k) ∧ Hst.addrOf (ps.take k) ≤ 16777215 := by
  have := addr_bd ps k hl h
  refine ⟨this.1, ?_⟩
  have hp : (256 : Int) ^ k ≤ 16777216 := by
    match k, hk with
    | 0, _ => decide
    | 1, _ => decide
    | 2, _ => decide
    | 3, _ => decide
  omega

end Go.Proofs.YtehjnidggnfbfaaDoor
