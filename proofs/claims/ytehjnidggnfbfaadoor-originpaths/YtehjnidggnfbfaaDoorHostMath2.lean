/- Laws of hosts: text and back, numbers, sites. No program is named here. -/
import Derived.Test.YtehjnidggnfbfaaDoorHostText
import Derived.Test.YtehjnidggnfbfaaDoorHostRparse
import Derived.Lib.ItoaNum
namespace Go.Proofs.YtehjnidggnfbfaaDoor
open Hst

theorem itoa_num (x : Int) (h0 : 0 ≤ x) (h1 : x ≤ 255) : Oct.numOk (Lib.itoa x) 255 = true ∧ Oct.val (Lib.itoa x) = x := by
  have : ∀ n : Fin 256, Oct.numOk (Lib.itoa (n.val : Int)) 255 = true ∧ Oct.val (Lib.itoa (n.val : Int)) = (n.val : Int) := by decide +kernel
  have h := this ⟨x.toNat, by omega⟩
  rwa [show ((x.toNat : Nat) : Int) = x by omega] at h
theorem itoa_lab (x : Int) (h0 : 0 ≤ x) (h1 : x ≤ 255) : labelB (Lib.itoa x) = true ∧ digB (Lib.itoa x) = true ∧ Oct.lower (Lib.itoa x) = Lib.itoa x ∧ (Lib.itoa x).all (fun b => !((b.toNat : Int) == 46)) = true := by
  have : ∀ n : Fin 256, labelB (Lib.itoa (n.val : Int)) = true ∧ digB (Lib.itoa (n.val : Int)) = true ∧ Oct.lower (Lib.itoa (n.val : Int)) = Lib.itoa (n.val : Int) ∧ (Lib.itoa (n.val : Int)).all (fun b => !((b.toNat : Int) == 46)) = true := by decide +kernel
  have h := this ⟨x.toNat, by omega⟩
  rwa [show ((x.toNat : Nat) : Int) = x by omega] at h

/-- A number's digits, told again, are those that told it. -/
theorem dec_val : ∀ (k : Nat) (p : List UInt8), p.length = k + 1 → Oct.allB Oct.digitI p = true → (1 < p.length → p.headD 0 ≠ 48) → Lib.decDigits (Oct.val p).toNat = p
  | 0, p, hl, ha, _ => by
    match p, hl with
    | [c], _ => 
      have hd := Oct.allB_at Oct.digitI [c] ha 0 (by simp)
      simp [Oct.digitI] at hd
      have hv : Oct.val [c] = (c.toNat : Int) - 48 := by simp [Oct.val]
      rw [hv, Lib.decDigits, dif_pos (by omega)]
      congr 1
      have : 48 + ((c.toNat : Int) - 48).toNat = c.toNat := by omega
      rw [this]; simp
  | k + 1, p, hl, ha, hh => by
    obtain ⟨q, c, rfl⟩ : ∃ q c, p = q ++ [c] := by
      have : p ≠ [] := by intro e; subst e; simp at hl
      exact ⟨p.dropLast, p.getLast this, (List.dropLast_concat_getLast this).symm⟩
    have hql : q.length = k + 1 := by simpa using hl
    have hqa : Oct.allB Oct.digitI q = true := by
      unfold Oct.allB at ha ⊢
      rw [List.all_append, Bool.and_eq_true] at ha
      exact ha.1
    have hcd : Oct.digitI c.toNat = true := by
      unfold Oct.allB at ha
      rw [List.all_append, Bool.and_eq_true] at ha
      simpa using ha.2
    simp [Oct.digitI] at hcd
    have hq0 : q.headD 0 ≠ 48 := by
      have := hh (by simp; omega)
      cases q with
      | nil => simp at hql
      | cons b r => simpa using this
    have ih := dec_val k q hql hqa (fun _ => hq0)
    have hpos : (10 : Int) ^ k ≤ Oct.val q := by
      have := Oct.val_pow q hqa hq0 k (by omega)
      rwa [show k + 1 = q.length by omega, List.take_length] at this
    have h10 : (0 : Int) < 10 ^ k := Int.pow_pos (by decide)
    have hv : Oct.val (q ++ [c]) = 10 * Oct.val q + ((c.toNat : Int) - 48) := Oct.val_snoc q c
    have e1 : (Oct.val (q ++ [c])).toNat / 10 = (Oct.val q).toNat := by omega
    have e2 : 48 + (Oct.val (q ++ [c])).toNat % 10 = c.toNat := by omega
    rw [Lib.decDigits, dif_neg (by omega), e1, e2, ih]
    simp
theorem itoa_val (p : List UInt8) (h : Oct.numOk p 255 = true) : Lib.itoa (Oct.val p) = p := by
  obtain ⟨h1, h2, h3, h4⟩ := Oct.numOk_parts _ _ h
  have h0 := Oct.val_nonneg _ h3
  unfold Lib.itoa
  rw [if_neg (by omega)]
  exact dec_val (p.length - 1) p (by omega) h3 h2

theorem nums_parts {ps : List (List UInt8)} (h : numsB ps = true) : ∃ p0 p1 p2 p3, ps = [p0, p1, p2, p3] ∧ Oct.numOk p0 255 = true ∧ Oct.numOk p1 255 = true ∧ Oct.numOk p2 255 = true ∧ Oct.numOk p3 255 = true := by
  unfold numsB at h
  rw [Bool.and_eq_true, decide_eq_true_eq] at h
  match ps, h with
  | [p0, p1, p2, p3], h => 
    have := h.2
    simp at this
    exact ⟨p0, p1, p2, p3, rfl, this.1, this.2.1, this.2.2.1, this.2.2.2⟩
theorem addr_range {ps : List (List UInt8)} (h : numsB ps = true) : 0 ≤ addrOf ps ∧ addrOf ps ≤ 4294967295 := by
  obtain ⟨p0, p1, p2, p3, rfl, h0, h1, h2, h3⟩ := nums_parts h
  have := num_bd h0; have := num_bd h1; have := num_bd h2; have := num_bd h3
  simp [addrOf]; omega
theorem quad_addr {ps : List (List UInt8)} (h : numsB ps = true) : quad (addrOf ps) = ps := by
  obtain ⟨p0, p1, p2, p3, rfl, h0, h1, h2, h3⟩ := nums_parts h
  have b0 := num_bd h0; have b1 := num_bd h1; have b2 := num_bd h2; have b3 := num_bd h3
  have e : quadI (addrOf [p0, p1, p2, p3]) = [Oct.val p0, Oct.val p1, Oct.val p2, Oct.val p3] := by
    simp only [quadI, addrOf, List.foldl_cons, List.foldl_nil, List.cons.injEq, and_true]
    refine ⟨by omega, by omega, by omega, by omega⟩
  unfold quad
  rw [e]
  simp [itoa_val, h0, h1, h2, h3]
/-- A host that is read has the text that it was read from. -/
theorem text_read {n : List UInt8} {h : Host} (hr : read n = some h) : textL h = n := by
  unfold Hst.read at hr
  split at hr
  · split at hr
    · split at hr
      · rename_i hn
        simp only [Option.some.injEq] at hr
        subst hr
        unfold textL
        simp only [if_true]
        rw [quad_addr hn, join_parts]
      · cases hr
    · simp only [Option.some.injEq] at hr
      subst hr; rfl
  · cases hr
theorem read_range {n : List UInt8} {h : Host} (hr : read n = some h) : 0 ≤ h.addr ∧ h.addr ≤ 4294967295 := by
  unfold Hst.read at hr
  split at hr
  · split at hr
    · split at hr
      · rename_i hn
        simp only [Option.some.injEq] at hr
        subst hr
        exact addr_range hn
      · cases hr
    · simp only [Option.some.injEq] at hr
      subst hr; exact ⟨Int.le_refl 0, show (0 : Int) ≤ 4294967295 by decide⟩
  · cases hr
theorem parse_lower (l : List UInt8) : parse (Oct.lower l) = parse l := by unfold parse; rw [Oct.lower_lower]
theorem read_dom {n : List UInt8} {h : Host} (hr : read n = some h) : domB n = true := by
  unfold Hst.read at hr
  split at hr
  · assumption
  · cases hr
theorem dom_len {n : List UInt8} (h : domB n = true) : n.length ≤ 253 ∧ ∀ q ∈ parts n, labelB q = true := by
  unfold domB at h
  rw [Bool.and_eq_true, decide_eq_true_eq, List.all_eq_true] at h
  exact h
theorem lab_pos {q : List UInt8} (h : labelB q = true) : 0 < q.length := by
  unfold labelB at h
  rw [Bool.and_eq_true, Bool.and_eq_true] at h
  have := h.1.2
  cases q with
  | nil => simp at this
  | cons a r => simp
/-- A name that is read is its own text. -/
theorem read_name_eq {n : List UInt8} {h : Host} (hr : read n = some h) (hv : h.v4 = false) : h = ⟨n, false, 0⟩ := by
  unfold Hst.read at hr
  split at hr
  · split at hr
    · split at hr
      · simp only [Option.some.injEq] at hr
        subst hr; cases hv
      · cases hr
    · simp only [Option.some.injEq] at hr
      exact hr.symm
  · cases hr

theorem quad_bd (a : Int) (a0 : 0 ≤ a) (a1 : a ≤ 4294967295) : ∀ x ∈ quadI a, 0 ≤ x ∧ x ≤ 255 := by
  intro x hx
  simp only [quadI, List.mem_cons, List.not_mem_nil, or_false] at hx
  rcases hx with rfl | rfl | rfl | rfl <;> omega
theorem quad_dot (a : Int) (a0 : 0 ≤ a) (a1 : a ≤ 4294967295) : parts (Oct.join 46 (quad a)) = quad a := by
  refine parts_join _ (by simp [quad, quadI]) ?_
  intro q hq b hb
  obtain ⟨x, hx, rfl⟩ := List.mem_map.1 hq
  have h := quad_bd a a0 a1 x hx
  have := (itoa_lab x h.1 h.2).2.2.2
  rw [List.all_eq_true] at this
  simpa using this b hb
theorem lower_append (a b : List UInt8) : Oct.lower (a ++ b) = Oct.lower a ++ Oct.lower b := by simp [Oct.lower]
theorem quad_lower (a : Int) (a0 : 0 ≤ a) (a1 : a ≤ 4294967295) : Oct.lower (Oct.join 46 (quad a)) = Oct.join 46 (quad a) := by
  have hl : ∀ x ∈ quadI a, Oct.lower (Lib.itoa x) = Lib.itoa x := fun x hx => (itoa_lab x (quad_bd a a0 a1 x hx).1 (quad_bd a a0 a1 x hx).2).2.2.1
  have h1 := hl (a / 16777216) (by simp [quadI])
  have h2 := hl (a / 65536 % 256) (by simp [quadI])
  have h3 := hl (a / 256 % 256) (by simp [quadI])
  have h4 := hl (a % 256) (by simp [quadI])
  have hd : ∀ r : List UInt8, Oct.lower (46 :: r) = 46 :: Oct.lower r := fun r => rfl
  simp only [quad, quadI, List.map_cons, List.map_nil, Oct.join, lower_append, hd, h1, h2, h3, h4]
/-- Any address is read from its text as itself. -/
theorem quad_read (a : Int) (a0 : 0 ≤ a) (a1 : a ≤ 4294967295) : parse (Oct.join 46 (quad a)) = some ⟨[], true, a⟩ := by
  unfold parse
  rw [quad_lower a a0 a1]
  have hp := quad_dot a a0 a1
  have hq : ∀ p ∈ quad a, labelB p = true ∧ digB p = true ∧ Oct.numOk p 255 = true := by
    intro p hp
    obtain ⟨x, hx, rfl⟩ := List.mem_map.1 hp
    have h := quad_bd a a0 a1 x hx
    exact ⟨(itoa_lab x h.1 h.2).1, (itoa_lab x h.1 h.2).2.1, (itoa_num x h.1 h.2).1⟩
  have hl := quad_join a a0 a1
  have hd : domB (Oct.join 46 (quad a)) = true := by
    unfold domB
    rw [hp, Bool.and_eq_true, decide_eq_true_eq, List.all_eq_true]
    exact ⟨by omega, fun p h => (hq p h).1⟩
  have hla : last (Oct.join 46 (quad a)) = Lib.itoa (a % 256) := by
    unfold last
    rw [hp]; rfl
  have hdg : digB (last (Oct.join 46 (quad a))) = true := by
    rw [hla]
    exact (hq (Lib.itoa (a % 256)) (by simp [quad, quadI])).2.1
  have hnm : numsB (parts (Oct.join 46 (quad a))) = true := by
    rw [hp]
    exact nums_all rfl (by rw [List.all_eq_true]; exact fun p h => (hq p h).2.2)
  rw [read_yes hd hdg hnm, hp]
  have hv : ∀ x ∈ quadI a, Oct.val (Lib.itoa x) = x := fun x hx => (itoa_num x (quad_bd a a0 a1 x hx).1 (quad_bd a a0 a1 x hx).2).2
  have h1 := hv (a / 16777216) (by simp [quadI])
  have h2 := hv (a / 65536 % 256) (by simp [quadI])
  have h3 := hv (a / 256 % 256) (by simp [quadI])
  have h4 := hv (a % 256) (by simp [quadI])
  simp only [quad, quadI, List.map_cons, List.map_nil, addrOf, List.foldl_cons, List.foldl_nil, h1, h2, h3, h4]
  congr 2
  omega
end Go.Proofs.YtehjnidggnfbfaaDoor
