/- Frame options by the list of their distinct words, as the document's answer has them. -/
import Derived.Test.YtcgogadjompemaaEmMath
namespace Go.Proofs.Ytcgogadjompemaa
namespace Em

/-- One word more, if it is new. -/
def put (acc : List (List UInt8)) (w : List UInt8) : List (List UInt8) := if w ∈ acc then acc else acc ++ [w]
def uniq (ws : List (List UInt8)) : List (List UInt8) := ws.foldl put []
theorem uniq_snoc (ws : List (List UInt8)) (w : List UInt8) : uniq (ws ++ [w]) = put (uniq ws) w := by unfold uniq; rw [List.foldl_append]; rfl
theorem uniq_succ {ws : List (List UInt8)} {k : Nat} (h : k < ws.length) : uniq (ws.take (k + 1)) = put (uniq (ws.take k)) ws[k] := by
  rw [List.take_succ_eq_append_getElem h, uniq_snoc]
theorem put_mem {acc : List (List UInt8)} {w x : List UInt8} : x ∈ put acc w ↔ x ∈ acc ∨ x = w := by
  unfold put
  split
  · rename_i h
    exact ⟨.inl, fun h' => h'.elim id fun e => by rw [e]; exact h⟩
  · simp
theorem put_nodup {acc : List (List UInt8)} {w : List UInt8} (h : acc.Nodup) : (put acc w).Nodup := by
  unfold put
  split
  · exact h
  · rename_i hw
    rw [List.nodup_append]
    refine ⟨h, by simp, fun a ha b hb => ?_⟩
    rw [List.mem_singleton.1 hb]
    rintro rfl
    exact hw ha
theorem fold_mem : ∀ (ws acc : List (List UInt8)) (x : List UInt8), x ∈ ws.foldl put acc ↔ x ∈ acc ∨ x ∈ ws
  | [], acc, x => by simp
  | w :: ws, acc, x => by
    rw [List.foldl_cons, fold_mem ws, put_mem, List.mem_cons]
    exact ⟨fun h => h.elim (fun h => h.elim .inl fun e => .inr (.inl e)) fun h => .inr (.inr h), fun h => h.elim (fun h => .inl (.inl h)) fun h => h.elim (fun e => .inl (.inr e)) .inr⟩
theorem fold_nodup : ∀ (ws acc : List (List UInt8)), acc.Nodup → (ws.foldl put acc).Nodup
  | [], _, h => h
  | _ :: ws, _, h => fold_nodup ws _ (put_nodup h)
theorem uniq_mem (ws : List (List UInt8)) (x : List UInt8) : x ∈ uniq ws ↔ x ∈ ws := by unfold uniq; rw [fold_mem]; simp
theorem uniq_nodup (ws : List (List UInt8)) : (uniq ws).Nodup := fold_nodup ws [] (by simp)
theorem uniq_le (ws : List (List UInt8)) : (uniq ws).length ≤ ws.length := by
  have h : ∀ (ws acc : List (List UInt8)), (ws.foldl put acc).length ≤ acc.length + ws.length := by
    intro ws
    induction ws with
    | nil => intro acc; simp
    | cons w ws ih =>
      intro acc
      rw [List.foldl_cons]
      have := ih (put acc w)
      have h2 : (put acc w).length ≤ acc.length + 1 := by unfold put; split <;> simp
      rw [List.length_cons]; omega
  have := h ws []
  simpa [uniq] using this
theorem many_uniq (ws : List (List UInt8)) : many (uniq ws) = many ws := many_same (uniq_mem ws)
theorem many_len {u : List (List UInt8)} (h : u.Nodup) : many u = decide (1 < u.length) := by
  rw [Bool.eq_iff_iff, many_iff, decide_eq_true_eq]
  match u, h with
  | [], _ => simp
  | [a], _ => simp
  | a :: b :: r, h =>
    refine ⟨fun _ => by simp, fun _ => ⟨a, by simp, b, by simp, ?_⟩⟩
    rintro rfl
    rw [List.nodup_cons] at h
    exact h.1 (by simp)
/-- By how many distinct words there are, and which. -/
def xfoU (n : Nat) (d s a : Prop) [Decidable d] [Decidable s] [Decidable a] : Int :=
  if 1 < n ∧ (d ∨ s ∨ a) then 1 else if n ≠ 1 then 0 else if d then 1 else if s then 2 else if a then 3 else 0
theorem xfo_uniq (ws : List (List UInt8)) : xfoW ws = xfoU (uniq ws).length (xD ∈ ws) (xS ∈ ws) (xA ∈ ws) := by
  have hm : many ws = decide (1 < (uniq ws).length) := by rw [← many_uniq, many_len (uniq_nodup ws)]
  unfold xfoW xfoU
  rw [hm]
  by_cases h1 : 1 < (uniq ws).length
  · rw [if_pos (by simpa using h1)]
    by_cases hk : xD ∈ ws ∨ xS ∈ ws ∨ xA ∈ ws
    · rw [if_pos hk, if_pos ⟨h1, hk⟩]
    · rw [if_neg hk, if_neg (fun h => hk h.2), if_pos (by omega)]
  · by_cases h0 : (uniq ws).length = 1
    · simp [h0]
    · have e : uniq ws = [] := List.length_eq_zero_iff.1 (by omega)
      have hn : ∀ x, x ∉ ws := fun x hx => by
        have := (uniq_mem ws x).2 hx
        rw [e] at this
        simp at this
      simp [e, hn]
end Em
end Go.Proofs.Ytcgogadjompemaa
