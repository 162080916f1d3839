/- Laws of a path's segments: how many bytes remain, and that none remains that is points. No function of the program is walked here. -/
import Derived.Test.YtehjnidggnfbfaaGreatDoorUrlpMath
namespace Go.Proofs.YtehjnidggnfbfaaGreatDoor
namespace Urp
open Oct

/-- The bytes of texts, each with one more. -/
def wt (ks : List (List UInt8)) : Nat := (ks.map fun k => k.length + 1).sum
theorem wt_nil : wt [] = 0 := rfl
theorem wt_cons (x : List UInt8) (r : List (List UInt8)) : wt (x :: r) = x.length + 1 + wt r := by simp [wt]
theorem wt_append (a b : List (List UInt8)) : wt (a ++ b) = wt a + wt b := by simp [wt]
theorem wt_dropLast (a : List (List UInt8)) : wt a.dropLast ≤ wt a := by
  rcases List.eq_nil_or_concat a with rfl | ⟨b, x, rfl⟩
  · simp
  · rw [List.concat_eq_append, List.dropLast_concat, wt_append]; omega
theorem wt_step (last : Bool) (k : List (List UInt8)) (x : List UInt8) : wt (stepC last k x) ≤ wt k + (x.length + 1) := by
  have h := wt_dropLast k
  have e : wt [([] : List UInt8)] = 1 := rfl
  unfold stepC
  repeat' split
  all_goals first | rw [wt_append, e] | rw [wt_append, wt_cons, wt_nil] | skip
  all_goals omega
theorem wt_walk : ∀ (ps k : List (List UInt8)), wt (walk k ps) ≤ wt k + wt ps
  | [], k => by simp [walk, wt_nil]
  | x :: r, k => by
    have h1 := wt_walk r (stepC r.isEmpty k x)
    have h2 := wt_step r.isEmpty k x
    rw [wt_cons]
    show wt (walk (stepC r.isEmpty k x) r) ≤ _
    omega
theorem join_wt : ∀ ks : List (List UInt8), ks ≠ [] → (join 47 ks).length + 1 = wt ks
  | [], h => absurd rfl h
  | [p], _ => by simp [join, wt]
  | p :: q :: r, _ => by
    have := join_wt (q :: r) (by simp)
    rw [wt_cons, ← this]
    simp [join]; omega
theorem wt_segs (p : List UInt8) : wt (segs p) = p.length + 1 := by
  have h := join_wt (segs p) (Hst.split_ne _ p)
  have e : join 47 (segs p) = p := join_split 47 p
  rw [e] at h; exact h.symm
theorem step_ne (k : List (List UInt8)) (x : List UInt8) : stepC true k x ≠ [] := by
  unfold stepC
  repeat' split
  all_goals first | (simp; done) | (rename_i h; exact absurd rfl h)
theorem walk_ne : ∀ (ps k : List (List UInt8)), ps ≠ [] → walk k ps ≠ []
  | [], _, h => absurd rfl h
  | [x], k, _ => by show walk (stepC true k x) [] ≠ []; exact step_ne k x
  | x :: y :: r, k, _ => by show walk (stepC false k x) (y :: r) ≠ []; exact walk_ne (y :: r) _ (by simp)
theorem walk_segs_ne (p : List UInt8) : walk [] (segs p) ≠ [] := walk_ne _ _ (Hst.split_ne _ p)
theorem join_path_len (p : List UInt8) : (join 47 (walk [] (segs p))).length ≤ p.length := by
  have h1 := join_wt _ (walk_segs_ne p)
  have h2 := wt_walk (segs p) []
  rw [wt_segs, wt_nil] at h2
  omega
/-- What a round does. -/
theorem walk_at (ps k : List (List UInt8)) (i : Nat) (h : i < ps.length) : walk k (ps.drop i) = walk (stepC (decide (i + 1 = ps.length)) k ps[i]) (ps.drop (i + 1)) := by
  rw [List.drop_eq_getElem_cons h]
  show walk (stepC (ps.drop (i + 1)).isEmpty k ps[i]) (ps.drop (i + 1)) = _
  have e : (ps.drop (i + 1)).isEmpty = decide (i + 1 = ps.length) := by
    rw [Bool.eq_iff_iff, List.isEmpty_iff, List.drop_eq_nil_iff, decide_eq_true_eq]
    omega
  rw [e]
theorem walk_end (ps k : List (List UInt8)) (i : Nat) (h : ps.length ≤ i) : walk k (ps.drop i) = k := by
  rw [List.drop_of_length_le h]; rfl
theorem step_dd_last (k : List (List UInt8)) : stepC true k dot2 = k.dropLast ++ [[]] := rfl
theorem step_dd (k : List (List UInt8)) : stepC false k dot2 = k.dropLast := rfl
theorem step_d_last (k : List (List UInt8)) : stepC true k dot1 = k ++ [[]] := rfl
theorem step_d (k : List (List UInt8)) : stepC false k dot1 = k := rfl
theorem step_x (b : Bool) (k : List (List UInt8)) (x : List UInt8) (h1 : ¬ x = dot2) (h2 : ¬ x = dot1) : stepC b k x = k ++ [x] := by unfold stepC; rw [if_neg h1, if_neg h2]
end Urp
end Go.Proofs.YtehjnidggnfbfaaGreatDoor
