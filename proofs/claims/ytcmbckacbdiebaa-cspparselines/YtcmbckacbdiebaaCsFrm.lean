/- Pure: what the program keeps of a text: the first directives of the two names alone; once both are there, nothing that comes later counts. -/
import Derived.Test.YtcmbckacbdiebaaCsMath2
namespace Go.Proofs.Ytcmbckacbdiebaa

def Cs.frm (qs : List (List UInt8)) : List UInt8 → Option (List (List UInt8)) := fun n => if (n == Cs.nA || n == Cs.nB) = true then Cs.firstD (Cs.dirsQ qs) n else none
def Cs.cntS (f : List UInt8 → Option (List (List UInt8))) : Nat := (if (f Cs.nA).isSome then 1 else 0) + (if (f Cs.nB).isSome then 1 else 0)
theorem Cs.frm_nA (qs : List (List UInt8)) : Cs.frm qs Cs.nA = Cs.firstD (Cs.dirsQ qs) Cs.nA := by unfold Cs.frm; rw [if_pos (by simp)]
theorem Cs.frm_nB (qs : List (List UInt8)) : Cs.frm qs Cs.nB = Cs.firstD (Cs.dirsQ qs) Cs.nB := by unfold Cs.frm; rw [if_pos (by simp)]
theorem Cs.frm_nil : Cs.frm [] = fun _ => none := by
  funext n
  unfold Cs.frm
  split <;> rfl
theorem Cs.frm_skip {qs : List (List UInt8)} {k : Nat} (hk : k < qs.length) (h : Oct.words qs[k] = []) : Cs.frm (qs.take (k + 1)) = Cs.frm (qs.take k) := by
  funext n
  unfold Cs.frm
  rw [Cs.firstQ_succ hk n, Cs.dirsQ_none h]
  split
  · cases Cs.firstD (Cs.dirsQ (qs.take k)) n <;> rfl
  · rfl
theorem Cs.frm_succ {qs : List (List UInt8)} {k : Nat} (hk : k < qs.length) {x : List UInt8} {r : List (List UInt8)} (h : Oct.words qs[k] = x :: r) (n : List UInt8) :
    Cs.frm (qs.take (k + 1)) n = if (n == Cs.nA || n == Cs.nB) = true then (Cs.frm (qs.take k) n).or (if (Oct.lower x == n) = true then some r else none) else none := by
  unfold Cs.frm
  rw [Cs.firstQ_succ hk n, Cs.dirsQ_some h, Cs.first_one]
  split <;> rfl
theorem Cs.frm_other {qs : List (List UInt8)} {k : Nat} (hk : k < qs.length) {x : List UInt8} {r : List (List UInt8)} (h : Oct.words qs[k] = x :: r) (hy : (Oct.lower x == Cs.nA || Oct.lower x == Cs.nB) = false) : Cs.frm (qs.take (k + 1)) = Cs.frm (qs.take k) := by
  funext n
  rw [Cs.frm_succ hk h]
  split
  · next hn =>
    rw [if_neg (by intro e; rw [← beq_iff_eq.1 e, hy] at hn; exact Bool.noConfusion hn)]
    cases Cs.frm (qs.take k) n <;> rfl
  · next hn =>
    unfold Cs.frm; rw [if_neg hn]
theorem Cs.frm_again {qs : List (List UInt8)} {k : Nat} (hk : k < qs.length) {x : List UInt8} {r l0 : List (List UInt8)} (h : Oct.words qs[k] = x :: r) (hf : Cs.frm (qs.take k) (Oct.lower x) = some l0) : Cs.frm (qs.take (k + 1)) = Cs.frm (qs.take k) := by
  funext n
  rw [Cs.frm_succ hk h]
  split
  · by_cases e : (Oct.lower x == n) = true
    · rw [← beq_iff_eq.1 e, hf]; rfl
    · rw [if_neg e]; cases Cs.frm (qs.take k) n <;> rfl
  · next hn =>
    unfold Cs.frm; rw [if_neg hn]
theorem Cs.frm_new {qs : List (List UInt8)} {k : Nat} (hk : k < qs.length) {x : List UInt8} {r : List (List UInt8)} (h : Oct.words qs[k] = x :: r) (hy : (Oct.lower x == Cs.nA || Oct.lower x == Cs.nB) = true) (hf : Cs.frm (qs.take k) (Oct.lower x) = none) :
    Cs.frm (qs.take (k + 1)) (Oct.lower x) = some r ∧ ∀ s, s ≠ Oct.lower x → Cs.frm (qs.take (k + 1)) s = Cs.frm (qs.take k) s := by
  constructor
  · rw [Cs.frm_succ hk h, if_pos hy, hf, if_pos (by simp)]; rfl
  · intro s hs
    rw [Cs.frm_succ hk h]
    split
    · rw [if_neg (by simpa using fun e => hs e.symm)]
      cases Cs.frm (qs.take k) s <;> rfl
    · next hn =>
      unfold Cs.frm; rw [if_neg hn]
theorem Cs.cnt_nil : Cs.cntS (fun _ => none) = 0 := rfl
theorem Cs.cnt_new {f g : List UInt8 → Option (List (List UInt8))} {y : List UInt8} {r : List (List UInt8)} (hy : (y == Cs.nA || y == Cs.nB) = true) (hf : f y = none) (h1 : g y = some r) (h2 : ∀ s, s ≠ y → g s = f s) : Cs.cntS g = Cs.cntS f + 1 := by
  rw [Bool.or_eq_true_iff, beq_iff_eq, beq_iff_eq] at hy
  unfold Cs.cntS
  rcases hy with rfl | rfl
  · rw [hf, h1, h2 Cs.nB (by decide)]
    simp; omega
  · rw [hf, h1, h2 Cs.nA (by decide)]
    simp
theorem Cs.frm_done {qs : List (List UInt8)} {k : Nat} (h : Cs.cntS (Cs.frm (qs.take k)) = 2) : Cs.frm qs = Cs.frm (qs.take k) := by
  have key : ∀ n, (Cs.frm (qs.take k) n).isSome = true → Cs.frm qs n = Cs.frm (qs.take k) n := fun n hn => by
    obtain ⟨v, hv⟩ := Option.isSome_iff_exists.1 hn
    rw [hv]
    unfold Cs.frm at hv ⊢
    split at hv
    · next hi => rw [if_pos hi]; exact Cs.firstQ_all n hv
    · cases hv
  have hb : (Cs.frm (qs.take k) Cs.nA).isSome = true ∧ (Cs.frm (qs.take k) Cs.nB).isSome = true := by
    unfold Cs.cntS at h
    cases e1 : (Cs.frm (qs.take k) Cs.nA).isSome <;> cases e2 : (Cs.frm (qs.take k) Cs.nB).isSome <;> simp [e1, e2] at h
    exact ⟨rfl, rfl⟩
  funext n
  by_cases hn : (n == Cs.nA || n == Cs.nB) = true
  · rw [Bool.or_eq_true_iff, beq_iff_eq, beq_iff_eq] at hn
    rcases hn with rfl | rfl
    · exact key _ hb.1
    · exact key _ hb.2
  · unfold Cs.frm
    rw [if_neg hn, if_neg hn]
end Go.Proofs.Ytcmbckacbdiebaa
