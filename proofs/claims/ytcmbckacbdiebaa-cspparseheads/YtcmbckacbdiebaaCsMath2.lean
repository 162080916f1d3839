/- The first directive of a name, part by part; sizes. No program is named here. -/
import Derived.Test.YtcmbckacbdiebaaCsMath
namespace Go.Proofs.Ytcmbckacbdiebaa
namespace Cs

/-- The directives of some parts. -/
def dirsQ (qs : List (List UInt8)) : List (List (List UInt8)) := (qs.map Oct.words).filter fun w => !w.isEmpty
theorem dirsQ_is (s : List UInt8) : dirs s = dirsQ (Oct.split semi s) := rfl
theorem dirsQ_app (a b : List (List UInt8)) : dirsQ (a ++ b) = dirsQ a ++ dirsQ b := by unfold dirsQ; rw [List.map_append, List.filter_append]
theorem dirsQ_none {q : List UInt8} (h : Oct.words q = []) : dirsQ [q] = [] := by unfold dirsQ; simp [h]
theorem dirsQ_some {q : List UInt8} {w : List UInt8} {r : List (List UInt8)} (h : Oct.words q = w :: r) : dirsQ [q] = [w :: r] := by unfold dirsQ; simp [h]
theorem first_one {w n : List UInt8} {r : List (List UInt8)} : firstD [w :: r] n = if (Oct.lower w == n) = true then some r else none := by
  unfold firstD named
  rw [List.find?_cons]
  simp only [List.headD_cons]
  cases Oct.lower w == n <;> simp
theorem firstQ_succ {qs : List (List UInt8)} {k : Nat} (hk : k < qs.length) (n : List UInt8) : firstD (dirsQ (qs.take (k + 1))) n = (firstD (dirsQ (qs.take k)) n).or (firstD (dirsQ [qs[k]]) n) := by
  rw [List.take_succ_eq_append_getElem hk, dirsQ_app, first_app]
theorem firstQ_all {qs : List (List UInt8)} {k : Nat} (n : List UInt8) {x : List (List UInt8)} (h : firstD (dirsQ (qs.take k)) n = some x) : firstD (dirsQ qs) n = some x := by
  have e : qs = qs.take k ++ qs.drop k := (List.take_append_drop k qs).symm
  rw [show firstD (dirsQ qs) n = firstD (dirsQ (qs.take k ++ qs.drop k)) n from by rw [← e], dirsQ_app, first_app, h]
  rfl
/-! ### sizes -/
theorem words_length (q : List UInt8) : (Oct.words q).length ≤ q.length + 1 := Oct.words_len q
theorem part_len {p : Int → Bool} {l q : List UInt8} (h : q ∈ Oct.split p l) : q.length ≤ l.length := by
  have := Oct.st_each p l ([], []) 0 (by simp) q h
  simpa using this
theorem dir_words {s : List UInt8} {d : List (List UInt8)} (hd : d ∈ dirs s) : d.length ≤ s.length + 1 ∧ ∀ w ∈ d, w.length ≤ s.length := by
  unfold dirs at hd
  obtain ⟨x, hx, rfl⟩ := List.mem_map.1 (List.mem_filter.1 hd).1
  have h1 := part_len hx
  have h2 := Oct.words_len x
  exact ⟨by omega, fun w hw => Nat.le_trans (Oct.word_len x w hw) h1⟩
theorem first_words {s n : List UInt8} {l : List (List UInt8)} (h : firstD (dirs s) n = some l) : l.length ≤ s.length + 1 ∧ ∀ w ∈ l, w.length ≤ s.length := by
  unfold firstD at h
  cases hf : (dirs s).find? (named n) with
  | none => rw [hf] at h; cases h
  | some d =>
    rw [hf] at h
    cases h
    have hd := dir_words (List.mem_of_find?_eq_some hf)
    exact ⟨by rw [List.length_tail]; omega, fun w hw => hd.2 w (List.mem_of_mem_tail hw)⟩
theorem one_words (s : List UInt8) : ((one s).anc.length ≤ s.length + 1 ∧ ∀ w ∈ (one s).anc, w.length ≤ s.length) ∧ (one s).box.length ≤ s.length + 1 ∧ ∀ w ∈ (one s).box, w.length ≤ s.length := by
  unfold one mk
  constructor
  · cases h : firstD (dirs s) nA with
    | none => simp
    | some l => exact first_words h
  · cases h : firstD (dirs s) nB with
    | none => simp
    | some l => exact first_words h
theorem dirT_len {m : Nat} : ∀ (l : List (List UInt8)) (n : List UInt8), (∀ w ∈ l, w.length ≤ m) → (dirT n l).length ≤ n.length + l.length * (m + 1)
  | [], n, _ => by simp [dirT]
  | w :: l, n, h => by
    have ih := dirT_len l n fun x hx => h x (by simp [hx])
    have hw := h w (by simp)
    unfold dirT at ih ⊢
    rw [List.length_append] at ih ⊢
    rw [List.flatMap_cons, List.length_append, List.length_cons, List.length_cons, Nat.succ_mul]
    omega
theorem text_len {p : Pol} {m k : Nat} (ha : p.anc.length ≤ k) (hb : p.box.length ≤ k) (hwa : ∀ w ∈ p.anc, w.length ≤ m) (hwb : ∀ w ∈ p.box, w.length ≤ m) : (text p).length ≤ 24 + 2 * (k * (m + 1)) := by
  have h1 := dirT_len p.anc nA hwa
  have h2 := dirT_len p.box nB hwb
  have h3 : p.anc.length * (m + 1) ≤ k * (m + 1) := Nat.mul_le_mul_right _ ha
  have h4 : p.box.length * (m + 1) ≤ k * (m + 1) := Nat.mul_le_mul_right _ hb
  have e1 : nA.length = 15 := rfl
  have e2 : nB.length = 7 := rfl
  unfold text
  rw [List.length_append, List.length_append]
  split <;> split <;> split <;> simp only [List.length_nil, List.length_cons] <;> omega
end Cs
end Go.Proofs.Ytcmbckacbdiebaa
