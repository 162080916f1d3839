/- A slice that is handed in, opened element by element. -/
import Derived.OpenShut
import Derived.Handed
import Derived.ProofKit
import Derived.Deep.Slices
import Derived.SizedLaws
import Derived.Carry
import Derived.Test.YtnnjfiknfmjliaaProg
namespace Go.Proofs.Ytnnjfiknfmjliaa
open Go.ChangeShapes Go.WideShapes Go.ChangeAt Go.RowKit

section
variable {H : Type} {enc : TypeId × Value → H} {W : World} {b0 : Nat} {v : Value} {d : DataW H} {ps : List MemPlace}
/-- A slice whose elements are opened one by one. -/
theorem open_rows {α : Type} [Inhabited α] {T E : TypeId} {size : Nat} (hu : Try.prog.underlying T = some (.slice E)) (hcs : Try.prog.cellsOf E = size) (hs : 0 < size) (R : α → List Value → Prop)
    (hel : ∀ n l y, DataW.trod enc Try.prog W 0 (fun _ => true) true n E l = some y → ∃ x, R x l) {n : Nat} {c : Value} {y : DataW H × List MemPlace} (h : DataW.trod enc Try.prog W 0 (fun _ => true) true n T [c] = some y) :
    ∃ (A : Option Addr) (cp : Nat) (l : List α), c = .slice A l.length cp ∧ l.length ≤ maxLen ∧ (A = none → l.length = 0 ∧ cp = 0) ∧ l.length ≤ cp ∧ (l.length = 0 ∨ ∃ el sp, y.1 = .slice el sp ∧ el.length = l.length) ∧
      (0 < l.length → ∃ g o, A = some ⟨g, o, none⟩ ∧ g < W.heap.size ∧ ∀ i (h : i < l.length), ∃ cs, R l[i] cs ∧ ∀ j, j < size → W.cell? ⟨g, o + i * size + j, none⟩ = cs[j]?) ∧ ∀ x ∈ l, ∃ cs, R x cs := by
  rcases Go.Deep.open_slice hu h with ⟨e, _⟩ | ⟨a, len, cap, m, n', D, Pl, e, _, hl, hm, hmm, hy, hc⟩
  · simp only [List.cons.injEq, and_true] at e
    subst e
    exact ⟨none, 0, [], rfl, by simp [maxLen], fun _ => ⟨rfl, rfl⟩, Nat.le_refl _, .inl rfl, fun h => by simp at h, by simp⟩
  · simp only [List.cons.injEq, and_true] at e
    subst e
    have hm2 : len ≤ m := by rw [hmm]; split <;> omega
    rw [hcs] at hc
    have each : ∀ i, i < m → ∃ q : α × List Value, W.cells? 0 (a.add (i * size)) size = some q.2 ∧ R q.1 q.2 := fun i hi => by
      obtain ⟨cs', h1, h2⟩ := hc i hi
      obtain ⟨x, hx⟩ := hel _ _ _ h2
      exact ⟨(x, cs'), h1, hx⟩
    obtain ⟨F, hF⟩ := Go.Deep.choose_lt each
    refine ⟨some a, cap, (List.range len).map fun i => (F i).1, by simp, by simp; omega, fun h => (by cases h), by simpa using hl, .inr ⟨_, _, by rw [hy], by simp⟩, fun h0 => ?_, fun x hx => ?_⟩
    · have h0' : 0 < len := by simpa using h0
      have hcell : ∀ i, i < len → ∀ j, j < size → W.cell? ((a.add (i * size)).add j) = (F i).2[j]? := fun i hi j hj => (World.cells?_some (hF i (by omega)).1).2.2 j hj
      have hlen : ∀ i, i < len → (F i).2.length = size := fun i hi => (World.cells?_some (hF i (by omega)).1).2.1
      have hz := hcell 0 h0' 0 hs
      have hz' : W.cell? a = some ((F 0).2[0]'(by rw [hlen 0 h0']; exact hs)) := by
        rw [List.getElem?_eq_getElem (by rw [hlen 0 h0']; exact hs)] at hz
        have e0 : (a.add (0 * size)).add 0 = a := by simp [Addr.add]
        rw [e0] at hz; exact hz
      have hsp := World.cell?_spot hz'
      obtain ⟨g, o, sp⟩ := a
      simp only at hsp
      subst hsp
      refine ⟨g, o, rfl, World.block_lt_of_cell? _ _ hz', fun i hi => ?_⟩
      have hi' : i < len := by simpa using hi
      have ei : ((List.range len).map fun i => (F i).1)[i] = (F i).1 := by simp
      refine ⟨(F i).2, by rw [ei]; exact (hF i (by omega)).2, fun j hj => ?_⟩
      have ad : ((⟨g, o, none⟩ : Addr).add (i * size)).add j = ⟨g, o + i * size + j, none⟩ := by
        unfold Addr.add
        split <;> split <;> simp_all
      rw [← ad]; exact hcell i hi' j hj
    · obtain ⟨i, hi, rfl⟩ := List.mem_map.1 hx
      have hi' : i < len := by simpa using hi
      exact ⟨(F i).2, (hF i (by omega)).2⟩
end
end Go.Proofs.Ytnnjfiknfmjliaa
