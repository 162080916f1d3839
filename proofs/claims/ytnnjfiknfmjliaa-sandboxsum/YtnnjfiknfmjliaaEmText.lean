/- How a list of texts that is handed in is opened. -/
import Derived.Test.YtnnjfiknfmjliaaOpen
import Derived.Test.YtnnjfiknfmjliaaBytes
import Derived.Test.YtnnjfiknfmjliaaOctTexts
namespace Go.Proofs.Ytnnjfiknfmjliaa
open Go.ChangeShapes Go.WideShapes Go.ChangeAt Go.RowKit

/-- A list of texts that lies somewhere. -/
def SeenT (w : World) (A : Option Addr) (l : List (List UInt8)) : Prop := 0 < l.length → ∃ g o, A = some ⟨g, o, none⟩ ∧ g < w.heap.size ∧ ∀ i (h : i < l.length), w.cell? ⟨g, o + i, none⟩ = some (Oct.strV l[i])
theorem SeenT.below {w w' : World} {A : Option Addr} {l : List (List UInt8)} (h : SeenT w A l) (hb : Below w.heap.size w w') : SeenT w' A l := fun hn => by
  obtain ⟨g, o, rfl, hg, hc⟩ := h hn
  exact ⟨g, o, rfl, Nat.lt_of_lt_of_le hg hb.size, fun i hi => (hb.cell (p := ⟨g, o + i, none⟩) hg).trans (hc i hi)⟩
structure WideTs (W : World) (A : Option Addr) (c : Nat) (l : List (List UInt8)) : Prop where
  seen : SeenT W A l
  len : l.length ≤ maxLen
  cap : l.length ≤ c
  nl : A = none → l.length = 0 ∧ c = 0
  each : ∀ s ∈ l, s.length ≤ maxLen
theorem cellsT : Try.prog.cellsOf 9 = 1 := by kernel_rfl
section
variable {H : Type} {enc : TypeId × Value → H} {W : World} {b0 : Nat} {v : Value} {d : DataW H} {ps : List MemPlace}
set_option maxRecDepth 100000 in
theorem texts_read {n : Nat} {y : DataW H × List MemPlace} (hf : DataW.trod enc Try.prog W 0 (fun _ => true) true n 23 [v] = some y) :
    ∃ (A : Option Addr) (c : Nat) (l : List (List UInt8)), v = .slice A l.length c ∧ WideTs W A c l ∧ (l.length = 0 ∨ ∃ el sp, y.1 = .slice el sp ∧ el.length = l.length) := by
  obtain ⟨A, cp, l, e, hl, hnl, hcp, hsl, hc, ha⟩ := open_rows (α := List UInt8) Try.underlying23 cellsT (by decide) (fun s l => l = [.string (bA s)] ∧ s.length ≤ maxLen) (fun n l y h => by
    obtain ⟨s, e0, _, hs⟩ := DataW.trod_string Try.underlying9 h
    exact ⟨s.data.toList, e0, by simpa using hs⟩) hf
  refine ⟨A, cp, l, e, ⟨fun hn => ?_, hl, hcp, hnl, fun x hx => ?_⟩, hsl⟩
  · obtain ⟨g, o, hA, hg, hi⟩ := hc hn
    refine ⟨g, o, hA, hg, fun i h => ?_⟩
    obtain ⟨cs, ⟨rfl, _⟩, hcell⟩ := hi i h
    have := hcell 0 (by omega)
    rw [Nat.mul_one, Nat.add_zero] at this
    exact this
  · obtain ⟨cs, ⟨_, hw⟩⟩ := ha x hx
    exact hw
set_option maxRecDepth 100000 in
theorem open_strs (hv : Value.okWide Try.prog W .any b0 23 v) (h : DataW.Trod enc Try.prog W 0 (fun _ => true) true 23 v d ps) :
    ∃ (A : Option Addr) (c : Nat) (l : List (List UInt8)), v = .slice A l.length c ∧ WideTs W A c l ∧ (l.length = 0 ∨ ∃ el sp, d = .slice el sp ∧ el.length = l.length) := by
  obtain ⟨fuel, hf⟩ := h
  have hcell : v.cells.toList = [v] := by
    obtain ⟨a, l, c, rfl⟩ := okWide_slice Try.underlying23 hv
    rfl
  rw [hcell] at hf
  exact texts_read hf
end
end Go.Proofs.Ytnnjfiknfmjliaa
