/- The contract of octet.Words. -/
import Derived.Test.YtehjnidggnfbfaaDoorOctSplit
namespace Go.Proofs.YtehjnidggnfbfaaDoor
open Go.RowKit

def nonE (x : List UInt8) : Bool := !x.isEmpty

/-- What a round of cut, for Words, keeps. -/
structure WdInv (w wr : World) (Bo : Nat) (s : ByteArray) (k f : Nat) : Prop where
  bel : Below Bo w wr
  more : ∃ d c, Oct.st Oct.blankI (s.data.toList.take k) = (d, c) ∧ f + c.length = k ∧ Out wr Bo ((d.filter nonE).map Oct.strV)

theorem WdInv.no {w wr : World} {Bo : Nat} {s : ByteArray} {k f : Nat} (h : WdInv w wr Bo s k f) (hk : k < s.size) (hb : Oct.blankI s[k].toNat = false) : WdInv w wr Bo s (k + 1) f := by
  obtain ⟨hbel, d, c, h1, h2, h3⟩ := h
  refine ⟨hbel, d, c ++ [s[k]], ?_, by simp; omega, h3⟩
  rw [Oct.take_snoc s k hk]
  exact Oct.st_no _ d c _ _ h1 hb
theorem WdInv.yes {w w' : World} {Bo : Nat} {s : ByteArray} {k : Nat} (hk : k < s.size) (hb : Oct.blankI s[k].toNat = true) (hbel : Below Bo w w')
    (hd : ∃ d c, Oct.st Oct.blankI (s.data.toList.take k) = (d, c) ∧ Out w' Bo (((d ++ [c]).filter nonE).map Oct.strV)) : WdInv w w' Bo s (k + 1) (k + 1) := by
  obtain ⟨d, c, h1, h2⟩ := hd
  refine ⟨hbel, d ++ [c], [], ?_, rfl, h2⟩
  rw [Oct.take_snoc s k hk]
  exact Oct.st_yes _ d c _ _ h1 hb
theorem words_end {w' : World} {Bo : Nat} {s : ByteArray} (hd : ∃ d c, Oct.st Oct.blankI (s.data.toList.take s.size) = (d, c) ∧ Out w' Bo (((d ++ [c]).filter nonE).map Oct.strV)) : Out w' Bo ((Oct.words s.data.toList).map Oct.strV) := by
  obtain ⟨d, c, h1, h2⟩ := hd
  rw [Oct.take_all s s.size (Nat.le_refl _)] at h1
  unfold Oct.words
  rw [Oct.split_of _ _ _ _ h1]
  exact h2

end Go.Proofs.YtehjnidggnfbfaaDoor
