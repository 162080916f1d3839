/- The contracts of octet.Split. -/
import Derived.Test.YtnnjfiknfmjliaaOctText
import Derived.Test.YtnnjfiknfmjliaaOctOut
import Derived.Test.YtnnjfiknfmjliaaOctMath3
import Derived.Laws.IdiomStrings
namespace Go.Proofs.Ytnnjfiknfmjliaa
open Go.RowKit

/-- What a round of cut, for Split, keeps: the separating byte's cell, the parts gathered, all below as it was. -/
structure SpInv (w wr : World) (Bo : Nat) (b : Int) (s : ByteArray) (k f : Nat) : Prop where
  cell : wr.cell? ⟨Bo - 1, 0, none⟩ = some (.int .u8 b)
  bel : Below (Bo - 1) w wr
  more : ∃ d c, Oct.st (fun x => x == b) (s.data.toList.take k) = (d, c) ∧ f + c.length = k ∧ Out wr Bo (d.map Oct.strV)

theorem SpInv.no {w wr : World} {Bo : Nat} {b : Int} {s : ByteArray} {k f : Nat} (h : SpInv w wr Bo b s k f) (hk : k < s.size) (hb : ((s[k].toNat : Int) == b) = false) : SpInv w wr Bo b s (k + 1) f := by
  obtain ⟨hc, hbel, d, c, h1, h2, h3⟩ := h
  refine ⟨hc, hbel, d, c ++ [s[k]], ?_, by simp; omega, h3⟩
  rw [Oct.take_snoc s k hk]
  exact Oct.st_no _ d c _ _ h1 hb
theorem SpInv.yes {w w' : World} {Bo : Nat} {b : Int} {s : ByteArray} {k : Nat} (hk : k < s.size) (hb : ((s[k].toNat : Int) == b) = true) (hc : w'.cell? ⟨Bo - 1, 0, none⟩ = some (.int .u8 b)) (hbel : Below (Bo - 1) w w')
    (hd : ∃ d c, Oct.st (fun x => x == b) (s.data.toList.take k) = (d, c) ∧ Out w' Bo ((d ++ [c]).map Oct.strV)) : SpInv w w' Bo b s (k + 1) (k + 1) := by
  obtain ⟨d, c, h1, h2⟩ := hd
  refine ⟨hc, hbel, d ++ [c], [], ?_, rfl, h2⟩
  rw [Oct.take_snoc s k hk]
  exact Oct.st_yes _ d c _ _ h1 hb
theorem split_end {w' : World} {Bo : Nat} {b : Int} {s : ByteArray} (hd : ∃ d c, Oct.st (fun x => x == b) (s.data.toList.take s.size) = (d, c) ∧ Out w' Bo ((d ++ [c]).map Oct.strV)) : Out w' Bo ((Oct.split (fun x => x == b) s.data.toList).map Oct.strV) := by
  obtain ⟨d, c, h1, h2⟩ := hd
  rw [Oct.take_all s s.size (Nat.le_refl _)] at h1
  rw [Oct.split_of _ _ _ _ h1]
  exact h2

/-- A list of texts in memory of the call's own is answered. -/
def RetTexts (w : World) (ps : List (List UInt8)) (e : Ending) (w' : World) : Prop := ∃ v, e = .returned v ∧ Below w.heap.size w w' ∧ w'.ownsRow w.heap.size 9 1 v ps.length (ps.map Oct.strV)

end Go.Proofs.Ytnnjfiknfmjliaa
