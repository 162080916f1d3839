/- The contract of the document's Split. -/
import Derived.Test.YtehjnidggnfbfaaDoorOctWords
namespace Go.Proofs.YtehjnidggnfbfaaDoor
open Go.RowKit

/-- What a round keeps: the parts gathered so far. -/
structure RsInv (w wr : World) (p : Int → Bool) (s : ByteArray) (k f : Nat) (v : Value) : Prop where
  bel : Below w.heap.size w wr
  more : ∃ d c, Oct.st p (s.data.toList.take k) = (d, c) ∧ f + c.length = k ∧ wr.ownsRow w.heap.size 9 1 v d.length (d.map Oct.strV)
theorem RsInv.no {w wr : World} {p : Int → Bool} {s : ByteArray} {k f : Nat} {v : Value} (h : RsInv w wr p s k f v) (hk : k < s.size) (hb : p s[k].toNat = false) : RsInv w wr p s (k + 1) f v := by
  obtain ⟨hbel, d, c, h1, h2, h3⟩ := h
  refine ⟨hbel, d, c ++ [s[k]], ?_, by simp; omega, h3⟩
  rw [Oct.take_snoc s k hk]
  exact Oct.st_no _ d c _ _ h1 hb
/-- One part more has been laid behind. -/
def RsDone (w w1 : World) (p : Int → Bool) (s : ByteArray) (k : Nat) (v' : Value) : Prop :=
  Below w.heap.size w w1 ∧ ∃ d c, Oct.st p (s.data.toList.take k) = (d, c) ∧ w1.ownsRow w.heap.size 9 1 v' (d.length + 1) (d.map Oct.strV ++ [Oct.strV c])
theorem RsDone.yes {w w' : World} {p : Int → Bool} {s : ByteArray} {k : Nat} {v : Value} (h : RsDone w w' p s k v) (hk : k < s.size) (hb : p s[k].toNat = true) : RsInv w w' p s (k + 1) (k + 1) v := by
  obtain ⟨hbel, d, c, h1, h2⟩ := h
  refine ⟨hbel, d ++ [c], [], ?_, rfl, by simpa using h2⟩
  rw [Oct.take_snoc s k hk]
  exact Oct.st_yes _ d c _ _ h1 hb
theorem RsDone.fin {w w' : World} {p : Int → Bool} {s : ByteArray} {v : Value} (h : RsDone w w' p s s.size v) : Below w.heap.size w w' ∧ w'.ownsRow w.heap.size 9 1 v (Oct.split p s.data.toList).length ((Oct.split p s.data.toList).map Oct.strV) := by
  obtain ⟨hbel, d, c, h1, h2⟩ := h
  rw [Oct.take_all s s.size (Nat.le_refl _)] at h1
  rw [Oct.split_of _ _ _ _ h1]
  exact ⟨hbel, by simpa using h2⟩

theorem rs_done {w wr w1 : World} {p : Int → Bool} {s : ByteArray} {k : Nat} {v v' x : Value} {o : Obj} {d : List (List UInt8)} {c : List UInt8} (hbel : Below w.heap.size w wr) (hsz : w.heap.size ≤ wr.heap.size) (h1 : Oct.st p (s.data.toList.take k) = (d, c))
    (hown : wr.ownsRow w.heap.size 9 1 v d.length (d.map Oct.strV)) (hx : x = Oct.strV c) (hown' : w1.ownsRow w.heap.size 9 1 v' (d.length + 1) (d.map Oct.strV ++ [x])) (hg : (wr.alloc o).grownBy w1 v.ownBlock) : RsDone w w1 p s k v' := by
  refine ⟨(hbel.alloc hsz o).grown hg (by simp; omega) (fun k hk => (hown.lt k hk).1), d, c, h1, ?_⟩
  rw [← hx]; exact hown'

end Go.Proofs.YtehjnidggnfbfaaDoor
