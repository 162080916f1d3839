/- The contract of the document's Texts: are two lists of texts the same? -/
import Derived.Test.YtcgogadjompemaaOctSplit
import Derived.BigQuiet
import Derived.Deep.QuietTactic
namespace Go.Proofs.Ytcgogadjompemaa
open Go.RowKit

theorem owns_view {w : World} {base : Nat} {v : Value} {ps : List (List UInt8)} (h : w.ownsRow base 9 1 v ps.length (ps.map Oct.strV)) :
    (v = .slice none 0 0 ∧ ps = []) ∨ ∃ g cap, v = .slice (some ⟨g, 0, none⟩) ps.length cap ∧ ps.length ≤ maxLen ∧ g < w.heap.size ∧ base ≤ g ∧ ∀ i (h : i < ps.length), w.cell? ⟨g, i, none⟩ = some (Oct.strV ps[i]) := by
  have hc := h
  obtain ⟨_, ⟨h1, h2⟩ | ⟨g, cap, cur, rfl, hb, hg, h3, h4, h5, h6⟩⟩ := h
  · exact .inl ⟨h1, List.length_eq_zero_iff.1 h2⟩
  · refine .inr ⟨g, cap, rfl, by omega, lt_of_block hg, hb, fun i hi => ?_⟩
    have := World.ownsRow.cells hc (g := g) rfl i (Oct.strV ps[i]) (by simp [hi])
    rw [← this]; congr 1; simp [Addr.add]

theorem texts_miss {pa pb : List (List UInt8)} {k : Nat} {x y : List UInt8} (h1 : k < pa.length) (h2 : k < pb.length) (hx : pa[k] = x) (hy : pb[k] = y) (hne : (!x == y) = true) : false = (pa == pb) := by
  symm
  rw [beq_eq_false_iff_ne]
  rintro rfl
  rw [hx] at hy; subst hy
  simp at hne
theorem texts_next {pa pb : List (List UInt8)} {k : Nat} {x y : List UInt8} (h1 : k < pa.length) (h2 : k < pb.length) (hx : pa[k] = x) (hy : pb[k] = y) (hne : (!x == y) = false) (hin : pa.take k = pb.take k) : pa.take (k + 1) = pb.take (k + 1) := by
  have e : x = y := by simpa using hne
  rw [List.take_succ_eq_append_getElem h1, List.take_succ_eq_append_getElem h2, hx, hy, hin, e]
theorem texts_end {pa pb : List (List UInt8)} {k : Nat} (h1 : pa.length ≤ k) (hl : pa.length = pb.length) (hin : pa.take k = pb.take k) : true = (pa == pb) := by
  rw [List.take_of_length_le h1, List.take_of_length_le (by omega)] at hin
  symm; rw [beq_iff_eq]; exact hin
theorem texts_len {pa pb : List (List UInt8)} (hl : ¬ pa.length = pb.length) : false = (pa == pb) := by
  symm
  rw [beq_eq_false_iff_ne]
  rintro rfl
  exact hl rfl
theorem below_drewN' {B : Nat} {a w : World} (h : Below B a w) (n : Nat) : Below B a (w.drewN n) := h.trans ⟨rfl, rfl, rfl, Nat.le_refl _, fun _ _ => rfl⟩

end Go.Proofs.Ytcgogadjompemaa
