/- A list of texts that a closure gathers in a variable of its own block: what it holds, and how it grows. -/
import Derived.Test.YtnnjfiknfmjliaaProg
import Derived.WalkKit
import Derived.Lib.Hide
namespace Go.Proofs.Ytnnjfiknfmjliaa
open Go.RowKit

theorem info_string : (Try.prog.info? 9).map (fun i => (i.zero, i.size, i.bytes)) = some (some (.string ⟨#[]⟩), 1, 16) := by kernel_rfl

/-- The one cell of block Bo holds a slice whose elements are xs, in a row behind Bo. -/
def Out (w : World) (Bo : Nat) (xs : List Value) : Prop := ∃ v, w.heap[Bo]? = some (.cells #[v] 23 (0, 0)) ∧ w.ownsRow (Bo + 1) 9 1 v xs.length xs

theorem Out.new (w : World) : Out (w.alloc (.cells #[.slice none 0 0] 23)) w.heap.size [] :=
  ⟨_, by show (w.heap.push _)[w.heap.size]? = _; simp, World.ownsRow_nil _ _ _ _⟩

theorem Out.step {w w1 : World} {Bo : Nat} {xs : List Value} {v v' : Value} {p : Value} {o : Obj} (hv : w.heap[Bo]? = some (.cells #[v] 23 (0, 0))) (hown : w.ownsRow (Bo + 1) 9 1 v xs.length xs)
    (hown' : w1.ownsRow (Bo + 1) 9 1 v' (xs.length + 1) (xs ++ [p])) (hg : (w.alloc o).grownBy w1 v.ownBlock) :
    w1.heap[Bo]? = some (.cells #[v] 23 (0, 0)) ∧ Out (w1.setCell ⟨Bo, 0, none⟩ v') Bo (xs ++ [p]) ∧ Below Bo w (w1.setCell ⟨Bo, 0, none⟩ v') := by
  have hlt := lt_of_block hv
  have hne : ∀ k, v.ownBlock = some k → Bo + 1 ≤ k := fun k hk => (hown.lt k hk).1
  have h1 : w1.heap[Bo]? = some (.cells #[v] 23 (0, 0)) := by
    rw [hg.block Bo (by simp; omega) (fun e => by have := hne _ e.symm; omega), Below.heap_alloc _ _ _ hlt]
    exact hv
  refine ⟨h1, ⟨v', one_setCell h1, ?_⟩, ?_⟩
  · rw [List.length_append]
    exact ownsRow_setCell_below hown' (by show Bo < Bo + 1; omega) _
  · exact ((((Below.refl Bo w).alloc (Nat.le_of_lt hlt) o).grown hg (by simp; omega) (fun k hk => by have := hne k hk; omega))).setCell (Nat.le_refl _) _

theorem owns_base {w : World} {base base' : Nat} {e : TypeId} {size : Nat} {v : Value} {n : Nat} {xs : List Value} (h : w.ownsRow base e size v n xs) (hb : base' ≤ base) : w.ownsRow base' e size v n xs := by
  obtain ⟨h1, h2 | ⟨g, cap, cur, a, b, c⟩⟩ := h
  · exact ⟨h1, .inl h2⟩
  · exact ⟨h1, .inr ⟨g, cap, cur, a, by omega, c⟩⟩
theorem slice_of_owns {w : World} {base : Nat} {e : TypeId} {v : Value} {n : Nat} {xs : List Value} (h : w.ownsRow base e 1 v (n + 1) xs) : ∃ g cap, v = .slice (some ⟨g, 0, none⟩) (n + 1) cap := by
  obtain ⟨_, h | ⟨g, cap, _, hv, _⟩⟩ := h
  · omega
  · exact ⟨g, cap, hv⟩

end Go.Proofs.Ytnnjfiknfmjliaa
