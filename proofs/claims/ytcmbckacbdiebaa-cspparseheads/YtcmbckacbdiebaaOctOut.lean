/- A list of texts that a closure gathers in a variable of its own block: what it holds, and how it grows. -/
import Derived.Test.YtcmbckacbdiebaaProg
import Derived.WalkKit
import Derived.Lib.Hide
namespace Go.Proofs.Ytcmbckacbdiebaa
open Go.RowKit

theorem info_string : (Try.prog.info? 9).map (fun i => (i.zero, i.size, i.bytes)) = some (some (.string ⟨#[]⟩), 1, 16) := by kernel_rfl

/-- The one cell of block Bo holds a slice whose elements are xs, in a row behind Bo. -/
def Out (w : World) (Bo : Nat) (xs : List Value) : Prop := ∃ v, w.heap[Bo]? = some (.cells #[v] 24 (0, 0)) ∧ w.ownsRow (Bo + 1) 9 1 v xs.length xs

theorem Out.new (w : World) : Out (w.alloc (.cells #[.slice none 0 0] 24)) w.heap.size [] :=
  ⟨_, by show (w.heap.push _)[w.heap.size]? = _; simp, World.ownsRow_nil _ _ _ _⟩

theorem Out.step {w w1 : World} {Bo : Nat} {xs : List Value} {v v' : Value} {p : Value} {o : Obj} (hv : w.heap[Bo]? = some (.cells #[v] 24 (0, 0))) (hown : w.ownsRow (Bo + 1) 9 1 v xs.length xs)
    (hown' : w1.ownsRow (Bo + 1) 9 1 v' (xs.length + 1) (xs ++ [p])) (hg : (w.alloc o).grownBy w1 v.ownBlock) :
    w1.heap[Bo]? = some (.cells #[v] 24 (0, 0)) ∧ Out (w1.setCell ⟨Bo, 0, none⟩ v') Bo (xs ++ [p]) ∧ Below Bo w (w1.setCell ⟨Bo, 0, none⟩ v') := by
  have hlt := lt_of_block hv
  have hne : ∀ k, v.ownBlock = some k → Bo + 1 ≤ k := fun k hk => (hown.lt k hk).1
  have h1 : w1.heap[Bo]? = some (.cells #[v] 24 (0, 0)) := by
    rw [hg.block Bo (by simp; omega) (fun e => by have := hne _ e.symm; omega), Below.heap_alloc _ _ _ hlt]
    exact hv
  refine ⟨h1, ⟨v', one_setCell h1, ?_⟩, ?_⟩
  · rw [List.length_append]
    exact ownsRow_setCell_below hown' (by show Bo < Bo + 1; omega) _
  · exact ((((Below.refl Bo w).alloc (Nat.le_of_lt hlt) o).grown hg (by simp; omega) (fun k hk => by have := hne k hk; omega))).setCell (Nat.le_refl _) _

theorem owns_base {w : World} {base base' : Nat} {e : TypeId} {size : Nat} {v : Value} {n : Nat} {xs : List Value} (h : w.ownsRow base e size v n xs) (hb : base' ≤ base) : w.ownsRow base' e size v n xs := by
  obtain ⟨h1, h2 | ⟨g, cap, cur, a, b, c⟩⟩ := h
  · exact ⟨h1, .inl h2⟩
  · exact ⟨h1, .inr ⟨g, cap, cur, a, by omega, c⟩⟩
theorem slice_of_owns {w : World} {base : Nat} {e : TypeId} {v : Value} {n : Nat} {xs : List Value} (h : w.ownsRow base e 1 v (n + 1) xs) : ∃ g cap, v = .slice (some ⟨g, 0, none⟩) (n + 1) cap := by
  obtain ⟨_, h | ⟨g, cap, _, hv, _⟩⟩ := h
  · omega
  · exact ⟨g, cap, hv⟩

set_option maxHeartbeats 400000 in
theorem stake_any (p : ByteArray) (Bo : Nat) (xs : List Value) (w : World) (hO : Out w Bo xs) (hb : (xs.length + 1) * 16 ≤ 140737488355328) :
    Calls Try.prog 32 #[.string p, .pointer (some ⟨Bo, 0, none⟩)] w fun e w' => e = .returned (.tuple #[]) ∧ Out w' Bo (xs ++ [.string p]) ∧ Below Bo w w' := by
  obtain ⟨v, hv, hown⟩ := hO
  have hlt := lt_of_block hv
  have hc := cell_of_one hv
  have hf := free_of_one hv
  have HV := Lib.hid hv
  clear hv
  obtain ⟨i0, hi, hz0, hz1, hz2⟩ := info_parts info_string
  have HI := Lib.hid hi; have HZ0 := Lib.hid hz0; have HZ1 := Lib.hid hz1; have HZ2 := Lib.hid hz2
  clear hi hz0 hz1 hz2
  go_enter Try.func32, Try.ntmps32
  go_wp2_with (at_builtin; refine wpList_append_own _ rfl _ _ 24 rfl (Bo + 1) 9 i0 (.string ⟨#[]⟩) 1 16 Try.underlying24 HI.out HZ0.out HZ1.out HZ2.out rfl (by decide) _ _ _ rfl (hown.alloc _) ⟨w.heap.size, 0, none⟩ 1 1 [.string p] rfl rfl ?c1 ?c2 ?c3 ?c4 ?c5 ?_)
  case c1 =>
    intro j u hj
    match j, hj with
    | 0, hj => simp at hj; subst hj; simp [Addr.add]
  case c2 => intro u hu; simp at hu; subst hu; rfl
  case c3 => unfold maxLen; omega
  case c4 => exact hb
  case c5 => simp; omega
  · intro v' w1 hown' hgrow _
    obtain ⟨g, cap, rfl⟩ := slice_of_owns hown'
    obtain ⟨h1, h2, h3⟩ := Out.step HV.out hown hown' hgrow
    have hc1 := cell_of_one h1
    have hf1 := free_of_one h1
    clear hown' hgrow hown h1 hc hf
    go_wp2
    go_end0
    exact ⟨rfl, h2, h3⟩
set_option maxHeartbeats 400000 in
theorem wtake_some (p : ByteArray) (Bo : Nat) (xs : List Value) (w : World) (hO : Out w Bo xs) (hp : p.toList.isEmpty = false) (hb : (xs.length + 1) * 16 ≤ 140737488355328) :
    Calls Try.prog 45 #[.string p, .pointer (some ⟨Bo, 0, none⟩)] w fun e w' => e = .returned (.tuple #[]) ∧ Out w' Bo (xs ++ [.string p]) ∧ Below Bo w w' := by
  have hp' : ¬ p.toList = [] := by simpa using hp
  obtain ⟨v, hv, hown⟩ := hO
  have hlt := lt_of_block hv
  have hc := cell_of_one hv
  have hf := free_of_one hv
  have HV := Lib.hid hv
  clear hv
  obtain ⟨i0, hi, hz0, hz1, hz2⟩ := info_parts info_string
  have HI := Lib.hid hi; have HZ0 := Lib.hid hz0; have HZ1 := Lib.hid hz1; have HZ2 := Lib.hid hz2
  clear hi hz0 hz1 hz2
  go_enter Try.func45, Try.ntmps45
  go_wp2_with (at_builtin; refine wpList_append_own _ rfl _ _ 24 rfl (Bo + 1) 9 i0 (.string ⟨#[]⟩) 1 16 Try.underlying24 HI.out HZ0.out HZ1.out HZ2.out rfl (by decide) _ _ _ rfl (hown.alloc _) ⟨w.heap.size, 0, none⟩ 1 1 [.string p] rfl rfl ?c1 ?c2 ?c3 ?c4 ?c5 ?_)
  case c1 =>
    intro j u hj
    match j, hj with
    | 0, hj => simp at hj; subst hj; simp [Addr.add]
  case c2 => intro u hu; simp at hu; subst hu; rfl
  case c3 => unfold maxLen; omega
  case c4 => exact hb
  case c5 => simp; omega
  · intro v' w1 hown' hgrow _
    obtain ⟨g, cap, rfl⟩ := slice_of_owns hown'
    obtain ⟨h1, h2, h3⟩ := Out.step HV.out hown hown' hgrow
    have hc1 := cell_of_one h1
    have hf1 := free_of_one h1
    clear hown' hgrow hown h1 hc hf
    go_wp2
    go_end0
    exact ⟨rfl, h2, h3⟩
set_option maxHeartbeats 400000 in
theorem wtake_none (p : ByteArray) (Bo : Nat) (xs : List Value) (w : World) (hO : Out w Bo xs) (hp : p.toList.isEmpty = true) :
    Calls Try.prog 45 #[.string p, .pointer (some ⟨Bo, 0, none⟩)] w fun e w' => e = .returned (.tuple #[]) ∧ Out w' Bo xs ∧ Below Bo w w' := by
  have hp' : p.toList = [] := by simpa using hp
  go_enter Try.func45, Try.ntmps45
  go_wp2
  go_end0
  exact ⟨rfl, hO, Below.refl _ _⟩
end Go.Proofs.Ytcmbckacbdiebaa
