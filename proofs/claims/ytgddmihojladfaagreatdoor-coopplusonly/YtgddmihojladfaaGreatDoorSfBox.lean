/- Blocks of cells: values, parameters and items in memory. -/
import Derived.Test.YtgddmihojladfaaGreatDoorSfTake
import Derived.Test.YtgddmihojladfaaGreatDoorSfMath4
namespace Go.Proofs.YtgddmihojladfaaGreatDoor
open Go.RowKit Go.Shelf

/-- Block B holds these cells. -/
def CBox (W : World) (B : Nat) (t : TypeId) (cs : Array Value) : Prop := W.heap[B]? = some (.cells cs t (0, 0))
theorem CBox.new (W : World) (t : TypeId) (cs : Array Value) : CBox (W.alloc (.cells cs t)) W.heap.size t cs := World.alloc_heap_new W _
theorem CBox.lt {W : World} {B : Nat} {t : TypeId} {cs : Array Value} (h : CBox W B t cs) : B < W.heap.size := (Array.getElem?_eq_some_iff.1 h).1
theorem CBox.kept {W W' : World} {B : Nat} {t : TypeId} {cs : Array Value} {row : Option Nat} (h : CBox W B t cs) (hg : W.grownBy W' row) (hne : some B ≠ row) : CBox W' B t cs := (hg.block B h.lt hne).trans h
theorem CBox.below {W W' : World} {B C : Nat} {t : TypeId} {cs : Array Value} (h : CBox W B t cs) (hb : Below C W W') (hC : B < C) : CBox W' B t cs := (hb.block B hC).trans h
theorem CBox.keep {W W' : World} {B : Nat} {t : TypeId} {cs : Array Value} (h : CBox W B t cs) (hb : Below W.heap.size W W') : CBox W' B t cs := h.below hb h.lt
theorem CBox.alloc {W : World} {B : Nat} {t : TypeId} {cs : Array Value} (h : CBox W B t cs) (o : Obj) : CBox (W.alloc o) B t cs := h.kept (World.grownBy_alloc W o none) (by simp)
theorem CBox.c {W : World} {B : Nat} {t : TypeId} {cs : Array Value} (h : CBox W B t cs) (i : Nat) : W.cell? ⟨B, i, none⟩ = cs[i]? := by simp [World.cell?, show W.heap[B]? = _ from h]
theorem CBox.fr {W : World} {B : Nat} {t : TypeId} {cs : Array Value} (h : CBox W B t cs) (i : Nat) : W.frozen? ⟨B, i, none⟩ = false := by simp [World.frozen?, show W.heap[B]? = _ from h]
theorem CBox.other {W : World} {B C i : Nat} {t : TypeId} {cs : Array Value} {v : Value} (h : CBox W B t cs) (hne : C ≠ B) : CBox (W.setCell ⟨C, i, none⟩ v) B t cs := by
  have h' : W.heap[B]? = _ := h
  unfold CBox
  simp [World.setCell, Array.getElem?_modify, h', hne]
theorem CBox.set {W : World} {B i : Nat} {t : TypeId} {cs : Array Value} (h : CBox W B t cs) (v : Value) : CBox (W.setCell ⟨B, i, none⟩ v) B t (cs.setIfInBounds i v) := by
  have h' : W.heap[B]? = _ := h
  unfold CBox
  simp [World.setCell, Array.getElem?_modify, h']
theorem g_trans {a b c : World} {row : Option Nat} (h : a.grownBy b row) (k : b.grownBy c row) : a.grownBy c row :=
  ⟨k.os.trans h.os, k.tape.trans h.tape, k.output.trans h.output, Nat.le_trans h.size k.size, fun i hi hn => (k.block i (Nat.lt_of_lt_of_le hi h.size) hn).trans (h.block i hi hn)⟩
theorem g_alloc {a b : World} {row : Option Nat} (h : a.grownBy b row) (o : Obj) : a.grownBy (b.alloc o) row := g_trans h (World.grownBy_alloc b o row)
theorem g_set {a b : World} {row : Option Nat} (h : a.grownBy b row) {B i : Nat} (v : Value) (hB : a.heap.size ≤ B ∨ row = some B) : a.grownBy (b.setCell ⟨B, i, none⟩ v) row :=
  ⟨h.os, h.tape, h.output, by simp [World.setCell]; exact h.size, fun k hk hn => by
    have : k ≠ B := by rintro rfl; rcases hB with hB | hB; omega; exact hn hB.symm
    rw [Below.heap_setCell _ _ _ _ (by exact this)]; exact h.block k hk hn⟩
theorem g_below {a b c : World} {row : Option Nat} (h : a.grownBy b row) (hb : Below b.heap.size b c) : a.grownBy c row :=
  ⟨hb.os.trans h.os, hb.tape.trans h.tape, hb.output.trans h.output, Nat.le_trans h.size hb.size, fun k hk hn => (hb.block k (Nat.lt_of_lt_of_le hk h.size)).trans (h.block k hk hn)⟩
theorem g_refl (a : World) (row : Option Nat) : a.grownBy a row := ⟨rfl, rfl, rfl, Nat.le_refl _, fun _ _ _ => rfl⟩
/-- What has been turned beside a block of one's own is below. -/
theorem g_own {a b : World} {o : Obj} {B : Nat} (h : (a.alloc o).grownBy b (some B)) (hB : a.heap.size ≤ B) : Below a.heap.size a b :=
  ⟨h.os, h.tape, h.output, by have := h.size; simp at this; omega, fun k hk => by
    rw [h.block k (by simp; omega) (by intro e; cases e; omega)]; exact Below.heap_alloc _ _ _ hk⟩

def vC (v : Sf.Par) : Array Value := #[.int .i64 v.kind, .int .i64 v.n, .string (bA v.text)]
def pC (p : Sf.Par) : Array Value := #[.string (bA p.key), .int .i64 p.kind, .int .i64 p.n, .string (bA p.text)]
def iC (k n : Int) (t : List UInt8) (l : Value) : Array Value := #[.int .i64 k, .int .i64 n, .string (bA t), l]
/-- A value, a parameter, an item as the program has them. -/
def valV (v : Sf.Par) : Value := .agg (vC v)
def parV (p : Sf.Par) : Value := .agg (pC p)
def itmV (k n : Int) (t : List UInt8) (l : Value) : Value := .agg (iC k n t l)

set_option maxHeartbeats 1000000 in
theorem load_val {w : World} {B : Nat} {v : Sf.Par} (h : CBox w B 111 (vC v)) : (loadVar 111 ⟨B, 0, none⟩).run Tryz.prog w = .ok (valV v) w := by
  have c0 := h.c 0; have c1 := h.c 1; have c2 := h.c 2
  simp [vC] at c0 c1 c2
  simp [go_sem, c0, c1, c2, valV, vC]
set_option maxHeartbeats 1000000 in
theorem load_par {w : World} {B : Nat} {v : Sf.Par} (h : CBox w B 72 (pC v)) : (loadVar 72 ⟨B, 0, none⟩).run Tryz.prog w = .ok (parV v) w := by
  have c0 := h.c 0; have c1 := h.c 1; have c2 := h.c 2; have c3 := h.c 3
  simp [pC] at c0 c1 c2 c3
  simp [go_sem, c0, c1, c2, c3, parV, pC]
set_option maxHeartbeats 1000000 in
theorem load_itm {w : World} {B : Nat} {k n : Int} {t : List UInt8} {l : Value} (h : CBox w B 66 (iC k n t l)) : (loadVar 66 ⟨B, 0, none⟩).run Tryz.prog w = .ok (itmV k n t l) w := by
  have c0 := h.c 0; have c1 := h.c 1; have c2 := h.c 2; have c3 := h.c 3
  simp [iC] at c0 c1 c2 c3
  simp [go_sem, c0, c1, c2, c3, itmV, iC]
theorem results_val {fn : Func} {t : Tmp} (h : fn.results = #[.cell t 111]) (tmps : Array Value) (w : World) {B : Nat} {x : Sf.Par} (hp : tmps[t]?.getD undef = .pointer (some ⟨B, 0, none⟩)) (hb : CBox w B 111 (vC x)) :
    (results fn tmps).run Tryz.prog w = .ok (valV x) w := by
  have hl := load_val hb
  simp [results, h, hp, hl, asAddr]
theorem results_par {fn : Func} {t : Tmp} (h : fn.results = #[.cell t 72]) (tmps : Array Value) (w : World) {B : Nat} {x : Sf.Par} (hp : tmps[t]?.getD undef = .pointer (some ⟨B, 0, none⟩)) (hb : CBox w B 72 (pC x)) :
    (results fn tmps).run Tryz.prog w = .ok (parV x) w := by
  have hl := load_par hb
  simp [results, h, hp, hl, asAddr]
theorem results_itm {fn : Func} {t : Tmp} (h : fn.results = #[.cell t 66]) (tmps : Array Value) (w : World) {B : Nat} {k n : Int} {x : List UInt8} {l : Value} (hp : tmps[t]?.getD undef = .pointer (some ⟨B, 0, none⟩)) (hb : CBox w B 66 (iC k n x l)) :
    (results fn tmps).run Tryz.prog w = .ok (itmV k n x l) w := by
  have hl := load_itm hb
  simp [results, h, hp, hl, asAddr]

abbrev set3 (W : World) (B : Nat) (a b c : Value) : World := ((W.setCell ⟨B, 0, none⟩ a).setCell ⟨B, 1, none⟩ b).setCell ⟨B, 2, none⟩ c
abbrev set4 (W : World) (B : Nat) (a b c d : Value) : World := (((W.setCell ⟨B, 0, none⟩ a).setCell ⟨B, 1, none⟩ b).setCell ⟨B, 2, none⟩ c).setCell ⟨B, 3, none⟩ d
theorem CBox.set3 {W : World} {B : Nat} {t : TypeId} {x y z : Value} (h : CBox W B t #[x, y, z]) (a b c : Value) : CBox (set3 W B a b c) B t #[a, b, c] := (((h.set a).set b).set c)
theorem CBox.set4 {W : World} {B : Nat} {t : TypeId} {x y z u : Value} (h : CBox W B t #[x, y, z, u]) (a b c d : Value) : CBox (set4 W B a b c d) B t #[a, b, c, d] := ((((h.set a).set b).set c).set d)
theorem CBox.other3 {W : World} {B C : Nat} {t : TypeId} {cs : Array Value} (h : CBox W B t cs) (hne : C ≠ B) (a b c : Value) : CBox (Go.Proofs.YtgddmihojladfaaGreatDoor.set3 W C a b c) B t cs := ((h.other hne).other hne).other hne
theorem CBox.other4 {W : World} {B C : Nat} {t : TypeId} {cs : Array Value} (h : CBox W B t cs) (hne : C ≠ B) (a b c d : Value) : CBox (Go.Proofs.YtgddmihojladfaaGreatDoor.set4 W C a b c d) B t cs := (((h.other hne).other hne).other hne).other hne
theorem g_set3 {a b : World} {row : Option Nat} (h : a.grownBy b row) {B : Nat} (x y z : Value) (hB : a.heap.size ≤ B ∨ row = some B) : a.grownBy (set3 b B x y z) row := g_set (g_set (g_set h x hB) y hB) z hB
theorem g_set4 {a b : World} {row : Option Nat} (h : a.grownBy b row) {B : Nat} (x y z u : Value) (hB : a.heap.size ≤ B ∨ row = some B) : a.grownBy (set4 b B x y z u) row := g_set (g_set (g_set (g_set h x hB) y hB) z hB) u hB
theorem CBox.all3 {W : World} {B : Nat} {t : TypeId} {x y z : Value} (h : CBox W B t #[x, y, z]) : W.cell? ⟨B, 0, none⟩ = some x ∧ W.cell? ⟨B, 1, none⟩ = some y ∧ W.cell? ⟨B, 2, none⟩ = some z ∧ W.frozen? ⟨B, 0, none⟩ = false ∧ W.frozen? ⟨B, 1, none⟩ = false ∧ W.frozen? ⟨B, 2, none⟩ = false := ⟨h.c 0, h.c 1, h.c 2, h.fr 0, h.fr 1, h.fr 2⟩
theorem CBox.all4 {W : World} {B : Nat} {t : TypeId} {x y z u : Value} (h : CBox W B t #[x, y, z, u]) : W.cell? ⟨B, 0, none⟩ = some x ∧ W.cell? ⟨B, 1, none⟩ = some y ∧ W.cell? ⟨B, 2, none⟩ = some z ∧ W.cell? ⟨B, 3, none⟩ = some u ∧ W.frozen? ⟨B, 0, none⟩ = false ∧ W.frozen? ⟨B, 1, none⟩ = false ∧ W.frozen? ⟨B, 2, none⟩ = false ∧ W.frozen? ⟨B, 3, none⟩ = false := ⟨h.c 0, h.c 1, h.c 2, h.c 3, h.fr 0, h.fr 1, h.fr 2, h.fr 3⟩
end Go.Proofs.YtgddmihojladfaaGreatDoor
