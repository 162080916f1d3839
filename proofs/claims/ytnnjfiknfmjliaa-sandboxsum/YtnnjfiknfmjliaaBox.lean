/- Blocks of cells that are one's own: what they hold, and how they are set. No sfitem. -/
import Derived.Test.YtnnjfiknfmjliaaBytes
import Derived.Test.YtnnjfiknfmjliaaOnto
import Derived.Below
import Derived.RangeFuncBox
namespace Go.Proofs.Ytnnjfiknfmjliaa
open Go.RowKit

/-- Block B holds these cells. -/
def CBox (W : World) (B : Nat) (t : TypeId) (cs : Array Value) : Prop := W.heap[B]? = some (.cells cs t (0, 0))
theorem CBox.new (W : World) (t : TypeId) (cs : Array Value) : CBox (W.alloc (.cells cs t)) W.heap.size t cs := World.alloc_heap_new W _
theorem CBox.lt {W : World} {B : Nat} {t : TypeId} {cs : Array Value} (h : CBox W B t cs) : B < W.heap.size := (Array.getElem?_eq_some_iff.1 h).1
theorem CBox.kept {W W' : World} {B : Nat} {t : TypeId} {cs : Array Value} {row : Option Nat} (h : CBox W B t cs) (hg : W.grownBy W' row) (hne : some B ≠ row) : CBox W' B t cs := (hg.block B h.lt hne).trans h
theorem CBox.below {W W' : World} {B C : Nat} {t : TypeId} {cs : Array Value} (h : CBox W B t cs) (hb : Below C W W') (hC : B < C) : CBox W' B t cs := (hb.block B hC).trans h
theorem CBox.keep {W W' : World} {B : Nat} {t : TypeId} {cs : Array Value} (h : CBox W B t cs) (hb : Below W.heap.size W W') : CBox W' B t cs := h.below hb h.lt
theorem CBox.alloc {W : World} {B : Nat} {t : TypeId} {cs : Array Value} (h : CBox W B t cs) (o : Obj) : CBox (W.alloc o) B t cs := h.kept (World.grownBy_alloc W o none) (by simp)
theorem CBox.c {W : World} {B : Nat} {t : TypeId} {cs : Array Value} (h : CBox W B t cs) (i : Nat) : W.cell? ⟨B, i, none⟩ = cs[i]? := by simp [World.cell?, show W.heap[B]? = _ from h]
theorem CBox.fr {W : World} {B : Nat} {t : TypeId} {cs : Array Value} (h : CBox W B t cs) (i : Nat) : W.frozen? ⟨B, i, none⟩ = false := by simp [World.frozen?, show W.heap[B]? = _ from h]
theorem CBox.other {W : World} {B C i : Nat} {t : TypeId} {cs : Array Value} {v : Value} (h : CBox W B t cs) (hne : C ≠ B) : CBox (W.setCell ⟨C, i, none⟩ v) B t cs := by
  have h' : W.heap[B]? = _ := h
  unfold CBox
  simp [World.setCell, Array.getElem?_modify, h', hne]
theorem CBox.set {W : World} {B i : Nat} {t : TypeId} {cs : Array Value} (h : CBox W B t cs) (v : Value) : CBox (W.setCell ⟨B, i, none⟩ v) B t (cs.setIfInBounds i v) := by
  have h' : W.heap[B]? = _ := h
  unfold CBox
  simp [World.setCell, Array.getElem?_modify, h']
theorem g_trans {a b c : World} {row : Option Nat} (h : a.grownBy b row) (k : b.grownBy c row) : a.grownBy c row :=
  ⟨k.os.trans h.os, k.tape.trans h.tape, k.output.trans h.output, Nat.le_trans h.size k.size, fun i hi hn => (k.block i (Nat.lt_of_lt_of_le hi h.size) hn).trans (h.block i hi hn)⟩
theorem g_alloc {a b : World} {row : Option Nat} (h : a.grownBy b row) (o : Obj) : a.grownBy (b.alloc o) row := g_trans h (World.grownBy_alloc b o row)
theorem g_set {a b : World} {row : Option Nat} (h : a.grownBy b row) {B i : Nat} (v : Value) (hB : a.heap.size ≤ B ∨ row = some B) : a.grownBy (b.setCell ⟨B, i, none⟩ v) row :=
  ⟨h.os, h.tape, h.output, by simp [World.setCell]; exact h.size, fun k hk hn => by
    have : k ≠ B := by rintro rfl; rcases hB with hB | hB; omega; exact hn hB.symm
    rw [Below.heap_setCell _ _ _ _ (by exact this)]; exact h.block k hk hn⟩
theorem g_below {a b c : World} {row : Option Nat} (h : a.grownBy b row) (hb : Below b.heap.size b c) : a.grownBy c row :=
  ⟨hb.os.trans h.os, hb.tape.trans h.tape, hb.output.trans h.output, Nat.le_trans h.size hb.size, fun k hk hn => (hb.block k (Nat.lt_of_lt_of_le hk h.size)).trans (h.block k hk hn)⟩
theorem g_refl (a : World) (row : Option Nat) : a.grownBy a row := ⟨rfl, rfl, rfl, Nat.le_refl _, fun _ _ _ => rfl⟩
/-- What has been turned beside a block of one's own is below. -/
theorem g_own {a b : World} {o : Obj} {B : Nat} (h : (a.alloc o).grownBy b (some B)) (hB : a.heap.size ≤ B) : Below a.heap.size a b :=
  ⟨h.os, h.tape, h.output, by have := h.size; simp at this; omega, fun k hk => by
    rw [h.block k (by simp; omega) (by intro e; cases e; omega)]; exact Below.heap_alloc _ _ _ hk⟩

abbrev set3 (W : World) (B : Nat) (a b c : Value) : World := ((W.setCell ⟨B, 0, none⟩ a).setCell ⟨B, 1, none⟩ b).setCell ⟨B, 2, none⟩ c
abbrev set4 (W : World) (B : Nat) (a b c d : Value) : World := (((W.setCell ⟨B, 0, none⟩ a).setCell ⟨B, 1, none⟩ b).setCell ⟨B, 2, none⟩ c).setCell ⟨B, 3, none⟩ d
theorem CBox.set3 {W : World} {B : Nat} {t : TypeId} {x y z : Value} (h : CBox W B t #[x, y, z]) (a b c : Value) : CBox (set3 W B a b c) B t #[a, b, c] := (((h.set a).set b).set c)
theorem CBox.set4 {W : World} {B : Nat} {t : TypeId} {x y z u : Value} (h : CBox W B t #[x, y, z, u]) (a b c d : Value) : CBox (set4 W B a b c d) B t #[a, b, c, d] := ((((h.set a).set b).set c).set d)
theorem CBox.other3 {W : World} {B C : Nat} {t : TypeId} {cs : Array Value} (h : CBox W B t cs) (hne : C ≠ B) (a b c : Value) : CBox (Go.Proofs.Ytnnjfiknfmjliaa.set3 W C a b c) B t cs := ((h.other hne).other hne).other hne
theorem CBox.other4 {W : World} {B C : Nat} {t : TypeId} {cs : Array Value} (h : CBox W B t cs) (hne : C ≠ B) (a b c d : Value) : CBox (Go.Proofs.Ytnnjfiknfmjliaa.set4 W C a b c d) B t cs := (((h.other hne).other hne).other hne).other hne
theorem g_set3 {a b : World} {row : Option Nat} (h : a.grownBy b row) {B : Nat} (x y z : Value) (hB : a.heap.size ≤ B ∨ row = some B) : a.grownBy (set3 b B x y z) row := g_set (g_set (g_set h x hB) y hB) z hB
theorem g_set4 {a b : World} {row : Option Nat} (h : a.grownBy b row) {B : Nat} (x y z u : Value) (hB : a.heap.size ≤ B ∨ row = some B) : a.grownBy (set4 b B x y z u) row := g_set (g_set (g_set (g_set h x hB) y hB) z hB) u hB
theorem CBox.all3 {W : World} {B : Nat} {t : TypeId} {x y z : Value} (h : CBox W B t #[x, y, z]) : W.cell? ⟨B, 0, none⟩ = some x ∧ W.cell? ⟨B, 1, none⟩ = some y ∧ W.cell? ⟨B, 2, none⟩ = some z ∧ W.frozen? ⟨B, 0, none⟩ = false ∧ W.frozen? ⟨B, 1, none⟩ = false ∧ W.frozen? ⟨B, 2, none⟩ = false := ⟨h.c 0, h.c 1, h.c 2, h.fr 0, h.fr 1, h.fr 2⟩
theorem CBox.all4 {W : World} {B : Nat} {t : TypeId} {x y z u : Value} (h : CBox W B t #[x, y, z, u]) : W.cell? ⟨B, 0, none⟩ = some x ∧ W.cell? ⟨B, 1, none⟩ = some y ∧ W.cell? ⟨B, 2, none⟩ = some z ∧ W.cell? ⟨B, 3, none⟩ = some u ∧ W.frozen? ⟨B, 0, none⟩ = false ∧ W.frozen? ⟨B, 1, none⟩ = false ∧ W.frozen? ⟨B, 2, none⟩ = false ∧ W.frozen? ⟨B, 3, none⟩ = false := ⟨h.c 0, h.c 1, h.c 2, h.c 3, h.fr 0, h.fr 1, h.fr 2, h.fr 3⟩
theorem grow_of {a b : World} (h : Below a.heap.size a b) (row : Option Nat) : a.grownBy b row := ⟨h.os, h.tape, h.output, h.size, fun k hk _ => h.block k hk⟩
theorem of_grow {a b : World} (h : a.grownBy b none) : Below a.heap.size a b := ⟨h.os, h.tape, h.output, h.size, fun k hk => h.block k hk (by simp)⟩
theorem cells_new (w : World) (cs : Array Value) (t : TypeId) : ∀ j u, cs.toList[j]? = some u → (w.alloc (.cells cs t)).cell? ((⟨w.heap.size, 0, none⟩ : Addr).add j) = some u := by
  intro j u hu
  have hb := CBox.new w t cs
  have : ((⟨w.heap.size, 0, none⟩ : Addr).add j) = ⟨w.heap.size, j, none⟩ := by simp [Addr.add]; omega
  rw [this, hb.c j]
  simpa using hu
/-- Blocks whose elements are of that type stay as they are. -/
def KeptT (e : TypeId) (w w' : World) : Prop := ∀ (g : Nat) (cur : Array Value), w.heap[g]? = some (.cells cur e (0, 0)) → w'.heap[g]? = some (.cells cur e (0, 0))
theorem KeptT.refl (e : TypeId) (w : World) : KeptT e w w := fun _ _ h => h
theorem KeptT.trans {e : TypeId} {a b c : World} (h : KeptT e a b) (k : KeptT e b c) : KeptT e a c := fun g cur x => k g cur (h g cur x)
theorem KeptT.below {e : TypeId} {w w' : World} (h : Below w.heap.size w w') : KeptT e w w' := fun g _ hg => (h.block g (Array.getElem?_eq_some_iff.1 hg).1).trans hg
theorem KeptT.alloc (e : TypeId) (w : World) (o : Obj) : KeptT e w (w.alloc o) := .below ((Below.refl _ _).alloc (Nat.le_refl _) o)
theorem KeptT.row {e e' : TypeId} (hne : e ≠ e') {w w' : World} {base size n : Nat} {v : Value} {xs : List Value} (h : w.ownsRow base e' size v n xs) (hg : w.grownBy w' v.ownBlock) : KeptT e w w' := fun g cur hc => by
  have hlt := (Array.getElem?_eq_some_iff.1 hc).1
  refine (hg.block g hlt ?_).trans hc
  intro hb
  obtain ⟨_, ⟨rfl, _⟩ | ⟨g', cap, cur', rfl, _, hg', _⟩⟩ := h
  · cases hb
  · cases hb
    rw [hg'] at hc
    cases hc
    exact hne rfl
theorem KeptT.box {e e' : TypeId} (hne : e ≠ e') {w w' : World} {B : Nat} {cs : Array Value} (h : CBox w B e' cs) (hg : w.grownBy w' (some B)) : KeptT e w w' := fun g cur hc => by
  have hlt := (Array.getElem?_eq_some_iff.1 hc).1
  refine (hg.block g hlt ?_).trans hc
  intro hb
  cases hb
  have h' : w.heap[B]? = _ := h
  rw [h'] at hc
  cases hc
  exact hne rfl
theorem owns_keptT {e : TypeId} {w w' : World} {base size n : Nat} {v : Value} {xs : List Value} (h : w.ownsRow base e size v n xs) (hk : KeptT e w w') : w'.ownsRow base e size v n xs := by
  obtain ⟨h1, h2 | ⟨g, cap, cur, a, b, c, r⟩⟩ := h
  · exact ⟨h1, .inl h2⟩
  · exact ⟨h1, .inr ⟨g, cap, cur, a, b, hk g cur c, r⟩⟩
theorem cells_new2 (w : World) (o : Obj) (cs : Array Value) (t : TypeId) : ∀ j u, cs.toList[j]? = some u → ((w.alloc o).alloc (.cells cs t)).cell? ((⟨w.heap.size + 1, 0, none⟩ : Addr).add j) = some u := by
  have := cells_new (w.alloc o) cs t
  rw [World.size_alloc] at this
  exact this
end Go.Proofs.Ytnnjfiknfmjliaa
