/- Parameters and items that lie somewhere; Parse's two answers: laws of worlds. -/
import Derived.Test.YtgddmihojladfaaGreatDoorSfParse
namespace Go.Proofs.YtgddmihojladfaaGreatDoor
open Go.RowKit Go.Shelf Go.Maps Go.Deep
def SeenP (w : World) (A : Option Addr) (l : List Sf.Par) : Prop := 0 < l.length → ∃ g o, A = some ⟨g, o, none⟩ ∧ g < w.heap.size ∧ ∀ i (h : i < l.length), w.cell? ⟨g, o + i * 4, none⟩ = some (.string (bA l[i].key)) ∧ w.cell? ⟨g, o + i * 4 + 1, none⟩ = some (.int .i64 l[i].kind) ∧ w.cell? ⟨g, o + i * 4 + 2, none⟩ = some (.int .i64 l[i].n) ∧ w.cell? ⟨g, o + i * 4 + 3, none⟩ = some (.string (bA l[i].text))
theorem SeenP.below {w w' : World} {A : Option Addr} {l : List Sf.Par} (h : SeenP w A l) (hb : Below w.heap.size w w') : SeenP w' A l := fun hn => by
  obtain ⟨g, o, rfl, hlt, hc⟩ := h hn
  refine ⟨g, o, rfl, Nat.lt_of_lt_of_le hlt hb.size, fun i hi => ?_⟩
  obtain ⟨h0, h1, h2, h3⟩ := hc i hi
  exact ⟨by rw [hb.cell hlt]; exact h0, by rw [hb.cell hlt]; exact h1, by rw [hb.cell hlt]; exact h2, by rw [hb.cell hlt]; exact h3⟩
/-- A list of one's own is seen. -/
theorem SeenP.own {w : World} {base : Nat} {A : Option Addr} {n c : Nat} {l : List Sf.Par} (h : w.ownsRow base 72 4 (.slice A n c) l.length (parsRow l)) : SeenP w A l := fun hn => by
  have hc := h
  obtain ⟨_, ⟨h1, h2⟩ | ⟨g, cap, cur, h1, hb, hg, _⟩⟩ := h
  · omega
  · cases h1
    refine ⟨g, 0, rfl, (Array.getElem?_eq_some_iff.1 hg).1, fun i hi => ?_⟩
    have hr := parsRow_at l i hi
    simp only [Nat.zero_add]
    exact ⟨(own_cell hc hr.1).1, (own_cell hc hr.2.1).1, (own_cell hc hr.2.2.1).1, (own_cell hc hr.2.2.2).1⟩

/-- Parse's two answers. -/
theorem parse_some {s : List UInt8} {x : Sf.Itm} (h : Sf.parse s = some x) (w : World) : Calls Tryz.prog 42 #[.string (bA s)] w fun e w' => ∃ A c, e = .returned (.tuple #[.agg #[.int .i64 x.kind, .int .i64 x.n, .string (bA x.text), .slice A x.params.length c], .int .i64 0]) ∧ Below w.heap.size w w' ∧ w'.ownsRow w.heap.size 72 4 (.slice A x.params.length c) x.params.length (parsRow x.params) := by
  refine (parse_any s w).mono ?_
  rintro e w' ⟨hb, ⟨y, v, ho, rfl, hw⟩ | ⟨ho, _⟩⟩
  · rw [h] at ho; cases ho
    obtain ⟨A, c, rfl⟩ := slice4 hw
    exact ⟨A, c, rfl, hb, hw⟩
  · rw [h] at ho; cases ho
theorem parse_none {s : List UInt8} (h : Sf.parse s = none) (w : World) : Calls Tryz.prog 42 #[.string (bA s)] w fun e w' => e = .returned (.tuple #[.agg #[.int .i64 0, .int .i64 0, .string ⟨#[]⟩, .slice none 0 0], .int .i64 50]) ∧ Below w.heap.size w w' := by
  refine (parse_any s w).mono ?_
  rintro e w' ⟨hb, ⟨y, v, ho, rfl, hw⟩ | ⟨_, rfl⟩⟩
  · rw [h] at ho; cases ho
  · exact ⟨rfl, hb⟩
def eqP (a b : Sf.Par) : Bool := a.key == b.key && (a.kind == b.kind && (a.n == b.n && a.text == b.text))
theorem eqP_iff {a b : Sf.Par} : eqP a b = true ↔ a = b := by
  obtain ⟨k, i, n, t⟩ := a
  obtain ⟨k', i', n', t'⟩ := b
  simp [eqP]
set_option maxHeartbeats 1000000 in
theorem eqIn_par (a b : Sf.Par) (w : World) : (Op.equalIn 10000 72 (parV a) (parV b)).run Tryz.prog w = .ok (eqP a b) w := by
  unfold parV pC
  simp [go_sem]
  unfold eqP
  (repeat' split) <;> simp_all

theorem owns_below4 {w w' : World} {base : Nat} {v : Value} {n : Nat} {xs : List Value} (h : w.ownsRow base 72 4 v n xs) (hb : Below w.heap.size w w') : w'.ownsRow base 72 4 v n xs :=
  h.kept (row := none) (below_g hb none) (by cases hv : v.ownBlock <;> simp)
/-- An item that is held: its block, and its parameters' row. -/
structure IBox (W : World) (B : Nat) (k n : Int) (t : List UInt8) (A : Option Addr) (c : Nat) (l : List Sf.Par) : Prop where
  box : CBox W B 66 (iC k n t (.slice A l.length c))
  row : ∃ base, W.ownsRow base 72 4 (.slice A l.length c) l.length (parsRow l)
theorem IBox.new {W : World} {base : Nat} {k n : Int} {t : List UInt8} {A : Option Addr} {c : Nat} {l : List Sf.Par} (h : W.ownsRow base 72 4 (.slice A l.length c) l.length (parsRow l)) : IBox (W.alloc (.cells (iC k n t (.slice A l.length c)) 66)) W.heap.size k n t A c l := ⟨CBox.new _ _ _, base, h.alloc _⟩
theorem IBox.keep {W W' : World} {B : Nat} {k n : Int} {t : List UInt8} {A : Option Addr} {c : Nat} {l : List Sf.Par} (h : IBox W B k n t A c l) (hb : Below W.heap.size W W') : IBox W' B k n t A c l := ⟨h.box.keep hb, let ⟨b, hr⟩ := h.row; ⟨b, owns_below4 hr hb⟩⟩
theorem IBox.alloc {W : World} {B : Nat} {k n : Int} {t : List UInt8} {A : Option Addr} {c : Nat} {l : List Sf.Par} (h : IBox W B k n t A c l) (o : Obj) : IBox (W.alloc o) B k n t A c l := h.keep ((Below.refl _ _).alloc (Nat.le_refl _) _)
theorem IBox.seen {W : World} {B : Nat} {k n : Int} {t : List UInt8} {A : Option Addr} {c : Nat} {l : List Sf.Par} (h : IBox W B k n t A c l) : SeenP W A l := let ⟨_, hr⟩ := h.row; SeenP.own hr
theorem IBox.cells {W : World} {B : Nat} {k n : Int} {t : List UInt8} {A : Option Addr} {c : Nat} {l : List Sf.Par} (h : IBox W B k n t A c l) : W.cell? ⟨B, 0, none⟩ = some (.int .i64 k) ∧ W.cell? ⟨B, 1, none⟩ = some (.int .i64 n) ∧ W.cell? ⟨B, 2, none⟩ = some (.string (bA t)) ∧ W.cell? ⟨B, 3, none⟩ = some (.slice A l.length c) := ⟨h.box.c 0, h.box.c 1, h.box.c 2, h.box.c 3⟩
theorem IBox.lt {W : World} {B : Nat} {k n : Int} {t : List UInt8} {A : Option Addr} {c : Nat} {l : List Sf.Par} (h : IBox W B k n t A c l) : B < W.heap.size := h.box.lt
theorem onto {w w1 w2 : World} (h1 : Below w.heap.size w w1) (h2 : Below w1.heap.size w1 w2) : Below w.heap.size w w2 := h1.trans (h2.mono h1.size)

theorem below_drew (w : World) (q : Nat) : Below w.heap.size w (w.drewN q) := ⟨rfl, rfl, rfl, Nat.le_refl _, fun _ _ => rfl⟩
theorem own_len4 {w : World} {base : Nat} {A : Option Addr} {n c : Nat} {xs : List Value} (h : w.ownsRow base 72 4 (.slice A n c) n xs) : n ≤ maxLen := by
  obtain ⟨_, ⟨h1, h2⟩ | ⟨g, cap, cur, _, hb, hg, h3, h4, h5, h6⟩⟩ := h
  · unfold maxLen; omega
  · omega
end Go.Proofs.YtgddmihojladfaaGreatDoor
