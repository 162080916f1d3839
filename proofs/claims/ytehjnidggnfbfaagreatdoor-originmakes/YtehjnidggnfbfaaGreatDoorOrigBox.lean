/- Origins as plain data, as values and in memory. -/
import Derived.Test.YtehjnidggnfbfaaGreatDoorUrlpParse
import Derived.Test.YtehjnidggnfbfaaGreatDoorHostAll
import Derived.Laws.StructEq
import Derived.Maps.OwnSet
namespace Go.Proofs.YtehjnidggnfbfaaGreatDoor
open Go.RowKit

structure Orig where
  op : Bool
  id : Int
  scheme : List UInt8
  host : Hst.Host
  port : Int
def zeroO : Orig := ⟨false, 0, [], Hst.none_, 0⟩
/-- An origin that nobody else has. -/
def opaq (id : Int) : Orig := ⟨true, id, [], Hst.none_, 0⟩
/-- The fields that an origin of its kind has. -/
def bareO (o : Orig) : Orig := if o.op then opaq o.id else ⟨false, 0, o.scheme, o.host, o.port⟩
def eqO (a b : Orig) : Bool := a.op == b.op && (a.id == b.id && (a.scheme == b.scheme && ((a.host.name == b.host.name && (a.host.v4 == b.host.v4 && a.host.addr == b.host.addr)) && a.port == b.port)))
theorem eqO_iff {a b : Orig} : eqO a b = true ↔ a = b := by
  obtain ⟨o, i, s, ⟨n, v, d⟩, p⟩ := a
  obtain ⟨o', i', s', ⟨n', v', d'⟩, p'⟩ := b
  simp only [eqO, Bool.and_eq_true, beq_iff_eq, Orig.mk.injEq, Hst.Host.mk.injEq]
def sameO (a b : Orig) : Bool := eqO (bareO a) (bareO b)
theorem sameO_iff {a b : Orig} : sameO a b = true ↔ bareO a = bareO b := eqO_iff
theorem sameO_refl (a : Orig) : sameO a a = true := sameO_iff.2 rfl
theorem sameO_symm (a b : Orig) : sameO a b = sameO b a := by
  rw [Bool.eq_iff_iff, sameO_iff, sameO_iff]; exact eq_comm
theorem sameO_left {a b : Orig} (h : sameO a b = true) (c : Orig) : sameO a c = sameO b c := by
  unfold sameO; rw [sameO_iff.1 h]

def oCells (o : Orig) : Array Value := #[.bool o.op, .int .i64 o.id, .string (bA o.scheme), .string (bA o.host.name), .bool o.host.v4, .int .u32 o.host.addr, .int .i64 o.port]
/-- An origin as a value. -/
def origV (o : Orig) : Value := .agg (oCells o)
/-- A block that holds an origin. -/
def OBox (W : World) (B : Nat) (o : Orig) : Prop := W.heap[B]? = some (.cells (oCells o) 29 (0, 0))
theorem OBox.new (W : World) (o : Orig) : OBox (W.alloc (.cells (oCells o) 29)) W.heap.size o := World.alloc_heap_new W _
theorem OBox.lt {W : World} {B : Nat} {o : Orig} (h : OBox W B o) : B < W.heap.size := (Array.getElem?_eq_some_iff.1 h).1
theorem OBox.below {W W' : World} {B C : Nat} {o : Orig} (h : OBox W B o) (hb : Below C W W') (hC : B < C) : OBox W' B o := (hb.block B hC).trans h
theorem OBox.keep {W W' : World} {B : Nat} {o : Orig} (h : OBox W B o) (hb : Below W.heap.size W W') : OBox W' B o := h.below hb h.lt
theorem OBox.alloc {W : World} {B : Nat} {o : Orig} (h : OBox W B o) (x : Obj) : OBox (W.alloc x) B o := by
  have hl := h.lt
  have h' : W.heap[B]? = _ := h
  unfold OBox
  show (W.heap.push x)[B]? = _
  rw [Array.getElem?_push_lt hl, ← Array.getElem?_eq_getElem hl, h']
theorem OBox.c {W : World} {B : Nat} {o : Orig} (h : OBox W B o) (i : Nat) : W.cell? ⟨B, i, none⟩ = (oCells o)[i]? := by simp [World.cell?, show W.heap[B]? = _ from h]
theorem OBox.fr {W : World} {B : Nat} {o : Orig} (h : OBox W B o) (i : Nat) : W.frozen? ⟨B, i, none⟩ = false := by simp [World.frozen?, show W.heap[B]? = _ from h]
theorem OBox.c0 {W : World} {B : Nat} {o : Orig} (h : OBox W B o) : W.cell? ⟨B, 0, none⟩ = some (.bool o.op) := h.c 0
theorem OBox.c1 {W : World} {B : Nat} {o : Orig} (h : OBox W B o) : W.cell? ⟨B, 1, none⟩ = some (.int .i64 o.id) := h.c 1
theorem OBox.c2 {W : World} {B : Nat} {o : Orig} (h : OBox W B o) : W.cell? ⟨B, 2, none⟩ = some (.string (bA o.scheme)) := h.c 2
theorem OBox.c3 {W : World} {B : Nat} {o : Orig} (h : OBox W B o) : W.cell? ⟨B, 3, none⟩ = some (.string (bA o.host.name)) := h.c 3
theorem OBox.c4 {W : World} {B : Nat} {o : Orig} (h : OBox W B o) : W.cell? ⟨B, 4, none⟩ = some (.bool o.host.v4) := h.c 4
theorem OBox.c5 {W : World} {B : Nat} {o : Orig} (h : OBox W B o) : W.cell? ⟨B, 5, none⟩ = some (.int .u32 o.host.addr) := h.c 5
theorem OBox.c6 {W : World} {B : Nat} {o : Orig} (h : OBox W B o) : W.cell? ⟨B, 6, none⟩ = some (.int .i64 o.port) := h.c 6
theorem OBox.all {W : World} {B : Nat} {o : Orig} (h : OBox W B o) : W.cell? ⟨B, 0, none⟩ = some (.bool o.op) ∧ W.cell? ⟨B, 1, none⟩ = some (.int .i64 o.id) ∧ W.cell? ⟨B, 2, none⟩ = some (.string (bA o.scheme)) ∧ W.cell? ⟨B, 3, none⟩ = some (.string (bA o.host.name)) ∧ W.cell? ⟨B, 4, none⟩ = some (.bool o.host.v4) ∧ W.cell? ⟨B, 5, none⟩ = some (.int .u32 o.host.addr) ∧ W.cell? ⟨B, 6, none⟩ = some (.int .i64 o.port) :=
  ⟨h.c0, h.c1, h.c2, h.c3, h.c4, h.c5, h.c6⟩
/-- The seven cells are written anew. -/
def set7 (W : World) (B : Nat) (o : Orig) : World :=
  ((((((W.setCell ⟨B, 0, none⟩ (.bool o.op)).setCell ⟨B, 1, none⟩ (.int .i64 o.id)).setCell ⟨B, 2, none⟩ (.string (bA o.scheme))).setCell ⟨B, 3, none⟩ (.string (bA o.host.name))).setCell ⟨B, 4, none⟩ (.bool o.host.v4)).setCell ⟨B, 5, none⟩ (.int .u32 o.host.addr)).setCell ⟨B, 6, none⟩ (.int .i64 o.port)
theorem OBox.set {W : World} {B : Nat} {o : Orig} (h : OBox W B o) (v : Orig) : OBox (set7 W B v) B v := by
  have h' : W.heap[B]? = _ := h
  unfold OBox set7
  simp [World.setCell, Array.getElem?_modify, h', oCells]
theorem below_set7 {W W' : World} {C B : Nat} (h : Below C W W') (hC : C ≤ B) (o : Orig) : Below C W (set7 W' B o) :=
  ((((((h.setCell (p := ⟨B, 0, none⟩) hC _).setCell (p := ⟨B, 1, none⟩) hC _).setCell (p := ⟨B, 2, none⟩) hC _).setCell (p := ⟨B, 3, none⟩) hC _).setCell (p := ⟨B, 4, none⟩) hC _).setCell (p := ⟨B, 5, none⟩) hC _).setCell (p := ⟨B, 6, none⟩) hC _
theorem size_set7 (W : World) (B : Nat) (o : Orig) : (set7 W B o).heap.size = W.heap.size := by simp [set7, World.setCell]

set_option maxHeartbeats 1000000 in
theorem load_orig {w : World} {B : Nat} {x : Orig} (h : OBox w B x) : (loadVar 29 ⟨B, 0, none⟩).run Tryz.prog w = .ok (origV x) w := by
  have c0 := h.c0; have c1 := h.c1; have c2 := h.c2; have c3 := h.c3; have c4 := h.c4; have c5 := h.c5; have c6 := h.c6
  simp [go_sem, c0, c1, c2, c3, c4, c5, c6, origV, oCells]
theorem results_orig {fn : Func} {t : Tmp} (h : fn.results = #[.cell t 29]) (tmps : Array Value) (w : World) {B : Nat} {x : Orig} (hp : tmps[t]?.getD undef = .pointer (some ⟨B, 0, none⟩)) (hb : OBox w B x) :
    (results fn tmps).run Tryz.prog w = .ok (origV x) w := by
  have hl := load_orig hb
  simp [results, h, hp, hl, asAddr]

theorem bA_toList (l : List UInt8) : (bA l).toList = l := by rw [ByteArray.toList_eq]
set_option maxHeartbeats 1000000 in
theorem eqIn_orig (a b : Orig) (w : World) : (Op.equalIn 10000 29 (origV a) (origV b)).run Tryz.prog w = .ok (eqO a b) w := by
  unfold origV oCells
  simp [go_sem]
  unfold eqO
  (repeat' split) <;> simp_all

end Go.Proofs.YtehjnidggnfbfaaGreatDoor
