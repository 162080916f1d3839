/- Texts of one layer, joined. -/
import Derived.Test.YtogjekjklknfeaaGreatDoorPkMem
import Derived.Test.YtogjekjklknfeaaGreatDoorPkSame
import Derived.Test.YtogjekjklknfeaaGreatDoorPkCol
import Derived.Test.YtogjekjklknfeaaGreatDoorPkTxt
import Derived.Laws.AppendOwnNone

/- The contracts of the document's items and Same: are two lists of items, of members the same? -/
namespace Go.Proofs.YtogjekjklknfeaaGreatDoor
open Go.RowKit Go.Shelf Go.Maps Go.Deep

instance : DecidableEq Sf.Mem := fun a b => decidable_of_iff (a.key = b.key ∧ a.inner = b.inner ∧ a.item = b.item ∧ a.items = b.items ∧ a.params = b.params) ⟨fun h => by obtain ⟨k, n, t, l, p⟩ := a; obtain ⟨k', n', t', l', p'⟩ := b; obtain ⟨h1, h2, h3, h4, h5⟩ := h; simp only at h1 h2 h3 h4 h5; rw [h1, h2, h3, h4, h5], fun h => by rw [h]; exact ⟨rfl, rfl, rfl, rfl, rfl⟩⟩
section
variable {α : Type} [DecidableEq α] {l m : List α} {k : Nat}
theorem ls_miss (h1 : k < l.length) (h2 : k < m.length) {x y : α} (hx : l[k] = x) (hy : m[k] = y) (hne : decide (x = y) = false) : decide (l = m) = false := by
  apply decide_eq_false
  rintro rfl
  rw [hx] at hy; subst hy
  simp at hne
theorem ls_next (h1 : k < l.length) (h2 : k < m.length) {x y : α} (hx : l[k] = x) (hy : m[k] = y) (he : decide (x = y) = true) (h : l.take k = m.take k) : l.take (k + 1) = m.take (k + 1) := by
  rw [List.take_succ_eq_append_getElem h1, List.take_succ_eq_append_getElem h2, h, hx, hy, of_decide_eq_true he]
theorem ls_end (hk : l.length ≤ k) (hl : l.length = m.length) (h : l.take k = m.take k) : decide (l = m) = true := by
  apply decide_eq_true
  rw [List.take_of_length_le hk, List.take_of_length_le (by omega)] at h
  exact h
end
/-- Two items' cells, while they are compared. -/
structure RdyS (wr : World) (g1 o1 g2 o2 : Nat) (x y : Sf.Itm) (v u : Value) (W : World) : Prop where
  l1 : g1 < wr.heap.size
  l2 : g2 < wr.heap.size
  b : Below wr.heap.size wr W
  c : Cells4 W g1 o1 x v
  d : Cells4 W g2 o2 y u
theorem RdyS.drew {wr : World} {g1 o1 g2 o2 : Nat} {x y : Sf.Itm} {v u : Value} {W : World} (h : RdyS wr g1 o1 g2 o2 x y v u W) : RdyS wr g1 o1 g2 o2 x y v u W.drew := ⟨h.l1, h.l2, h.b.drew, h.c, h.d⟩
theorem RdyS.on {wr : World} {g1 o1 g2 o2 : Nat} {x y : Sf.Itm} {v u : Value} {W W' : World} (h : RdyS wr g1 o1 g2 o2 x y v u W) (hb : Below W.heap.size W W') : RdyS wr g1 o1 g2 o2 x y v u W' :=
  ⟨h.l1, h.l2, onto h.b hb, h.c.below (Nat.lt_of_lt_of_le h.l1 h.b.size) hb, h.d.below (Nat.lt_of_lt_of_le h.l2 h.b.size) hb⟩
theorem RdyS.all {wr : World} {g1 o1 g2 o2 : Nat} {x y : Sf.Itm} {v u : Value} {W : World} (h : RdyS wr g1 o1 g2 o2 x y v u W) :
    W.cell? ⟨g1, o1, none⟩ = some (.int .i64 x.kind) ∧ W.cell? ⟨g1, o1 + 1, none⟩ = some (.int .i64 x.n) ∧ W.cell? ⟨g1, o1 + 2, none⟩ = some (.string (bA x.text)) ∧ W.cell? ⟨g1, o1 + 3, none⟩ = some v ∧
    W.cell? ⟨g2, o2, none⟩ = some (.int .i64 y.kind) ∧ W.cell? ⟨g2, o2 + 1, none⟩ = some (.int .i64 y.n) ∧ W.cell? ⟨g2, o2 + 2, none⟩ = some (.string (bA y.text)) ∧ W.cell? ⟨g2, o2 + 3, none⟩ = some u ∧ RdyS wr g1 o1 g2 o2 x y v u W := ⟨h.c.1, h.c.2.1, h.c.2.2.1, h.c.2.2.2, h.d.1, h.d.2.1, h.d.2.2.1, h.d.2.2.2, h⟩
set_option maxHeartbeats 4000000 in
set_option maxRecDepth 100000 in
theorem ritems_any (A B : Option Addr) (c d : Nat) (l m : List Sf.Itm) (w : World) (hA : SeenI w A l) (hB : SeenI w B m) (hm : l.length ≤ maxLen) :
    Calls Tryz.prog 28 #[.slice A l.length c, .slice B m.length d] w fun e w' => e = .returned (.bool (decide (l = m))) ∧ Below w.heap.size w w' := by
  unfold maxLen at hm
  by_cases hl : l.length = m.length
  · have HA := Lib.hid hA
    have HB := Lib.hid hB
    have HL := Lib.hid hl
    rw [← hl]
    have h0 : ((l.length : Int) != (l.length : Int)) = false := by simp
    clear hA hB hl
    go_enter Tryz.func28, Tryz.ntmps28
    go_wp2_with fail
    clear h0
    go_loopg [5] l.length (fun k i wr => ∃ j : Nat, l.length - j = k ∧ j ≤ l.length ∧ i = .int .i64 j ∧ Below w.heap.size w wr ∧ Hid (l.take j = m.take j))
    case atStart => exact ⟨0, rfl, Nat.zero_le _, rfl, Below.refl _ _, rfl⟩
    case round =>
      obtain ⟨j, hk, hj, rfl, hb, hin⟩ := hrel
      have HW := Lib.hid hb
      clear hb
      by_cases hjl : j < l.length
      · have hjm : j < m.length := by rw [← HL.out]; exact hjl
        obtain ⟨g1, o1, rfl, hg1, hc1⟩ := HA.out.below HW.out (by omega)
        obtain ⟨g2, o2, rfl, hg2, hc2⟩ := HB.out.below HW.out (by omega)
        obtain ⟨v, hv, hx4⟩ := hc1 j hjl
        obtain ⟨u, hu, hy4⟩ := hc2 j hjm
        obtain ⟨x, hx⟩ : ∃ x, l[j] = x := ⟨_, rfl⟩
        obtain ⟨y, hy⟩ : ∃ y, m[j] = y := ⟨_, rfl⟩
        rw [hx] at hv hx4
        rw [hy] at hu hy4
        obtain ⟨A1, c1, rfl, hs1⟩ := hv.is
        obtain ⟨B1, d1, rfl, hs2⟩ := hu.is
        have hln := hv.len
        have hr1 : RdyS wr g1 (o1 + j * 4) g2 (o2 + j * 4) x y (.slice A1 x.params.length c1) (.slice B1 y.params.length d1) wr := ⟨hg1, hg2, Below.refl _ _, hx4, hy4⟩
        have H2 := Lib.hid (fun W (h : RdyS wr g1 (o1 + j * 4) g2 (o2 + j * 4) x y (.slice A1 x.params.length c1) (.slice B1 y.params.length d1) W) => same_any x.kind x.n y.kind y.n x.text y.text A1 B1 c1 d1 x.params y.params W (hs1.below h.b) (hs2.below h.b) hln)
        obtain ⟨b, hbe⟩ : ∃ b, decide (x = y) = b := ⟨_, rfl⟩
        have hbe' : decide ((⟨x.kind, x.n, x.text, x.params⟩ : Sf.Itm) = ⟨y.kind, y.n, y.text, y.params⟩) = b := hbe
        rw [hbe'] at H2
        have HX := Lib.hid hx; have HY := Lib.hid hy; have HE := Lib.hid hbe
        clear hbe hbe' hx hy hv hu hx4 hy4 hs1 hs2 hc1 hc2 hln
        obtain ⟨a0, a1, a2, a3, b0, b1, b2, b3, _⟩ := hr1.all
        go_wp2_with fail
        go_region_held3 (fun w' => w'.cell? ⟨g1, o1 + j * 4, none⟩ = some (.int .i64 x.kind) ∧ w'.cell? ⟨g1, o1 + j * 4 + 1, none⟩ = some (.int .i64 x.n) ∧ w'.cell? ⟨g1, o1 + j * 4 + 2, none⟩ = some (.string (bA x.text)) ∧ w'.cell? ⟨g1, o1 + j * 4 + 3, none⟩ = some (.slice A1 x.params.length c1) ∧
            w'.cell? ⟨g2, o2 + j * 4, none⟩ = some (.int .i64 y.kind) ∧ w'.cell? ⟨g2, o2 + j * 4 + 1, none⟩ = some (.int .i64 y.n) ∧ w'.cell? ⟨g2, o2 + j * 4 + 2, none⟩ = some (.string (bA y.text)) ∧ w'.cell? ⟨g2, o2 + j * 4 + 3, none⟩ = some (.slice B1 y.params.length d1) ∧ RdyS wr g1 (o1 + j * 4) g2 (o2 + j * 4) x y (.slice A1 x.params.length c1) (.slice B1 y.params.length d1) w')
          (first
            | exact hr1.all
            | exact hr1.drew.all
            | exact hr3.all)
          (first
            | (go_at_call 27; refine (H2.out _ hr1.drew).mono ?_; rintro e w3 ⟨rfl, hb3⟩; have hr3 := hr1.drew.on hb3))
        rename_i hHeld
        have HB3 := Lib.hid (onto HW.out hr3.b)
        clear hHeld hr3 hb3 hr1 H2 a0 a1 a2 a3 b0 b1 b2 b3
        cases b with
        | false =>
          go_wp2_with fail
          go_ret
          exact ⟨Oct.ret_bool (ls_miss hjl hjm HX.out HY.out HE.out).symm, HB3.out⟩
        | true =>
          go_wp2_with fail
          go_roundg (l.length - (j + 1))
          case measure => omega
          case rel => exact ⟨j + 1, rfl, by omega, by go_num, HB3.out, ls_next hjl hjm HX.out HY.out HE.out hin.out⟩
      · go_wp2_with fail
        go_ret
        exact ⟨Oct.ret_bool (ls_end (by omega) HL.out hin.out).symm, HW.out⟩
  · have hne : decide (l = m) = false := by
      apply decide_eq_false
      rintro rfl
      exact hl rfl
    rw [hne]
    have h0 : ((l.length : Int) != (m.length : Int)) = true := by simp; omega
    obtain ⟨a, ha⟩ : ∃ a, l.length = a := ⟨_, rfl⟩
    obtain ⟨b, hb⟩ : ∃ b, m.length = b := ⟨_, rfl⟩
    rw [ha, hb] at h0 ⊢
    clear hA hB hl hm hne ha hb
    go_enter Tryz.func28, Tryz.ntmps28
    go_wp2_with fail
    go_ret
    exact ⟨rfl, Below.refl _ _⟩

/-- Two members' cells, while they are compared. -/
structure RdyQ (wr : World) (g1 o1 g2 o2 : Nat) (x y : Sf.Mem) (v1 v2 v3 u1 u2 u3 : Value) (W : World) : Prop where
  l1 : g1 < wr.heap.size
  l2 : g2 < wr.heap.size
  b : Below wr.heap.size wr W
  c : Cells8 W g1 o1 x v1 v2 v3
  d : Cells8 W g2 o2 y u1 u2 u3
theorem RdyQ.drew {wr : World} {g1 o1 g2 o2 : Nat} {x y : Sf.Mem} {v1 v2 v3 u1 u2 u3 : Value} {W : World} (h : RdyQ wr g1 o1 g2 o2 x y v1 v2 v3 u1 u2 u3 W) : RdyQ wr g1 o1 g2 o2 x y v1 v2 v3 u1 u2 u3 W.drew := ⟨h.l1, h.l2, h.b.drew, h.c, h.d⟩
theorem RdyQ.drewN {wr : World} {g1 o1 g2 o2 : Nat} {x y : Sf.Mem} {v1 v2 v3 u1 u2 u3 : Value} {W : World} (h : RdyQ wr g1 o1 g2 o2 x y v1 v2 v3 u1 u2 u3 W) (q : Nat) : RdyQ wr g1 o1 g2 o2 x y v1 v2 v3 u1 u2 u3 (W.drewN q) := ⟨h.l1, h.l2, onto h.b (below_drew _ _), h.c, h.d⟩
theorem RdyQ.on {wr : World} {g1 o1 g2 o2 : Nat} {x y : Sf.Mem} {v1 v2 v3 u1 u2 u3 : Value} {W W' : World} (h : RdyQ wr g1 o1 g2 o2 x y v1 v2 v3 u1 u2 u3 W) (hb : Below W.heap.size W W') : RdyQ wr g1 o1 g2 o2 x y v1 v2 v3 u1 u2 u3 W' :=
  ⟨h.l1, h.l2, onto h.b hb, h.c.below (Nat.lt_of_lt_of_le h.l1 h.b.size) hb, h.d.below (Nat.lt_of_lt_of_le h.l2 h.b.size) hb⟩
/-- The cells that each comparison reads. -/
def CellsI2 (W : World) (g1 o1 g2 o2 : Nat) (x y : Sf.Mem) (v u : Value) : Prop :=
  W.cell? ⟨g1, o1 + 2, none⟩ = some (.int .i64 x.item.kind) ∧ W.cell? ⟨g1, o1 + 3, none⟩ = some (.int .i64 x.item.n) ∧ W.cell? ⟨g1, o1 + 4, none⟩ = some (.string (bA x.item.text)) ∧ W.cell? ⟨g1, o1 + 5, none⟩ = some v ∧
  W.cell? ⟨g2, o2 + 2, none⟩ = some (.int .i64 y.item.kind) ∧ W.cell? ⟨g2, o2 + 3, none⟩ = some (.int .i64 y.item.n) ∧ W.cell? ⟨g2, o2 + 4, none⟩ = some (.string (bA y.item.text)) ∧ W.cell? ⟨g2, o2 + 5, none⟩ = some u
theorem mem_eq (x y : Sf.Mem) : decide (x = y) = (decide (x.item = y.item) && (decide (x.items = y.items) && (decide (x.params = y.params) && (x.key == y.key && x.inner == y.inner)))) := by
  obtain ⟨k, i, t, l, p⟩ := x
  obtain ⟨k', i', t', l', p'⟩ := y
  rw [Bool.eq_iff_iff]
  simp
  constructor
  · rintro ⟨a, b, c, d, e⟩; exact ⟨c, d, e, a, b⟩
  · rintro ⟨c, d, e, a, b⟩; exact ⟨a, b, c, d, e⟩
end Go.Proofs.YtogjekjklknfeaaGreatDoor

/- The contract of the document's Same: are two lists of members the same? (Written by mks.py.) -/

namespace Go.Proofs.YtogjekjklknfeaaGreatDoor
open Go.RowKit Go.Shelf Go.Maps Go.Deep

theorem RdyQ.i4 {wr : World} {g1 o1 g2 o2 : Nat} {x y : Sf.Mem} {v1 v2 v3 u1 u2 u3 : Value} {W : World} (h : RdyQ wr g1 o1 g2 o2 x y v1 v2 v3 u1 u2 u3 W) : W.cell? ⟨g1, o1 + 2, none⟩ = some (.int .i64 x.item.kind) ∧ W.cell? ⟨g1, o1 + 3, none⟩ = some (.int .i64 x.item.n) ∧ W.cell? ⟨g1, o1 + 4, none⟩ = some (.string (bA x.item.text)) ∧ W.cell? ⟨g1, o1 + 5, none⟩ = some (v1) ∧ W.cell? ⟨g2, o2 + 2, none⟩ = some (.int .i64 y.item.kind) ∧ W.cell? ⟨g2, o2 + 3, none⟩ = some (.int .i64 y.item.n) ∧ W.cell? ⟨g2, o2 + 4, none⟩ = some (.string (bA y.item.text)) ∧ W.cell? ⟨g2, o2 + 5, none⟩ = some (u1) ∧ RdyQ wr g1 o1 g2 o2 x y v1 v2 v3 u1 u2 u3 W := ⟨h.c.2.2.1, h.c.2.2.2.1, h.c.2.2.2.2.1, h.c.2.2.2.2.2.1, h.d.2.2.1, h.d.2.2.2.1, h.d.2.2.2.2.1, h.d.2.2.2.2.2.1, h⟩
theorem RdyQ.i6 {wr : World} {g1 o1 g2 o2 : Nat} {x y : Sf.Mem} {v1 v2 v3 u1 u2 u3 : Value} {W : World} (h : RdyQ wr g1 o1 g2 o2 x y v1 v2 v3 u1 u2 u3 W) : W.cell? ⟨g1, o1 + 6, none⟩ = some (v2) ∧ W.cell? ⟨g2, o2 + 6, none⟩ = some (u2) ∧ RdyQ wr g1 o1 g2 o2 x y v1 v2 v3 u1 u2 u3 W := ⟨h.c.2.2.2.2.2.2.1, h.d.2.2.2.2.2.2.1, h⟩
theorem RdyQ.i7 {wr : World} {g1 o1 g2 o2 : Nat} {x y : Sf.Mem} {v1 v2 v3 u1 u2 u3 : Value} {W : World} (h : RdyQ wr g1 o1 g2 o2 x y v1 v2 v3 u1 u2 u3 W) : W.cell? ⟨g1, o1 + 7, none⟩ = some (v3) ∧ W.cell? ⟨g2, o2 + 7, none⟩ = some (u3) ∧ RdyQ wr g1 o1 g2 o2 x y v1 v2 v3 u1 u2 u3 W := ⟨h.c.2.2.2.2.2.2.2, h.d.2.2.2.2.2.2.2, h⟩
theorem RdyQ.i0 {wr : World} {g1 o1 g2 o2 : Nat} {x y : Sf.Mem} {v1 v2 v3 u1 u2 u3 : Value} {W : World} (h : RdyQ wr g1 o1 g2 o2 x y v1 v2 v3 u1 u2 u3 W) : W.cell? ⟨g1, o1, none⟩ = some (.string (bA x.key)) ∧ W.cell? ⟨g1, o1 + 1, none⟩ = some (.bool x.inner) ∧ W.cell? ⟨g2, o2, none⟩ = some (.string (bA y.key)) ∧ W.cell? ⟨g2, o2 + 1, none⟩ = some (.bool y.inner) ∧ RdyQ wr g1 o1 g2 o2 x y v1 v2 v3 u1 u2 u3 W := ⟨h.c.1, h.c.2.1, h.d.1, h.d.2.1, h⟩
set_option maxHeartbeats 8000000 in
set_option maxRecDepth 100000 in
theorem rsame_any (A B : Option Addr) (c d : Nat) (l m : List Sf.Mem) (w : World) (hA : SeenM w A l) (hB : SeenM w B m) (hm : l.length ≤ maxLen) :
    Calls Tryz.prog 14 #[.slice A l.length c, .slice B m.length d] w fun e w' => e = .returned (.bool (decide (l = m))) ∧ Below w.heap.size w w' := by
  unfold maxLen at hm
  by_cases hl : l.length = m.length
  · have HA := Lib.hid hA
    have HB := Lib.hid hB
    have HL := Lib.hid hl
    rw [← hl]
    have h0 : ((l.length : Int) != (l.length : Int)) = false := by simp
    clear hA hB hl
    go_enter Tryz.func14, Tryz.ntmps14
    go_wp2_with fail
    clear h0
    go_loopg [5] l.length (fun k i wr => ∃ j : Nat, l.length - j = k ∧ j ≤ l.length ∧ i = .int .i64 j ∧ Below w.heap.size w wr ∧ Hid (l.take j = m.take j))
    case atStart => exact ⟨0, rfl, Nat.zero_le _, rfl, Below.refl _ _, rfl⟩
    case round =>
      obtain ⟨j, hk, hj, rfl, hb, hin⟩ := hrel
      have HW := Lib.hid hb
      clear hb
      by_cases hjl : j < l.length
      · have hjm : j < m.length := by rw [← HL.out]; exact hjl
        obtain ⟨g1, o1, rfl, hg1, hc1⟩ := HA.out.below HW.out (by omega)
        obtain ⟨g2, o2, rfl, hg2, hc2⟩ := HB.out.below HW.out (by omega)
        obtain ⟨v1, v2, v3, hv, hx8⟩ := hc1 j hjl
        obtain ⟨u1, u2, u3, hu, hy8⟩ := hc2 j hjm
        obtain ⟨x, hx⟩ : ∃ x, l[j] = x := ⟨_, rfl⟩
        obtain ⟨y, hy⟩ : ∃ y, m[j] = y := ⟨_, rfl⟩
        rw [hx] at hv hx8
        rw [hy] at hu hy8
        obtain ⟨A1, p1, rfl, hs1⟩ := hv.item.is
        obtain ⟨A2, p2, rfl, hs2⟩ := hv.items.is
        obtain ⟨A3, p3, rfl, hs3⟩ := hv.params.is
        obtain ⟨B1, q1, rfl, ht1⟩ := hu.item.is
        obtain ⟨B2, q2, rfl, ht2⟩ := hu.items.is
        obtain ⟨B3, q3, rfl, ht3⟩ := hu.params.is
        have hr1 : RdyQ wr g1 (o1 + j * 8) g2 (o2 + j * 8) x y (.slice A1 x.item.params.length p1) (.slice A2 x.items.length p2) (.slice A3 x.params.length p3) (.slice B1 y.item.params.length q1) (.slice B2 y.items.length q2) (.slice B3 y.params.length q3) wr := ⟨hg1, hg2, Below.refl _ _, hx8, hy8⟩
        have h2 := fun W (h : RdyQ wr g1 (o1 + j * 8) g2 (o2 + j * 8) x y (.slice A1 x.item.params.length p1) (.slice A2 x.items.length p2) (.slice A3 x.params.length p3) (.slice B1 y.item.params.length q1) (.slice B2 y.items.length q2) (.slice B3 y.params.length q3) W) => same_any x.item.kind x.item.n y.item.kind y.item.n x.item.text y.item.text A1 B1 p1 q1 x.item.params y.item.params W (hs1.below h.b) (ht1.below h.b) hv.item.len
        have h3 := fun W (h : RdyQ wr g1 (o1 + j * 8) g2 (o2 + j * 8) x y (.slice A1 x.item.params.length p1) (.slice A2 x.items.length p2) (.slice A3 x.params.length p3) (.slice B1 y.item.params.length q1) (.slice B2 y.items.length q2) (.slice B3 y.params.length q3) W) => ritems_any A2 B2 p2 q2 x.items y.items W (hs2.below h.b) (ht2.below h.b) hv.items.len
        have h4 := fun W (h : RdyQ wr g1 (o1 + j * 8) g2 (o2 + j * 8) x y (.slice A1 x.item.params.length p1) (.slice A2 x.items.length p2) (.slice A3 x.params.length p3) (.slice B1 y.item.params.length q1) (.slice B2 y.items.length q2) (.slice B3 y.params.length q3) W) => sameP_any A3 B3 p3 q3 x.params y.params W (hs3.below h.b) (ht3.below h.b) hv.params.len
        have hme := mem_eq x y
        obtain ⟨b1, hb1⟩ : ∃ b, decide (x.item = y.item) = b := ⟨_, rfl⟩
        have hb1' : decide ((⟨x.item.kind, x.item.n, x.item.text, x.item.params⟩ : Sf.Itm) = ⟨y.item.kind, y.item.n, y.item.text, y.item.params⟩) = b1 := hb1
        obtain ⟨b2, hb2⟩ : ∃ b, decide (x.items = y.items) = b := ⟨_, rfl⟩
        obtain ⟨b3, hb3⟩ : ∃ b, decide (x.params = y.params) = b := ⟨_, rfl⟩
        obtain ⟨b, hbe⟩ : ∃ b, decide (x = y) = b := ⟨_, rfl⟩
        rw [hb1'] at h2
        rw [hb2] at h3
        rw [hb3] at h4
        rw [hbe, hb1, hb2, hb3] at hme
        have H2 := Lib.hid h2; have H3 := Lib.hid h3; have H4 := Lib.hid h4
        have HX := Lib.hid hx; have HY := Lib.hid hy; have HE := Lib.hid hbe; have HME := Lib.hid hme
        clear hbe hme hb1 hb1' hb2 hb3 hx hy hv hu hx8 hy8 hs1 hs2 hs3 ht1 ht2 ht3 hc1 hc2 h2 h3 h4
        obtain ⟨a2, a3, a4, a5, e2, e3, e4, e5, _⟩ := hr1.i4
        go_wp2_with fail
        go_region_held3 (fun w' => w'.cell? ⟨g1, o1 + j * 8 + 2, none⟩ = some (.int .i64 x.item.kind) ∧ w'.cell? ⟨g1, o1 + j * 8 + 3, none⟩ = some (.int .i64 x.item.n) ∧ w'.cell? ⟨g1, o1 + j * 8 + 4, none⟩ = some (.string (bA x.item.text)) ∧ w'.cell? ⟨g1, o1 + j * 8 + 5, none⟩ = some (.slice A1 x.item.params.length p1) ∧ w'.cell? ⟨g2, o2 + j * 8 + 2, none⟩ = some (.int .i64 y.item.kind) ∧ w'.cell? ⟨g2, o2 + j * 8 + 3, none⟩ = some (.int .i64 y.item.n) ∧ w'.cell? ⟨g2, o2 + j * 8 + 4, none⟩ = some (.string (bA y.item.text)) ∧ w'.cell? ⟨g2, o2 + j * 8 + 5, none⟩ = some (.slice B1 y.item.params.length q1) ∧ RdyQ wr g1 (o1 + j * 8) g2 (o2 + j * 8) x y (.slice A1 x.item.params.length p1) (.slice A2 x.items.length p2) (.slice A3 x.params.length p3) (.slice B1 y.item.params.length q1) (.slice B2 y.items.length q2) (.slice B3 y.params.length q3) w')
          (first
            | exact hr1.i4
            | exact hr1.drew.i4
            | exact hr3.i4)
          (first
            | (go_at_call 27; refine (H2.out _ hr1.drew).mono ?_; rintro e w3 ⟨rfl, hb3⟩; have hr3 := hr1.drew.on hb3))
        rename_i hHeld
        clear hHeld hb3 H2
        clear a2 a3 a4 a5 e2 e3 e4 e5
        obtain ⟨a6, e6, _⟩ := hr3.i6
        go_wp2_with fail
        go_region_held3 (fun w' => w'.cell? ⟨g1, o1 + j * 8 + 6, none⟩ = some (.slice A2 x.items.length p2) ∧ w'.cell? ⟨g2, o2 + j * 8 + 6, none⟩ = some (.slice B2 y.items.length q2) ∧ RdyQ wr g1 (o1 + j * 8) g2 (o2 + j * 8) x y (.slice A1 x.item.params.length p1) (.slice A2 x.items.length p2) (.slice A3 x.params.length p3) (.slice B1 y.item.params.length q1) (.slice B2 y.items.length q2) (.slice B3 y.params.length q3) w')
          (first
            | exact hr3.i6
            | exact hr3.drew.i6
            | exact hr4.i6)
          (first
            | (go_at_call 28; refine (H3.out _ hr3.drew).mono ?_; rintro e w4 ⟨rfl, hb3⟩; have hr4 := hr3.drew.on hb3))
        rename_i hHeld
        clear hHeld hb3 H3
        clear a6 e6
        obtain ⟨a7, e7, _⟩ := hr4.i7
        go_wp2_with fail
        go_region_held3 (fun w' => w'.cell? ⟨g1, o1 + j * 8 + 7, none⟩ = some (.slice A3 x.params.length p3) ∧ w'.cell? ⟨g2, o2 + j * 8 + 7, none⟩ = some (.slice B3 y.params.length q3) ∧ RdyQ wr g1 (o1 + j * 8) g2 (o2 + j * 8) x y (.slice A1 x.item.params.length p1) (.slice A2 x.items.length p2) (.slice A3 x.params.length p3) (.slice B1 y.item.params.length q1) (.slice B2 y.items.length q2) (.slice B3 y.params.length q3) w')
          (first
            | exact hr4.i7
            | exact hr4.drew.i7
            | exact hr5.i7)
          (first
            | (go_at_call 29; refine (H4.out _ hr4.drew).mono ?_; rintro e w5 ⟨rfl, hb3⟩; have hr5 := hr4.drew.on hb3))
        rename_i hHeld
        clear hHeld hb3 H4
        clear a7 e7
        have HB5 := Lib.hid (onto HW.out hr5.b)
        obtain ⟨a0, a1, e0, e1, _⟩ := hr5.i0
        clear hr1 hr3 hr4 hr5
        cases b1 with
        | false =>
          have hbf : b = false := by rw [HME.out]; simp
          subst hbf
          go_wp2_with fail
          go_quiet (fail)
          go_wp2_with fail
          go_ret
          exact ⟨Oct.ret_bool (ls_miss hjl hjm HX.out HY.out HE.out).symm, onto HB5.out (below_drew _ _)⟩
        | true =>
        cases b2 with
        | false =>
          have hbf : b = false := by rw [HME.out]; simp
          subst hbf
          go_wp2_with fail
          go_quiet (fail)
          go_wp2_with fail
          go_ret
          exact ⟨Oct.ret_bool (ls_miss hjl hjm HX.out HY.out HE.out).symm, onto HB5.out (below_drew _ _)⟩
        | true =>
        cases b3 with
        | false =>
          have hbf : b = false := by rw [HME.out]; simp
          subst hbf
          go_wp2_with fail
          go_quiet (fail)
          go_wp2_with fail
          go_ret
          exact ⟨Oct.ret_bool (ls_miss hjl hjm HX.out HY.out HE.out).symm, onto HB5.out (below_drew _ _)⟩
        | true =>
        obtain ⟨bk, hbk⟩ : ∃ bk, (x.key == y.key) = bk := ⟨_, rfl⟩
        obtain ⟨xi, hxi⟩ : ∃ xi, x.inner = xi := ⟨_, rfl⟩
        obtain ⟨yi, hyi⟩ : ∃ yi, y.inner = yi := ⟨_, rfl⟩
        rw [hbk, hxi, hyi] at HME
        rw [hxi] at a1
        rw [hyi] at e1
        have hbk' : (x.key != y.key) = !bk := by rw [bne, hbk]
        clear hxi hyi
        cases bk with
        | false =>
          have hbf : b = false := by rw [HME.out]; simp
          subst hbf
          go_wp2_with fail
          go_quiet (fail)
          go_wp2_with fail
          go_ret
          exact ⟨Oct.ret_bool (ls_miss hjl hjm HX.out HY.out HE.out).symm, onto HB5.out (below_drew _ _)⟩
        | true =>
        rcases xi with _ | _ <;> rcases yi with _ | _
        · have hbt : b = true := by rw [HME.out]; rfl
          subst hbt
          go_wp2_with fail
          go_quiet (fail)
          go_wp2_with fail
          go_roundg (l.length - (j + 1))
          case measure => omega
          case rel => exact ⟨j + 1, rfl, by omega, by go_num, onto HB5.out (below_drew _ _), ls_next hjl hjm HX.out HY.out HE.out hin.out⟩
        · have hbf : b = false := by rw [HME.out]; simp
          subst hbf
          go_wp2_with fail
          go_quiet (fail)
          go_wp2_with fail
          go_ret
          exact ⟨Oct.ret_bool (ls_miss hjl hjm HX.out HY.out HE.out).symm, onto HB5.out (below_drew _ _)⟩
        · have hbf : b = false := by rw [HME.out]; simp
          subst hbf
          go_wp2_with fail
          go_quiet (fail)
          go_wp2_with fail
          go_ret
          exact ⟨Oct.ret_bool (ls_miss hjl hjm HX.out HY.out HE.out).symm, onto HB5.out (below_drew _ _)⟩
        · have hbt : b = true := by rw [HME.out]; rfl
          subst hbt
          go_wp2_with fail
          go_quiet (fail)
          go_wp2_with fail
          go_roundg (l.length - (j + 1))
          case measure => omega
          case rel => exact ⟨j + 1, rfl, by omega, by go_num, onto HB5.out (below_drew _ _), ls_next hjl hjm HX.out HY.out HE.out hin.out⟩
      · go_wp2_with fail
        go_ret
        exact ⟨Oct.ret_bool (ls_end (by omega) HL.out hin.out).symm, HW.out⟩
  · have hne : decide (l = m) = false := by
      apply decide_eq_false
      rintro rfl
      exact hl rfl
    rw [hne]
    have h0 : ((l.length : Int) != (m.length : Int)) = true := by simp; omega
    obtain ⟨a, ha⟩ : ∃ a, l.length = a := ⟨_, rfl⟩
    obtain ⟨b, hb⟩ : ∃ b, m.length = b := ⟨_, rfl⟩
    rw [ha, hb] at h0 ⊢
    clear hA hB hl hm hne ha hb
    go_enter Tryz.func14, Tryz.ntmps14
    go_wp2_with fail
    go_ret
    exact ⟨rfl, Below.refl _ _⟩
end Go.Proofs.YtogjekjklknfeaaGreatDoor

/- The contract of the statements' head: the calls that the document fixes answer so. -/


namespace Go.Proofs.YtogjekjklknfeaaGreatDoor
open Go.RowKit Go.Shelf Go.Maps Go.Deep

theorem list_some {s : List UInt8} {l : List Sf.Mem} (h : Sf.readL false s = some l) (hs : s.length ≤ maxLen) (w : World) : Calls Tryz.prog 10 #[.string (bA s)] w fun e w' => ∃ A c, e = .returned (.tuple #[.slice A l.length c, .int .i64 0]) ∧ Below w.heap.size w w' ∧ LV w' w.heap.size (.slice A l.length c) l := by
  refine (list_any s w hs).mono ?_
  rintro e w' ⟨hb, ⟨l', v, ho, rfl, hv⟩ | ⟨ho, _⟩⟩
  · rw [h] at ho; cases ho
    obtain ⟨A, c, rfl⟩ := hv.slice
    exact ⟨A, c, rfl, hb, hv⟩
  · rw [h] at ho; cases ho
theorem list_none {s : List UInt8} (h : Sf.readL false s = none) (hs : s.length ≤ maxLen) (w : World) : Calls Tryz.prog 10 #[.string (bA s)] w fun e w' => e = .returned (.tuple #[.slice none 0 0, .int .i64 50]) ∧ Below w.heap.size w w' := by
  refine (list_any s w hs).mono ?_
  rintro e w' ⟨hb, ⟨l', v, ho, rfl, hv⟩ | ⟨_, rfl⟩⟩
  · rw [h] at ho; cases ho
  · exact ⟨rfl, hb⟩
theorem dict_some {s : List UInt8} {l : List Sf.Mem} (h : Sf.readL true s = some l) (hs : s.length ≤ maxLen) (w : World) : Calls Tryz.prog 12 #[.string (bA s)] w fun e w' => ∃ A c, e = .returned (.tuple #[.slice A l.length c, .int .i64 0]) ∧ Below w.heap.size w w' ∧ LV w' w.heap.size (.slice A l.length c) l := by
  refine (dict_any s w hs).mono ?_
  rintro e w' ⟨hb, ⟨l', v, ho, rfl, hv⟩ | ⟨ho, _⟩⟩
  · rw [h] at ho; cases ho
    obtain ⟨A, c, rfl⟩ := hv.slice
    exact ⟨A, c, rfl, hb, hv⟩
  · rw [h] at ho; cases ho
theorem dict_none {s : List UInt8} (h : Sf.readL true s = none) (hs : s.length ≤ maxLen) (w : World) : Calls Tryz.prog 12 #[.string (bA s)] w fun e w' => e = .returned (.tuple #[.slice none 0 0, .int .i64 50]) ∧ Below w.heap.size w w' := by
  refine (dict_any s w hs).mono ?_
  rintro e w' ⟨hb, ⟨l', v, ho, rfl, hv⟩ | ⟨_, rfl⟩⟩
  · rw [h] at ho; cases ho
  · exact ⟨rfl, hb⟩
theorem SL.seen {w : World} {A : Option Addr} {n c : Nat} {l : List Sf.Mem} (h : SL w (.slice A n c) l) : SeenM w A l := by
  obtain ⟨B, d, e, hs⟩ := h.is
  cases e; exact hs

def awS : List UInt8 := [97, 44, 32, 40, 98, 32, 99, 41, 59, 100, 32, 44, 32, 34, 101, 34]
def awD : List UInt8 := [97, 61, 49, 44, 32, 98, 44, 32, 97, 61, 40, 120, 41]
def tokI (t : List UInt8) : Sf.Itm := ⟨4, 0, t, []⟩
def awM1 : Sf.Mem := ⟨[], true, Sf.zItm, [tokI [98], tokI [99]], [⟨[100], 6, 1, []⟩]⟩
def awM2 : Sf.Mem := ⟨[], false, ⟨3, 0, [101], []⟩, [], []⟩
def awN0 : Sf.Mem := ⟨[97], true, Sf.zItm, [tokI [120]], []⟩
def awN1 : Sf.Mem := ⟨[98], false, ⟨6, 1, [], []⟩, [], []⟩
theorem awl : Sf.readL false awS = some [⟨[], false, tokI [97], [], []⟩, awM1, awM2] := by decide +kernel
theorem awd : Sf.readL true awD = some [awN0, awN1] := by decide +kernel
theorem awn : Sf.readL false [97, 44] = none := by decide +kernel
theorem awt : Sf.textL true [awN0, awN1] = some [97, 61, 40, 120, 41, 44, 32, 98] := by decide +kernel
theorem smallT (t : List UInt8) (h : t.length ≤ 10000) : SmallI 4 0 t [] := ⟨by decide, by decide, h, by simp, by simp⟩
theorem aws : ∀ m ∈ [awN0, awN1], SmallM m := by
  intro m hm
  simp only [List.mem_cons, List.not_mem_nil, or_false] at hm
  rcases hm with rfl | rfl
  · exact ⟨by decide, ⟨by decide, by decide, by decide, by decide, by simp [awN0, Sf.zItm]⟩, by decide, by intro x hx; simp [awN0] at hx; subst hx; exact smallT _ (by decide), ⟨by decide, by simp [awN0]⟩⟩
  · exact ⟨by decide, ⟨by decide, by decide, by decide, by decide, by simp [awN1]⟩, by decide, by simp [awN1], ⟨by decide, by simp [awN1]⟩⟩
theorem awz : (Sf.jn [44, 32] ([awN0, awN1].map (Sf.tx true))).length ≤ 100000000000000 := by decide +kernel
theorem LV.seen {w : World} {base : Nat} {A : Option Addr} {n c : Nat} {l : List Sf.Mem} (h : LV w base (.slice A n c) l) : SeenM w A l := h.sl.seen
set_option maxHeartbeats 4000000 in
set_option maxRecDepth 100000 in
theorem awake_sf (w : World) (hT : Tab w) (hTM : TabM w) : Calls Tryz.prog 9 #[] w fun e w' => e = .returned (.bool true) ∧ Below w.heap.size w w' := by
  have H1 : Hid (∀ W : World, Calls Tryz.prog 10 #[.string ⟨#[97, 44, 32, 40, 98, 32, 99, 41, 59, 100, 32, 44, 32, 34, 101, 34]⟩] W fun e w' => ∃ A c, e = .returned (.tuple #[.slice A 3 c, .int .i64 0]) ∧ Below W.heap.size W w' ∧ LV w' W.heap.size (.slice A 3 c) [⟨[], false, tokI [97], [], []⟩, awM1, awM2]) := Lib.hid (fun W => list_some awl (by decide) W)
  have H2 : Hid (∀ W : World, Calls Tryz.prog 12 #[.string ⟨#[97, 61, 49, 44, 32, 98, 44, 32, 97, 61, 40, 120, 41]⟩] W fun e w' => ∃ A c, e = .returned (.tuple #[.slice A 2 c, .int .i64 0]) ∧ Below W.heap.size W w' ∧ LV w' W.heap.size (.slice A 2 c) [awN0, awN1]) := Lib.hid (fun W => dict_some awd (by decide) W)
  have H3 : Hid (∀ W : World, Calls Tryz.prog 10 #[.string ⟨#[97, 44]⟩] W fun e w' => e = .returned (.tuple #[.slice none 0 0, .int .i64 50]) ∧ Below W.heap.size W w') := Lib.hid (fun W => list_none awn (by decide) W)
  have H4 : Hid (∀ (W : World) (A : Option Addr) (c : Nat), Tab W → TabM W → SeenM W A [awN0, awN1] → Calls Tryz.prog 18 #[.slice A 2 c] W fun e w' => e = .returned (.tuple #[.string ⟨#[97, 61, 40, 120, 41, 44, 32, 98]⟩, .int .i64 0]) ∧ Below W.heap.size W w') := Lib.hid (fun W A c h1 h2 h3 => by
    have := dictText_any A c [awN0, awN1] W h3 (by decide) aws (fun _ => awz) h1 h2
    rw [awt] at this
    exact this)
  have HT := Lib.hid hT; have HM := Lib.hid hTM
  clear hT hTM
  go_enter Tryz.func9, Tryz.ntmps9
  go_wp2_with fail
  refine (H1.out _).mono ?_
  rintro e w1 ⟨A1, k1, rfl, hb1, hv1⟩
  have HB1 := Lib.hid hb1; have HV1 := Lib.hid hv1.seen
  clear hb1 hv1 H1
  go_wp2_with fail
  refine (H2.out _).mono ?_
  rintro e w2 ⟨A2, k2, rfl, hb2, hv2⟩
  have HB2 := Lib.hid (onto HB1.out hb2); have HW1 := Lib.hid (HV1.out.below hb2); have HV2 := Lib.hid hv2.seen
  clear hb2 hv2 H2 HV1 HB1
  go_wp2_with fail
  refine (H4.out _ A2 k2 (HT.out.below HB2.out) (HM.out.below HB2.out) HV2.out).mono ?_
  rintro e w3 ⟨rfl, hb3⟩
  have HB3 := Lib.hid (onto HB2.out hb3); have HX1 := Lib.hid (HW1.out.below hb3); have HX2 := Lib.hid (HV2.out.below hb3)
  clear hb3 H4 HV2 HW1 HB2
  go_wp2_with fail
  refine (H3.out _).mono ?_
  rintro e w4 ⟨rfl, hb4⟩
  have HB4 := Lib.hid (onto HB3.out hb4)
  obtain ⟨g1, o1, rfl, _, hc1⟩ := HX1.out.below hb4 (by simp)
  obtain ⟨g2, o2, rfl, _, hc2⟩ := HX2.out.below hb4 (by simp)
  obtain ⟨v1, v2, v3, hs1, a0, a1, a2, a3, a4, a5, a6, a7⟩ := hc1 1 (by simp)
  obtain ⟨u1, u2, u3, _, b0, b1, b2, b3, b4, b5, b6, b7⟩ := hc1 2 (by simp)
  obtain ⟨t1, t2, t3, _, c0, c1, c2, c3, c4, c5, c6, c7⟩ := hc2 0 (by simp)
  obtain ⟨_, i2, rfl, _⟩ := hs1.items.is
  obtain ⟨_, i3, rfl, _⟩ := hs1.params.is
  simp only [List.getElem_cons_zero, List.getElem_cons_succ, awM1, awM2, awN0, Nat.zero_mul, Nat.one_mul, Nat.add_zero, List.length_cons, List.length_nil, Nat.zero_add, Nat.reduceAdd, Nat.reduceMul] at a0 a1 a2 a3 a4 a5 a6 a7 b0 b1 b2 b3 b4 b5 b6 b7 c0 c1 c2 c3 c4 c5 c6 c7
  clear hb4 HB3 H3 hc1 hc2 hs1 HX1 HX2 a0 a2 a3 a4 a5 b0 b1 b2 b3 b5 b6 b7 c0 c2 c3 c4 c5 c6 c7
  go_wp2_with fail
  go_ret
  exact ⟨rfl, HB4.out⟩
end Go.Proofs.YtogjekjklknfeaaGreatDoor

/- Lists of members laid one behind the other; the lengths of keys. -/
namespace Go.Proofs.YtogjekjklknfeaaGreatDoor
open Go.RowKit Go.Shelf Go.Maps Go.Deep

theorem RowM.one {w : World} : ∀ {l : List Sf.Mem} {xs : List Value}, RowM w l xs → ∀ u ∈ xs, u.oneCell' = true
  | [], _, h, u, hu => by
    have h' : _ = [] := h
    subst h'
    cases hu
  | m :: l, _, ⟨v1, v2, v3, ys, e, hm, hr⟩, u, hu => by
    subst e
    obtain ⟨a1, c1, rfl⟩ := hm.item.slice
    obtain ⟨a2, c2, rfl⟩ := hm.items.slice
    obtain ⟨a3, c3, rfl⟩ := hm.params.slice
    rcases List.mem_append.1 hu with hu | hu
    · simp [mC] at hu
      rcases hu with rfl | rfl | rfl | rfl | rfl | rfl | rfl | rfl <;> rfl
    · exact hr.one u hu
theorem RowM.append {w : World} {lb : List Sf.Mem} {xb : List Value} (hb : RowM w lb xb) : ∀ {la : List Sf.Mem} {xa : List Value}, RowM w la xa → RowM w (la ++ lb) (xa ++ xb)
  | [], _, h => by
    have h' : _ = [] := h
    subst h'
    exact hb
  | _ :: _, _, ⟨v1, v2, v3, ys, e, hm, hr⟩ => ⟨v1, v2, v3, ys ++ xb, by rw [e]; simp, hm, RowM.append hb hr⟩
theorem own_empty {w : World} {e : TypeId} {size : Nat} : (w.alloc (.cells #[] e)).ownsRow w.heap.size e size (.slice (some ⟨w.heap.size, 0, none⟩) 0 0) 0 [] :=
  ⟨by simp, .inr ⟨w.heap.size, 0, #[], rfl, Nat.le_refl _, World.alloc_heap_new _ _, Nat.le_refl _, by simp [maxLen], by simp, by simp⟩⟩
/-- 'append(a, b...)', a and b lists of members of one's own; b may be nil. -/
theorem wpList_append_mem {w : World} {ops : Array Oper} {rest : List Oper} {o : Oper} {a : Act} {Q : Exit → Act → World → Prop} (hgd : o.guard = none) (s x : Operand)
    (ho : o.op = .call { callee := .builtin .append, args := #[s, x], argTypes := #[23, 23] }) (b3 b4 : Nat) (v3 v4 : Value) (la lb : List Sf.Mem) (hs : a.eval s = v3) (hx : a.eval x = v4)
    (h3 : LV w b3 v3 la) (h4 : LV w b4 v4 lb) (hlen : la.length + lb.length ≤ 100000) (hb3 : b3 ≤ w.heap.size)
    (h : ∀ v' w', LV w' b3 v' (la ++ lb) → w.grownBy w' v3.ownBlock → (∀ e, e ≠ 40 → KeptT e w w') → wpList Tryz.prog ops Q rest (a.put o.dst v') w') : wpList Tryz.prog ops Q (o :: rest) a w := by
  obtain ⟨i0, hi, hz0, hz1, hz2⟩ := info_parts info_mem
  obtain ⟨xa, ha, ra⟩ := h3
  obtain ⟨xb, hb, rb⟩ := h4
  have hb' := hb
  obtain ⟨_, ⟨h1, h2⟩ | ⟨g, c, cur, h1, _⟩⟩ := hb
  · have e0 : lb = [] := List.length_eq_zero_iff.1 h2
    subst e0; subst h1
    have e1 : xb = [] := rb
    subst e1
    refine wpList_append_own_none hgd s x 23 ho b3 40 i0 8 Tryz.underlying23 hi v3 _ _ hs ha hx ?_
    exact h v3 w ⟨xa, by simpa using ha, by simpa using ra⟩ ⟨rfl, rfl, rfl, Nat.le_refl _, fun _ _ _ => rfl⟩ (fun e _ => KeptT.refl _ _)
  · subst h1
    have hl : xb.length = lb.length * 8 := hb'.1
    refine wpList_append_own _ hgd s x 23 ho b3 40 i0 (.agg zM) 8 128 Tryz.underlying23 hi hz0 hz1 hz2 rfl (by decide) v3 _ _ hs ha ⟨g, 0, none⟩ lb.length c xb hx hl (hb'.cells rfl) rb.one (by unfold maxLen; omega) (by omega) hb3 ?_
    intro v' w' a1 a2 _
    have hk : ∀ e, e ≠ 40 → KeptT e w w' := fun e he => .row he ha a2
    exact h v' w' ⟨xa ++ xb, by rw [List.length_append]; exact a1, RowM.append (rb.kept (hk _ (by decide)) (hk _ (by decide))) (ra.kept (hk _ (by decide)) (hk _ (by decide)))⟩ a2 hk

theorem add_mem {d : Bool} {acc : List Sf.Mem} {m q : Sf.Mem} (h : q ∈ Sf.addM d acc m) : q ∈ acc ∨ q = m := by
  cases d with
  | false =>
    have h' : q ∈ acc ++ [m] := h
    simpa using h'
  | true =>
    have h' : q ∈ Sf.putM acc m := h
    unfold Sf.putM at h'
    split at h'
    · obtain ⟨p, hp, rfl⟩ := List.mem_map.1 h'
      split
      · exact .inr rfl
      · exact .inl hp
    · simpa using h'
theorem readF_keys {d : Bool} {L : Nat} : ∀ (f : Nat) (acc : List Sf.Mem) (s : List UInt8) (l : List Sf.Mem), (∀ m ∈ acc, m.key.length ≤ L) → s.length ≤ L → Sf.readF d f acc s = some l → ∀ m ∈ l, m.key.length ≤ L
  | 0, _, _, _, _, _, h => by cases h
  | f + 1, acc, s, l, ha, hs, h => by
    rw [Sf.readF] at h
    cases he : Sf.eith d s with
    | none => rw [he] at h; cases h
    | some y =>
      obtain ⟨m, r⟩ := y
      have hk := key_lenM he
      have hsh := Sf.eith_short he
      have ha' : ∀ q ∈ Sf.addM d acc m, q.key.length ≤ L := fun q hq => by
        rcases add_mem hq with hq | rfl
        · exact ha q hq
        · omega
      rw [he] at h
      simp only at h
      split at h
      · cases h; exact ha'
      · split at h
        · have h1 := Sf.tabs_len r
          have h2 := Sf.tabs_len ((Sf.tabs r).drop 1)
          rw [List.length_drop] at h2
          exact readF_keys f _ _ l ha' (by omega) h
        · cases h
theorem read_keylen {d : Bool} {s : List UInt8} {l : List Sf.Mem} (h : Sf.readL d s = some l) : ∀ m ∈ l, m.key.length ≤ s.length := by
  obtain ⟨_, ⟨_, rfl⟩ | ⟨_, hf⟩⟩ := Sf.readL_ways h
  · simp
  · have := Sf.trim_len s
    exact readF_keys (L := s.length) _ [] _ l (by simp) (by omega) hf
theorem readF_len {d : Bool} : ∀ (f : Nat) (acc : List Sf.Mem) (s : List UInt8) (l : List Sf.Mem), Sf.readF d f acc s = some l → l.length ≤ acc.length + s.length
  | 0, _, _, _, h => by cases h
  | f + 1, acc, s, l, h => by
    rw [Sf.readF] at h
    cases he : Sf.eith d s with
    | none => rw [he] at h; cases h
    | some y =>
      obtain ⟨m, r⟩ := y
      have hsh := Sf.eith_short he
      have hal := Sf.add_len d acc m
      rw [he] at h
      simp only at h
      split at h
      · cases h; omega
      · split at h
        · have h1 := Sf.tabs_len r
          have h2 := Sf.tabs_len ((Sf.tabs r).drop 1)
          rw [List.length_drop] at h2
          have := readF_len f _ _ l h
          omega
        · cases h
theorem read_len {d : Bool} {s : List UInt8} {l : List Sf.Mem} (h : Sf.readL d s = some l) : l.length ≤ s.length := by
  obtain ⟨_, ⟨_, rfl⟩ | ⟨_, hf⟩⟩ := Sf.readL_ways h
  · simp
  · have := Sf.trim_len s
    have := readF_len _ _ _ _ hf
    simp at this; omega
end Go.Proofs.YtogjekjklknfeaaGreatDoor
