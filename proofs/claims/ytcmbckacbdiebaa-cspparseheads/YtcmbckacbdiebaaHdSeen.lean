/- Lists of headers that lie somewhere (nil let in), a header in a block of one's own: laws of worlds. -/
import Derived.Test.YtcmbckacbdiebaaHdMath
import Derived.Test.YtcmbckacbdiebaaBytes
import Derived.Test.YtcmbckacbdiebaaOctTexts
import Derived.Test.YtcmbckacbdiebaaOctOut
import Derived.Below
import Derived.RangeFuncBox
namespace Go.Proofs.Ytcmbckacbdiebaa
open Go.RowKit

/-- A header's two cells. -/
def Cells2 (w : World) (g o : Nat) (h : Hd.Hdr) : Prop := w.cell? ⟨g, o, none⟩ = some (.string (bA h.name)) ∧ w.cell? ⟨g, o + 1, none⟩ = some (.string (bA h.value))
theorem Cells2.below {w w' : World} {B g o : Nat} {h : Hd.Hdr} (hc : Cells2 w g o h) (hg : g < B) (hb : Below B w w') : Cells2 w' g o h :=
  ⟨(hb.cell (p := ⟨g, o, none⟩) hg).trans hc.1, (hb.cell (p := ⟨g, o + 1, none⟩) hg).trans hc.2⟩
/-- A list of headers that lies somewhere. -/
def SeenH (w : World) (A : Option Addr) (l : List Hd.Hdr) : Prop := 0 < l.length → ∃ g o, A = some ⟨g, o, none⟩ ∧ g < w.heap.size ∧ ∀ i (h : i < l.length), Cells2 w g (o + i * 2) l[i]
theorem SeenH.below {w w' : World} {A : Option Addr} {l : List Hd.Hdr} (h : SeenH w A l) (hb : Below w.heap.size w w') : SeenH w' A l := fun hn => by
  obtain ⟨g, o, rfl, hlt, hc⟩ := h hn
  exact ⟨g, o, rfl, Nat.lt_of_lt_of_le hlt hb.size, fun i hi => (hc i hi).below hlt hb⟩
theorem owns_below {w w' : World} {base : Nat} {e : TypeId} {size : Nat} {v : Value} {n : Nat} {xs : List Value} (h : w.ownsRow base e size v n xs) (hb : Below w.heap.size w w') : w'.ownsRow base e size v n xs := by
  obtain ⟨h1, h2 | ⟨g, cap, cur, a, b, c, d⟩⟩ := h
  · exact ⟨h1, .inl h2⟩
  · exact ⟨h1, .inr ⟨g, cap, cur, a, b, by rw [hb.block g (lt_of_block c)]; exact c, d⟩⟩
def hdC (h : Hd.Hdr) : List Value := [.string (bA h.name), .string (bA h.value)]
/-- The cells of a list of headers, one behind the other. -/
def rowH (l : List Hd.Hdr) : List Value := l.flatMap hdC
theorem rowH_len (l : List Hd.Hdr) : (rowH l).length = l.length * 2 := by
  unfold rowH
  induction l with
  | nil => rfl
  | cons a l ih => rw [List.flatMap_cons, List.length_append, ih, List.length_cons]; simp [hdC]; omega
theorem rowH_at : ∀ (l : List Hd.Hdr) (i : Nat) (h : i < l.length), (rowH l)[i * 2]? = some (.string (bA l[i].name)) ∧ (rowH l)[i * 2 + 1]? = some (.string (bA l[i].value))
  | [], i, h => by simp at h
  | a :: l, 0, _ => ⟨rfl, rfl⟩
  | a :: l, i + 1, h => by
    have ih := rowH_at l i (by simpa using h)
    have e : rowH (a :: l) = hdC a ++ rowH l := rfl
    rw [e, show (i + 1) * 2 = (hdC a).length + i * 2 by simp [hdC]; omega, List.getElem?_append_right (by omega), show (hdC a).length + i * 2 + 1 = (hdC a).length + (i * 2 + 1) by omega, List.getElem?_append_right (by omega)]
    simpa using ih
theorem rowH_one (l : List Hd.Hdr) : ∀ u ∈ rowH l, u.oneCell' = true := fun u hu => by
  obtain ⟨h, _, hm⟩ := List.mem_flatMap.1 hu
  simp [hdC] at hm
  rcases hm with rfl | rfl <;> rfl
/-- A list of headers of one's own. -/
def OwnH (w : World) (base : Nat) (v : Value) (l : List Hd.Hdr) : Prop := w.ownsRow base 38 2 v l.length (rowH l)
theorem own_at {w : World} {base size : Nat} {e : TypeId} {g n c : Nat} {xs : List Value} (h : w.ownsRow base e size (.slice (some ⟨g, 0, none⟩) n c) n xs) {j : Nat} {u : Value} (hx : xs[j]? = some u) : w.cell? ⟨g, j, none⟩ = some u := by
  have := World.ownsRow.cells h (g := g) rfl j u hx
  rw [← this]; congr 1; simp [Addr.add]
theorem OwnH.slice {w : World} {base : Nat} {v : Value} {l : List Hd.Hdr} (h : OwnH w base v l) : ∃ A c, v = .slice A l.length c ∧ SeenH w A l ∧ (∀ a, A = some a → base ≤ a.block) := by
  have hc := h
  obtain ⟨_, ⟨h1, h2⟩ | ⟨g, cap, cur, h1, hb, hg, _⟩⟩ := h
  · exact ⟨none, 0, by rw [h1, h2], fun hn => by omega, fun a e => by cases e⟩
  · subst h1
    refine ⟨_, _, rfl, fun hn => ⟨g, 0, rfl, (Array.getElem?_eq_some_iff.1 hg).1, fun i hi => ?_⟩, fun a e => by cases e; exact hb⟩
    obtain ⟨x1, x2⟩ := rowH_at l i hi
    rw [Nat.zero_add]
    exact ⟨own_at hc x1, own_at hc x2⟩
theorem OwnH.below {w w' : World} {base : Nat} {v : Value} {l : List Hd.Hdr} (h : OwnH w base v l) (hb : Below w.heap.size w w') : OwnH w' base v l := owns_below h hb
/-- A header in a block of one's own. -/
def HBox (w : World) (B : Nat) (h : Hd.Hdr) : Prop := w.heap[B]? = some (.cells #[.string (bA h.name), .string (bA h.value)] 38 (0, 0))
theorem HBox.c0 {w : World} {B : Nat} {h : Hd.Hdr} (hx : HBox w B h) : w.cell? ⟨B, 0, none⟩ = some (.string (bA h.name)) := by simp [World.cell?, show w.heap[B]? = _ from hx]
theorem HBox.c1 {w : World} {B : Nat} {h : Hd.Hdr} (hx : HBox w B h) : w.cell? ⟨B, 1, none⟩ = some (.string (bA h.value)) := by simp [World.cell?, show w.heap[B]? = _ from hx]
theorem HBox.lt {w : World} {B : Nat} {h : Hd.Hdr} (hx : HBox w B h) : B < w.heap.size := (Array.getElem?_eq_some_iff.1 hx).1
theorem HBox.below {w w' : World} {B : Nat} {h : Hd.Hdr} (hx : HBox w B h) (hb : Below w.heap.size w w') : HBox w' B h := (hb.block B hx.lt).trans hx
theorem HBox.new (w : World) (h : Hd.Hdr) : HBox (w.alloc (.cells #[.string (bA h.name), .string (bA h.value)] 38)) w.heap.size h := World.alloc_heap_new _ _
theorem boxed_below {w w' : World} {b : Nat} {t : TypeId} {v : Value} (h : Boxed w b t v) (hb : Below w.heap.size w w') : Boxed w' b t v := (hb.block b h.lt).trans h
theorem Below.onto {w w1 w2 : World} (h : Below w.heap.size w w1) (h2 : Below w1.heap.size w1 w2) : Below w.heap.size w w2 := h.trans (h2.mono h.size)
/-- A new block between. -/
theorem Below.onto1 {w w1 w2 : World} {o : Obj} (h : Below w.heap.size w w1) (h2 : Below (w1.alloc o).heap.size (w1.alloc o) w2) : Below w.heap.size w w2 := (h.alloc h.size o).trans (h2.mono (by have := h.size; simp; omega))
theorem vals_succ {l : List Hd.Hdr} {n : List UInt8} {k : Nat} (h : k < l.length) : Hd.vals (l.take (k + 1)) n = Hd.vals (l.take k) n ++ (if Hd.foldB l[k].name n then [Oct.trim l[k].value] else []) := by
  rw [List.take_succ_eq_append_getElem h, Hd.vals_app, Hd.vals_one]
end Go.Proofs.Ytcmbckacbdiebaa
