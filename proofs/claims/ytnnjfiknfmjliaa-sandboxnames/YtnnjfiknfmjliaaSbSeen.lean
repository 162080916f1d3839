/- Rows of policies whose texts lie somewhere; lists of policies that are handed in. -/
import Derived.Test.YtnnjfiknfmjliaaSbRef3
import Derived.Test.YtnnjfiknfmjliaaCsOpen
import Derived.Test.YtnnjfiknfmjliaaOnes
namespace Go.Proofs.Ytnnjfiknfmjliaa
open Go.ChangeShapes Go.WideShapes Go.ChangeAt Go.RowKit Go.Deep

/-- The cells of some policies, one behind the other; their words lie somewhere. -/
def RowQ (w : World) : List Cs.Pol → List Value → Prop
  | [], cs => cs = []
  | p :: ps, cs => ∃ A c B d r, cs = (polC p A c B d).toList ++ r ∧ SeenT w A p.anc ∧ SeenT w B p.box ∧ RowQ w ps r
theorem RowQ.below {w w' : World} (hb : Below w.heap.size w w') : ∀ {ps : List Cs.Pol} {cs : List Value}, RowQ w ps cs → RowQ w' ps cs
  | [], _, h => h
  | _ :: _, _, ⟨A, c, B, d, r, e, h1, h2, h3⟩ => ⟨A, c, B, d, r, e, h1.below hb, h2.below hb, RowQ.below hb h3⟩
theorem RowQ.app {w : World} {qs : List Cs.Pol} {ds : List Value} (h2 : RowQ w qs ds) : ∀ {ps : List Cs.Pol} {cs : List Value}, RowQ w ps cs → RowQ w (ps ++ qs) (cs ++ ds)
  | [], _, h => by
    have h' : _ = [] := h
    subst h'
    exact h2
  | _ :: _, _, ⟨A, c, B, d, r, e, x1, x2, x3⟩ => ⟨A, c, B, d, r ++ ds, by rw [e, List.append_assoc], x1, x2, RowQ.app h2 x3⟩
theorem RowQ.one {w : World} {p : Cs.Pol} {A : Option Addr} {c : Nat} {B : Option Addr} {d : Nat} (h1 : SeenT w A p.anc) (h2 : SeenT w B p.box) : RowQ w [p] (polC p A c B d).toList := ⟨A, c, B, d, [], by simp, h1, h2, rfl⟩
theorem RowQ.len {w : World} : ∀ {ps : List Cs.Pol} {cs : List Value}, RowQ w ps cs → cs.length = ps.length * 4
  | [], _, h => by
    have h' : _ = [] := h
    subst h'; rfl
  | _ :: _, _, ⟨A, c, B, d, r, e, _, _, h⟩ => by
    have := RowQ.len h
    rw [e, List.length_append, this, List.length_cons]
    simp [polC]; omega
theorem RowQ.cells {w : World} : ∀ {ps : List Cs.Pol} {cs : List Value}, RowQ w ps cs → ∀ u ∈ cs, u.oneCell' = true
  | [], _, h => fun u hu => by
    have h' : _ = [] := h
    subst h'; simp at hu
  | _ :: _, _, ⟨A, c, B, d, r, e, _, _, h⟩ => fun u hu => by
    rw [e] at hu
    rcases List.mem_append.1 hu with hu | hu
    · simp only [polC, List.mem_cons, List.not_mem_nil, or_false] at hu
      rcases hu with rfl | rfl | rfl | rfl <;> rfl
    · exact RowQ.cells h u hu
theorem RowQ.at {w : World} : ∀ {ps : List Cs.Pol} {cs : List Value}, RowQ w ps cs → ∀ (i : Nat) (hi : i < ps.length), ∃ A c B d, (∀ j, j < 4 → cs[i * 4 + j]? = (polC ps[i] A c B d)[j]?) ∧ SeenT w A ps[i].anc ∧ SeenT w B ps[i].box
  | [], _, _, i, hi => by simp at hi
  | p :: ps, _, ⟨A, c, B, d, r, e, h1, h2, h⟩, 0, _ => ⟨A, c, B, d, fun j hj => by
      rw [e, Nat.zero_mul, Nat.zero_add, List.getElem?_append_left (by simp [polC]; omega)]
      simp, h1, h2⟩
  | p :: ps, _, ⟨A, c, B, d, r, e, h1, h2, h⟩, i + 1, hi => by
    obtain ⟨A', c', B', d', x1, x2, x3⟩ := RowQ.at h i (by simpa using hi)
    refine ⟨A', c', B', d', fun j hj => ?_, x2, x3⟩
    rw [e, List.getElem?_append_right (by simp [polC]; omega)]
    have : (i + 1) * 4 + j - (polC p A c B d).toList.length = i * 4 + j := by simp [polC]; omega
    rw [this]
    exact x1 j hj
/-- A row of policies in a block is a list that lies somewhere. -/
theorem RowQ.seen {w : World} {ps : List Cs.Pol} {cs : List Value} {g q : Nat} (h : RowQ w ps cs) (hg : g < w.heap.size) (hc : ∀ j u, cs[j]? = some u → w.cell? ⟨g, q + j, none⟩ = some u) : SeenPo w (some ⟨g, q, none⟩) ps := fun _ =>
  ⟨g, q, rfl, hg, fun i hi => by
    obtain ⟨A, c, B, d, x1, x2, x3⟩ := h.at i hi
    refine ⟨A, c, B, d, fun j hj => ?_, x2, x3⟩
    have hsz : j < (polC ps[i] A c B d).size := hj
    have hx := x1 j hj
    rw [Array.getElem?_eq_getElem hsz] at hx ⊢
    have := hc _ _ hx
    rw [Nat.add_assoc]
    exact this⟩
/-- .. and back. -/
theorem SeenPo.row {w : World} {g q : Nat} : ∀ (l : List Cs.Pol) (k : Nat), (∀ i (h : i < l.length), ∃ A1 c1 A2 c2, (∀ j, j < 4 → w.cell? ⟨g, q + (k + i) * 4 + j, none⟩ = (polC l[i] A1 c1 A2 c2)[j]?) ∧ SeenT w A1 l[i].anc ∧ SeenT w A2 l[i].box) →
    ∃ cs, RowQ w l cs ∧ ∀ (j : Nat) (u : Value), cs[j]? = some u → w.cell? ⟨g, q + k * 4 + j, none⟩ = some u
  | [], k, _ => ⟨[], rfl, fun j u hu => by simp at hu⟩
  | p :: l, k, h => by
    obtain ⟨A, c, B, d, x1, x2, x3⟩ := h 0 (by simp)
    obtain ⟨cs, h1, h2⟩ := SeenPo.row (w := w) (g := g) (q := q) l (k + 1) (fun i hi => by
      have := h (i + 1) (by simpa using hi)
      rw [show k + (i + 1) = k + 1 + i by omega] at this
      simpa using this)
    refine ⟨(polC p A c B d).toList ++ cs, ⟨A, c, B, d, cs, rfl, x2, x3, h1⟩, fun j u hu => ?_⟩
    simp only [List.getElem_cons_zero, Nat.add_zero] at x1
    by_cases hj : j < 4
    · rw [List.getElem?_append_left (by simp [polC]; omega)] at hu
      rw [x1 j hj, ← hu]; simp
    · rw [List.getElem?_append_right (by simp [polC]; omega)] at hu
      have := h2 (j - 4) u (by simpa [polC] using hu)
      rw [show q + (k + 1) * 4 + (j - 4) = q + k * 4 + j by omega] at this
      exact this
section
variable {H : Type} {enc : TypeId × Value → H} {W : World} {b0 : Nat} {v : Value} {d : DataW H} {ps : List MemPlace}
instance : Inhabited Cs.Pol := ⟨⟨false, [], false, []⟩⟩
/-- What an element that is a policy is known to be. -/
def RP (W : World) (p : Cs.Pol) (l : List Value) : Prop := ∃ A c B e, l = (polC p A c B e).toList ∧ WidePol W p A c B e
set_option maxRecDepth 100000 in
theorem pol_el {n : Nat} {l : List Value} {y : DataW H × List MemPlace} (hf : DataW.trod enc Try.prog W 0 (fun _ => true) true n 32 l = some y) : ∃ p, RP W p l := by
  obtain ⟨xs, m, _, _, hsz, hlen, hfs⟩ := DataW.trod_struct Try.underlying32 hf
  rw [cellsPol] at hsz
  match l, hsz with
  | [c0, c1, c2, c3], _ =>
    have hlen' : xs.length = 4 := hlen
    have g : ∀ i, i < 4 → (xs[i]?).isSome = true := fun i hi => by rw [List.getElem?_eq_getElem (by omega)]; rfl
    have f0 := hfs 0 _ rfl
    have f1 := hfs 1 _ rfl
    have f2 := hfs 2 _ rfl
    have f3 := hfs 3 _ rfl
    obtain ⟨a, rfl⟩ := one_bool f0 (g 0 (by omega))
    obtain ⟨b, rfl⟩ := one_bool f2 (g 2 (by omega))
    obtain ⟨z1, hz1⟩ := Option.isSome_iff_exists.1 (g 1 (by omega))
    obtain ⟨z3, hz3⟩ := Option.isSome_iff_exists.1 (g 3 (by omega))
    rw [hz1] at f1
    rw [hz3] at f3
    obtain ⟨A, c, l1, rfl, hw1, _⟩ := texts_read f1
    obtain ⟨B, e, l2, rfl, hw2, _⟩ := texts_read f3
    exact ⟨⟨a, l1, b, l2⟩, A, c, B, e, rfl, hw1, hw2⟩
/-- A list of policies that is handed in. -/
structure WidePs (W : World) (A : Option Addr) (c : Nat) (l : List Cs.Pol) : Prop where
  seen : SeenPo W A l
  len : l.length ≤ maxLen
  cap : l.length ≤ c
  nl : A = none → l.length = 0 ∧ c = 0
  each : ∀ p ∈ l, p.anc.length ≤ maxLen ∧ p.box.length ≤ maxLen
set_option maxRecDepth 100000 in
theorem open_pols (hv : Value.okWide Try.prog W .any b0 30 v) (h : DataW.Trod enc Try.prog W 0 (fun _ => true) true 30 v d ps) :
    ∃ (A : Option Addr) (c : Nat) (l : List Cs.Pol), v = .slice A l.length c ∧ WidePs W A c l := by
  obtain ⟨fuel, hf⟩ := h
  have hcell : v.cells.toList = [v] := by
    obtain ⟨a, l, c, rfl⟩ := okWide_slice Try.underlying30 hv
    rfl
  rw [hcell] at hf
  obtain ⟨A, cp, l, e, hl, hnl, hcp, _, hc, ha⟩ := open_rows Try.underlying30 cellsPol (by decide) (RP W) (fun n l y h => pol_el h) hf
  refine ⟨A, cp, l, e, ⟨fun hn => ?_, hl, hcp, hnl, fun x hx => ?_⟩⟩
  · obtain ⟨g, o, hA, hg, hi⟩ := hc hn
    refine ⟨g, o, hA, hg, fun i h => ?_⟩
    obtain ⟨cs, ⟨A1, c1, A2, c2, rfl, hw⟩, hcell⟩ := hi i h
    exact ⟨A1, c1, A2, c2, fun j hj => by rw [hcell j hj]; simp, hw.anc.seen, hw.box.seen⟩
  · obtain ⟨cs, ⟨A1, c1, A2, c2, _, hw⟩⟩ := ha x hx
    exact ⟨hw.anc.len, hw.box.len⟩
end
end Go.Proofs.Ytnnjfiknfmjliaa
