/- How arguments that are lists of parameters, of items and of members are opened. -/
import Derived.Test.YtogjekjklknfeaaGreatDoorPkSame
import Derived.Test.YtogjekjklknfeaaGreatDoorPkMem
namespace Go.Proofs.YtogjekjklknfeaaGreatDoor
open Go.ChangeShapes Go.WideShapes Go.ChangeAt Go.RowKit

section
variable {H : Type} {enc : TypeId × Value → H} {W : World} {b0 : Nat} {v : Value} {d : DataW H} {ps : List MemPlace}
/-- A slice whose elements are opened one by one. -/
theorem open_rows {α : Type} [Inhabited α] {T E : TypeId} {size : Nat} (hu : Tryz.prog.underlying T = some (.slice E)) (hcs : Tryz.prog.cellsOf E = size) (hs : 0 < size) (R : α → List Value → Prop)
    (hel : ∀ n l y, DataW.trod enc Tryz.prog W 0 (fun _ => true) true n E l = some y → ∃ x, R x l) {n : Nat} {c : Value} {y : DataW H × List MemPlace} (h : DataW.trod enc Tryz.prog W 0 (fun _ => true) true n T [c] = some y) :
    ∃ (A : Option Addr) (cp : Nat) (l : List α), c = .slice A l.length cp ∧ l.length ≤ maxLen ∧ (A = none → l.length = 0 ∧ cp = 0) ∧
      (0 < l.length → ∃ g o, A = some ⟨g, o, none⟩ ∧ g < W.heap.size ∧ ∀ i (h : i < l.length), ∃ cs, R l[i] cs ∧ ∀ j, j < size → W.cell? ⟨g, o + i * size + j, none⟩ = cs[j]?) ∧ ∀ x ∈ l, ∃ cs, R x cs := by
  rcases Go.Deep.open_slice hu h with ⟨e, _⟩ | ⟨a, len, cap, m, n', D, Pl, e, _, hl, hm, hmm, _, hc⟩
  · simp only [List.cons.injEq, and_true] at e
    subst e
    exact ⟨none, 0, [], rfl, by simp [maxLen], fun _ => ⟨rfl, rfl⟩, fun h => by simp at h, by simp⟩
  · simp only [List.cons.injEq, and_true] at e
    subst e
    have hm2 : len ≤ m := by rw [hmm]; split <;> omega
    rw [hcs] at hc
    have each : ∀ i, i < m → ∃ q : α × List Value, W.cells? 0 (a.add (i * size)) size = some q.2 ∧ R q.1 q.2 := fun i hi => by
      obtain ⟨cs', h1, h2⟩ := hc i hi
      obtain ⟨x, hx⟩ := hel _ _ _ h2
      exact ⟨(x, cs'), h1, hx⟩
    obtain ⟨F, hF⟩ := Go.Deep.choose_lt each
    refine ⟨some a, cap, (List.range len).map fun i => (F i).1, by simp, by simp; omega, fun h => (by cases h), fun h0 => ?_, fun x hx => ?_⟩
    · have h0' : 0 < len := by simpa using h0
      have hcell : ∀ i, i < len → ∀ j, j < size → W.cell? ((a.add (i * size)).add j) = (F i).2[j]? := fun i hi j hj => (World.cells?_some (hF i (by omega)).1).2.2 j hj
      have hlen : ∀ i, i < len → (F i).2.length = size := fun i hi => (World.cells?_some (hF i (by omega)).1).2.1
      have hz := hcell 0 h0' 0 hs
      have hz' : W.cell? a = some ((F 0).2[0]'(by rw [hlen 0 h0']; exact hs)) := by
        rw [List.getElem?_eq_getElem (by rw [hlen 0 h0']; exact hs)] at hz
        have e0 : (a.add (0 * size)).add 0 = a := by simp [Addr.add]
        rw [e0] at hz; exact hz
      have hsp := World.cell?_spot hz'
      obtain ⟨g, o, sp⟩ := a
      simp only at hsp
      subst hsp
      refine ⟨g, o, rfl, World.block_lt_of_cell? _ _ hz', fun i hi => ?_⟩
      have hi' : i < len := by simpa using hi
      have ei : ((List.range len).map fun i => (F i).1)[i] = (F i).1 := by simp
      refine ⟨(F i).2, by rw [ei]; exact (hF i (by omega)).2, fun j hj => ?_⟩
      have ad : ((⟨g, o, none⟩ : Addr).add (i * size)).add j = ⟨g, o + i * size + j, none⟩ := by
        unfold Addr.add
        split <;> split <;> simp_all
      rw [← ad]; exact hcell i hi' j hj
    · obtain ⟨i, hi, rfl⟩ := List.mem_map.1 hx
      have hi' : i < len := by simpa using hi
      exact ⟨(F i).2, (hF i (by omega)).2⟩
def okN (n : Int) : Prop := -9223372036854775808 ≤ n ∧ n ≤ 9223372036854775807
/-- What is known of an item, of a member that is handed in. -/
structure WX (x : Sf.Itm) : Prop where
  n : okN x.n
  text : x.text.length ≤ maxLen
  each : ∀ p ∈ x.params, okN p.n
structure WM (m : Sf.Mem) : Prop where
  key : m.key.length ≤ maxLen
  item : WX m.item
  items : ∀ x ∈ m.items, WX x
  params : ∀ p ∈ m.params, okN p.n
def RI (W : World) (x : Sf.Itm) (l : List Value) : Prop := ∃ v, l = itC x v ∧ SV W v x.params ∧ WX x
def RM (W : World) (m : Sf.Mem) (l : List Value) : Prop := ∃ v1 v2 v3, l = (mC m v1 v2 v3).toList ∧ SM W m v1 v2 v3 ∧ WM m
theorem cellsM : Tryz.prog.cellsOf 40 = 8 := by kernel_rfl
instance : Inhabited Sf.Itm := ⟨⟨0, 0, [], []⟩⟩
instance : Inhabited Sf.Mem := ⟨⟨[], false, ⟨0, 0, [], []⟩, [], []⟩⟩
set_option maxRecDepth 100000 in
set_option maxHeartbeats 1000000 in
theorem open_itm {n : Nat} {l : List Value} {y : DataW H × List MemPlace} (h : DataW.trod enc Tryz.prog W 0 (fun _ => true) true n 35 l = some y) : ∃ x, RI W x l := by
  obtain ⟨xs, m, _, _, hsz, hlen, hfs⟩ := DataW.trod_struct Tryz.underlying35 h
  rw [cellsI] at hsz
  match l, hsz with
  | [c0, c1, c2, c3], _ =>
    have hlen' : xs.length = 4 := hlen
    have g : ∀ i, i < 4 → (xs[i]?).isSome = true := fun i hi => by rw [List.getElem?_eq_getElem (by omega)]; rfl
    have f0 := hfs 0 _ rfl
    have f1 := hfs 1 _ rfl
    have f2 := hfs 2 _ rfl
    have f3 := hfs 3 _ rfl
    obtain ⟨k, rfl, _, _⟩ := one_int f0 (g 0 (by omega))
    obtain ⟨i, rfl, h0, h1⟩ := one_int f1 (g 1 (by omega))
    obtain ⟨s1, rfl, h2⟩ := one_str f2 (g 2 (by omega))
    obtain ⟨z, hz⟩ := Option.isSome_iff_exists.1 (g 3 (by omega))
    rw [hz] at f3
    obtain ⟨A, cp, l, rfl, h3, h4, h5⟩ := open_pars f3
    exact ⟨⟨k, i, s1.data.toList, l⟩, _, rfl, ⟨⟨A, cp, rfl, h4⟩, h3⟩, ⟨h0, h1⟩, by simpa using h2, h5⟩
theorem open_itms {n : Nat} {c : Value} {y : DataW H × List MemPlace} (h : DataW.trod enc Tryz.prog W 0 (fun _ => true) true n 38 [c] = some y) :
    ∃ (A : Option Addr) (cp : Nat) (l : List Sf.Itm), c = .slice A l.length cp ∧ SI W c l ∧ ∀ x ∈ l, WX x := by
  obtain ⟨A, cp, l, e, hl, hnl, hc, ha⟩ := open_rows Tryz.underlying38 cellsI (by decide) (RI W) (fun n l y h => open_itm h) h
  refine ⟨A, cp, l, e, ⟨⟨A, cp, e, fun hn => ?_⟩, hl, fun n d e' => by rw [e] at e'; injection e' with h1 h2 h3; obtain ⟨h4, h5⟩ := hnl h1; exact ⟨by rw [← h2]; exact h4, by rw [← h3]; exact h5⟩⟩, fun x hx => ?_⟩
  · obtain ⟨g, o, hA, hg, hi⟩ := hc hn
    refine ⟨g, o, hA, hg, fun i h => ?_⟩
    obtain ⟨cs, ⟨v, rfl, hv, _⟩, hcell⟩ := hi i h
    exact ⟨v, hv, hcell 0 (by omega), hcell 1 (by omega), hcell 2 (by omega), hcell 3 (by omega)⟩
  · obtain ⟨cs, v, _, _, hw⟩ := ha x hx
    exact hw
theorem one_bool {n : Nat} {c : Value} {y : Option (DataW H × List MemPlace)} (h : DataW.trod enc Tryz.prog W 0 (fun _ => true) true n 4 [c] = y) (hy : y.isSome = true) : ∃ b : Bool, c = .bool b := by
  obtain ⟨z, rfl⟩ := Option.isSome_iff_exists.1 hy
  obtain ⟨s, e0, _⟩ := DataW.trod_bool Tryz.underlying4 h
  simp only [List.cons.injEq, and_true] at e0
  exact ⟨s, e0⟩
set_option maxRecDepth 100000 in
set_option maxHeartbeats 1000000 in
theorem open_mem {n : Nat} {l : List Value} {y : DataW H × List MemPlace} (h : DataW.trod enc Tryz.prog W 0 (fun _ => true) true n 40 l = some y) : ∃ m, RM W m l := by
  obtain ⟨xs, m, _, _, hsz, hlen, hfs⟩ := DataW.trod_struct Tryz.underlying40 h
  rw [cellsM] at hsz
  match l, hsz with
  | [c0, c1, c2, c3, c4, c5, c6, c7], _ =>
    have hlen' : xs.length = 5 := hlen
    have g : ∀ i, i < 5 → (xs[i]?).isSome = true := fun i hi => by rw [List.getElem?_eq_getElem (by omega)]; rfl
    have f0 := hfs 0 _ rfl
    have f1 := hfs 1 _ rfl
    have f2 := hfs 2 _ rfl
    have f3 := hfs 3 _ rfl
    have f4 := hfs 4 _ rfl
    obtain ⟨s0, rfl, h0⟩ := one_str f0 (g 0 (by omega))
    obtain ⟨b1, rfl⟩ := one_bool f1 (g 1 (by omega))
    obtain ⟨z2, hz2⟩ := Option.isSome_iff_exists.1 (g 2 (by omega))
    rw [hz2] at f2
    obtain ⟨x, v, hx, hv, hw⟩ := open_itm f2
    obtain ⟨z3, hz3⟩ := Option.isSome_iff_exists.1 (g 3 (by omega))
    rw [hz3] at f3
    obtain ⟨A3, p3, l3, e3, h3, h3'⟩ := open_itms f3
    obtain ⟨z4, hz4⟩ := Option.isSome_iff_exists.1 (g 4 (by omega))
    rw [hz4] at f4
    obtain ⟨A4, p4, l4, e4, h4, h4', h4''⟩ := open_pars f4
    refine ⟨⟨s0.data.toList, b1, x, l3, l4⟩, v, c6, c7, ?_, ⟨hv, h3, ⟨⟨A4, p4, e4, h4'⟩, h4⟩⟩, ⟨by simpa using h0, hw, h3', h4''⟩⟩
    have hx' : [c2, c3, c4, c5] = itC x v := hx
    simp only [itC, List.cons.injEq, and_true] at hx'
    obtain ⟨rfl, rfl, rfl, rfl⟩ := hx'
    rfl
/-- A list of members that is handed in. -/
structure WideL (W : World) (A : Option Addr) (l : List Sf.Mem) : Prop where
  seen : SeenM W A l
  len : l.length ≤ maxLen
  each : ∀ m ∈ l, WM m
set_option maxRecDepth 100000 in
theorem open_mems (hv : Value.okWide Tryz.prog W .any b0 23 v) (h : DataW.Trod enc Tryz.prog W 0 (fun _ => true) true 23 v d ps) :
    ∃ (A : Option Addr) (c : Nat) (l : List Sf.Mem), v = .slice A l.length c ∧ WideL W A l := by
  obtain ⟨fuel, hf⟩ := h
  have hcell : v.cells.toList = [v] := by
    obtain ⟨a, l, c, rfl⟩ := okWide_slice Tryz.underlying23 hv
    rfl
  rw [hcell] at hf
  obtain ⟨A, cp, l, e, hl, _, hc, ha⟩ := open_rows Tryz.underlying23 cellsM (by decide) (RM W) (fun n l y h => open_mem h) hf
  refine ⟨A, cp, l, e, ⟨fun hn => ?_, hl, fun x hx => ?_⟩⟩
  · obtain ⟨g, o, hA, hg, hi⟩ := hc hn
    refine ⟨g, o, hA, hg, fun i h => ?_⟩
    obtain ⟨cs, ⟨v1, v2, v3, rfl, hv, _⟩, hcell⟩ := hi i h
    exact ⟨v1, v2, v3, hv, hcell 0 (by omega), hcell 1 (by omega), hcell 2 (by omega), hcell 3 (by omega), hcell 4 (by omega), hcell 5 (by omega), hcell 6 (by omega), hcell 7 (by omega)⟩
  · obtain ⟨cs, v1, v2, v3, _, _, hw⟩ := ha x hx
    exact hw
set_option maxRecDepth 100000 in
theorem open_itemsV (hv : Value.okWide Tryz.prog W .any b0 38 v) (h : DataW.Trod enc Tryz.prog W 0 (fun _ => true) true 38 v d ps) :
    ∃ (A : Option Addr) (c : Nat) (l : List Sf.Itm), v = .slice A l.length c ∧ SI W v l ∧ ∀ x ∈ l, WX x := by
  obtain ⟨fuel, hf⟩ := h
  have hcell : v.cells.toList = [v] := by
    obtain ⟨a, l, c, rfl⟩ := okWide_slice Tryz.underlying38 hv
    rfl
  rw [hcell] at hf
  exact open_itms hf
set_option maxRecDepth 100000 in
theorem open_parsV (hv : Value.okWide Tryz.prog W .any b0 33 v) (h : DataW.Trod enc Tryz.prog W 0 (fun _ => true) true 33 v d ps) :
    ∃ (A : Option Addr) (c : Nat) (l : List Sf.Par), v = .slice A l.length c ∧ SV W v l ∧ ∀ p ∈ l, okN p.n := by
  obtain ⟨fuel, hf⟩ := h
  have hcell : v.cells.toList = [v] := by
    obtain ⟨a, l, c, rfl⟩ := okWide_slice Tryz.underlying33 hv
    rfl
  rw [hcell] at hf
  obtain ⟨A, cp, l, e, h1, h2, h3⟩ := open_pars hf
  exact ⟨A, cp, l, e, ⟨⟨A, cp, e, h2⟩, h1⟩, h3⟩
end
end Go.Proofs.YtogjekjklknfeaaGreatDoor
