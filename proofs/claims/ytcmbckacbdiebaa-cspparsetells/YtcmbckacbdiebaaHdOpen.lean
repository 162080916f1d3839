/- How arguments that are headers, and lists of headers, are opened. -/
import Derived.Test.YtcmbckacbdiebaaHdSeen
import Derived.OpenShut
import Derived.Handed
import Derived.ProofKit
import Derived.Deep.Slices
import Derived.SizedLaws
import Derived.Carry
namespace Go.Proofs.Ytcmbckacbdiebaa
open Go.ChangeShapes Go.WideShapes Go.ChangeAt Go.RowKit

section
variable {H : Type} {enc : TypeId × Value → H} {W : World} {b0 : Nat} {v : Value} {d : DataW H} {ps : List MemPlace}
/-- A slice whose elements are opened one by one. -/
theorem open_rows {α : Type} [Inhabited α] {T E : TypeId} {size : Nat} (hu : Try.prog.underlying T = some (.slice E)) (hcs : Try.prog.cellsOf E = size) (hs : 0 < size) (R : α → List Value → Prop)
    (hel : ∀ n l y, DataW.trod enc Try.prog W 0 (fun _ => true) true n E l = some y → ∃ x, R x l) {n : Nat} {c : Value} {y : DataW H × List MemPlace} (h : DataW.trod enc Try.prog W 0 (fun _ => true) true n T [c] = some y) :
    ∃ (A : Option Addr) (cp : Nat) (l : List α), c = .slice A l.length cp ∧ l.length ≤ maxLen ∧ (A = none → l.length = 0 ∧ cp = 0) ∧ l.length ≤ cp ∧ (l.length = 0 ∨ ∃ el sp, y.1 = .slice el sp ∧ el.length = l.length) ∧
      (0 < l.length → ∃ g o, A = some ⟨g, o, none⟩ ∧ g < W.heap.size ∧ ∀ i (h : i < l.length), ∃ cs, R l[i] cs ∧ ∀ j, j < size → W.cell? ⟨g, o + i * size + j, none⟩ = cs[j]?) ∧ ∀ x ∈ l, ∃ cs, R x cs := by
  rcases Go.Deep.open_slice hu h with ⟨e, _⟩ | ⟨a, len, cap, m, n', D, Pl, e, _, hl, hm, hmm, hy, hc⟩
  · simp only [List.cons.injEq, and_true] at e
    subst e
    exact ⟨none, 0, [], rfl, by simp [maxLen], fun _ => ⟨rfl, rfl⟩, Nat.le_refl _, .inl rfl, fun h => by simp at h, by simp⟩
  · simp only [List.cons.injEq, and_true] at e
    subst e
    have hm2 : len ≤ m := by rw [hmm]; split <;> omega
    rw [hcs] at hc
    have each : ∀ i, i < m → ∃ q : α × List Value, W.cells? 0 (a.add (i * size)) size = some q.2 ∧ R q.1 q.2 := fun i hi => by
      obtain ⟨cs', h1, h2⟩ := hc i hi
      obtain ⟨x, hx⟩ := hel _ _ _ h2
      exact ⟨(x, cs'), h1, hx⟩
    obtain ⟨F, hF⟩ := Go.Deep.choose_lt each
    refine ⟨some a, cap, (List.range len).map fun i => (F i).1, by simp, by simp; omega, fun h => (by cases h), by simpa using hl, .inr ⟨_, _, by rw [hy], by simp⟩, fun h0 => ?_, fun x hx => ?_⟩
    · have h0' : 0 < len := by simpa using h0
      have hcell : ∀ i, i < len → ∀ j, j < size → W.cell? ((a.add (i * size)).add j) = (F i).2[j]? := fun i hi j hj => (World.cells?_some (hF i (by omega)).1).2.2 j hj
      have hlen : ∀ i, i < len → (F i).2.length = size := fun i hi => (World.cells?_some (hF i (by omega)).1).2.1
      have hz := hcell 0 h0' 0 hs
      have hz' : W.cell? a = some ((F 0).2[0]'(by rw [hlen 0 h0']; exact hs)) := by
        rw [List.getElem?_eq_getElem (by rw [hlen 0 h0']; exact hs)] at hz
        have e0 : (a.add (0 * size)).add 0 = a := by simp [Addr.add]
        rw [e0] at hz; exact hz
      have hsp := World.cell?_spot hz'
      obtain ⟨g, o, sp⟩ := a
      simp only at hsp
      subst hsp
      refine ⟨g, o, rfl, World.block_lt_of_cell? _ _ hz', fun i hi => ?_⟩
      have hi' : i < len := by simpa using hi
      have ei : ((List.range len).map fun i => (F i).1)[i] = (F i).1 := by simp
      refine ⟨(F i).2, by rw [ei]; exact (hF i (by omega)).2, fun j hj => ?_⟩
      have ad : ((⟨g, o, none⟩ : Addr).add (i * size)).add j = ⟨g, o + i * size + j, none⟩ := by
        unfold Addr.add
        split <;> split <;> simp_all
      rw [← ad]; exact hcell i hi' j hj
    · obtain ⟨i, hi, rfl⟩ := List.mem_map.1 hx
      have hi' : i < len := by simpa using hi
      exact ⟨(F i).2, (hF i (by omega)).2⟩
/-- What a header that is handed in is known to be. -/
def WideH (h : Hd.Hdr) : Prop := h.name.length ≤ maxLen ∧ h.value.length ≤ maxLen
def RH (_ : World) (h : Hd.Hdr) (l : List Value) : Prop := l = hdC h ∧ WideH h
theorem cellsH : Try.prog.cellsOf 38 = 2 := by kernel_rfl
instance : Inhabited Hd.Hdr := ⟨⟨[], []⟩⟩
theorem one_str {n : Nat} {c : Value} {y : Option (DataW H × List MemPlace)} (h : DataW.trod enc Try.prog W 0 (fun _ => true) true n 9 [c] = y) (hy : y.isSome = true) : ∃ s : ByteArray, c = .string s ∧ s.size ≤ maxLen := by
  obtain ⟨z, rfl⟩ := Option.isSome_iff_exists.1 hy
  obtain ⟨s, e0, _, hs⟩ := DataW.trod_string Try.underlying9 h
  simp only [List.cons.injEq, and_true] at e0
  exact ⟨s, e0, hs⟩
set_option maxRecDepth 100000 in
set_option maxHeartbeats 1000000 in
theorem open_hdr {n : Nat} {l : List Value} {y : DataW H × List MemPlace} (h : DataW.trod enc Try.prog W 0 (fun _ => true) true n 38 l = some y) : ∃ x, RH W x l := by
  obtain ⟨xs, m, _, _, hsz, hlen, hfs⟩ := DataW.trod_struct Try.underlying38 h
  rw [cellsH] at hsz
  match l, hsz with
  | [c0, c1], _ =>
    have hlen' : xs.length = 2 := hlen
    have g : ∀ i, i < 2 → (xs[i]?).isSome = true := fun i hi => by rw [List.getElem?_eq_getElem (by omega)]; rfl
    have f0 := hfs 0 _ rfl
    have f1 := hfs 1 _ rfl
    obtain ⟨s0, rfl, h0⟩ := one_str f0 (g 0 (by omega))
    obtain ⟨s1, rfl, h1⟩ := one_str f1 (g 1 (by omega))
    exact ⟨⟨s0.data.toList, s1.data.toList⟩, rfl, by simpa using h0, by simpa using h1⟩
/-- A list of headers that is handed in. -/
structure WideHs (W : World) (A : Option Addr) (c : Nat) (l : List Hd.Hdr) : Prop where
  seen : SeenH W A l
  len : l.length ≤ maxLen
  cap : l.length ≤ c
  nl : A = none → l.length = 0 ∧ c = 0
  each : ∀ h ∈ l, WideH h
set_option maxRecDepth 100000 in
theorem open_heads (hv : Value.okWide Try.prog W .any b0 29 v) (h : DataW.Trod enc Try.prog W 0 (fun _ => true) true 29 v d ps) :
    ∃ (A : Option Addr) (c : Nat) (l : List Hd.Hdr), v = .slice A l.length c ∧ WideHs W A c l ∧ (l.length = 0 ∨ ∃ el sp, d = .slice el sp ∧ el.length = l.length) := by
  obtain ⟨fuel, hf⟩ := h
  have hcell : v.cells.toList = [v] := by
    obtain ⟨a, l, c, rfl⟩ := okWide_slice Try.underlying29 hv
    rfl
  rw [hcell] at hf
  obtain ⟨A, cp, l, e, hl, hnl, hcp, hsl, hc, ha⟩ := open_rows Try.underlying29 cellsH (by decide) (RH W) (fun n l y h => open_hdr h) hf
  refine ⟨A, cp, l, e, ⟨fun hn => ?_, hl, hcp, hnl, fun x hx => ?_⟩, hsl⟩
  · obtain ⟨g, o, hA, hg, hi⟩ := hc hn
    refine ⟨g, o, hA, hg, fun i h => ?_⟩
    obtain ⟨cs, ⟨rfl, _⟩, hcell⟩ := hi i h
    exact ⟨hcell 0 (by omega), hcell 1 (by omega)⟩
  · obtain ⟨cs, _, hw⟩ := ha x hx
    exact hw
set_option maxRecDepth 100000 in
theorem open_head (hv : Value.okWide Try.prog W .any b0 38 v) (h : DataW.Trod enc Try.prog W 0 (fun _ => true) true 38 v d ps) :
    ∃ x : Hd.Hdr, v = .agg #[.string (bA x.name), .string (bA x.value)] ∧ WideH x := by
  obtain ⟨cs, rfl, hsz⟩ := okWide_struct Try.underlying38 hv
  obtain ⟨fuel, hf⟩ := h
  obtain ⟨x, hx, hw⟩ := open_hdr hf
  refine ⟨x, ?_, hw⟩
  have hx' : cs.toList = hdC x := hx
  rw [← Array.toArray_toList (xs := cs), hx']
  rfl
theorem bytesH : Try.prog.bytesOf 38 = 32 := by kernel_rfl
theorem sized_heads {ts : List TypeId} {ds : List (DataW H)} {l : List Hd.Hdr} (h : (DataW.weightsEach Try.prog ts ds).all (· ≤ reachBytes) = true) {j : Nat} (ht : ts[j]? = some 29) (hd : ds[j]? = some d) (hx : l.length = 0 ∨ ∃ el sp, d = .slice el sp ∧ el.length = l.length) : l.length * 32 ≤ 140737488351232 := by
  rcases hx with h0 | ⟨el, sp, rfl, hl⟩
  · omega
  · have := sized_slice h ht hd Try.underlying29
    rw [bytesH] at this
    have e : reachBytes = 140737488351232 := rfl
    rw [e] at this
    omega
end
theorem own : ownKnob Try.prog.godebug = none := by kernel_rfl
theorem laidOut : laidOutB Try.prog = true := by kernel_rfl
end Go.Proofs.Ytcmbckacbdiebaa
