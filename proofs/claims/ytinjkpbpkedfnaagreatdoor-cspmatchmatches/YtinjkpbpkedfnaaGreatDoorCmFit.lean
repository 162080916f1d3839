/- What is asked of origins, texts and lists that are handed to what decides: sizes. Lists of origins; source expressions that are handed in. -/
import Derived.Test.YtinjkpbpkedfnaaGreatDoorCmRef9
import Derived.Test.YtinjkpbpkedfnaaGreatDoorOrgOpen
import Derived.Test.YtinjkpbpkedfnaaGreatDoorCsOpen
namespace Go.Proofs.YtinjkpbpkedfnaaGreatDoor
open Go.ChangeShapes Go.WideShapes Go.ChangeAt Go.RowKit

/-- An origin that is not too great. -/
structure FitM (o : Orig) : Prop where
  a0 : 0 ≤ o.host.addr
  a1 : o.host.addr ≤ 4294967295
  nm : o.host.name.length ≤ 10000
  sc : o.scheme.length ≤ maxLen
/-- A source expression that is not too great. -/
structure FitS (s : Cm.Src) : Prop where
  hs : s.host.length ≤ 10000
  sc : s.scheme.length ≤ maxLen
theorem quad_len (o : Hst.Host) (h : o.name.length ≤ 10000) (a0 : 0 ≤ o.addr) (a1 : o.addr ≤ 4294967295) : (textL o).length ≤ 100000 := by
  have hq := quad_join o.addr a0 a1
  unfold textL
  split <;> omega
theorem FitM.fit {o : Orig} (h : FitM o) : FitO o := ⟨h.a0, h.a1, Nat.le_trans (quad_len o.host h.nm h.a0 h.a1) (by decide)⟩

section
variable {H : Type} {enc : TypeId × Value → H} {W : World} {b0 : Nat} {v : Value} {d : DataW H} {ps : List MemPlace}
/-- What is known of a source expression that is handed in. -/
structure WideS (s : Cm.Src) : Prop where
  k0 : -9223372036854775808 ≤ s.kind
  k1 : s.kind ≤ 9223372036854775807
  sc : s.scheme.length ≤ maxLen
  hs : s.host.length ≤ maxLen
  p0 : -9223372036854775808 ≤ s.port
  p1 : s.port ≤ 9223372036854775807
theorem cellsSrc : Tryz.prog.cellsOf 24 = 4 := by kernel_rfl
set_option maxRecDepth 100000 in
set_option maxHeartbeats 1000000 in
theorem open_src (hv : Value.okWide Tryz.prog W .any b0 24 v) (h : DataW.Trod enc Tryz.prog W 0 (fun _ => true) true 24 v d ps) : ∃ s : Cm.Src, v = srcV s ∧ WideS s := by
  obtain ⟨cs, rfl, hsz⟩ := okWide_struct Tryz.underlying24 hv
  rw [cellsSrc] at hsz
  obtain ⟨l, rfl⟩ : ∃ l : List Value, cs = l.toArray := ⟨cs.toList, by simp⟩
  have hl : l.length = 4 := by simpa using hsz
  match l, hl with
  | [c0, c1, c2, c3], _ =>
    obtain ⟨fuel, hf⟩ := h
    obtain ⟨xs, n, _, _, _, hlen, hfs⟩ := DataW.trod_struct Tryz.underlying24 hf
    have hlen' : xs.length = 4 := hlen
    have g : ∀ i, i < 4 → (xs[i]?).isSome = true := fun i hi => by rw [List.getElem?_eq_getElem (by omega)]; rfl
    have f0 := hfs 0 _ rfl
    have f1 := hfs 1 _ rfl
    have f2 := hfs 2 _ rfl
    have f3 := hfs 3 _ rfl
    simp only [Value.cells] at f0 f1 f2 f3
    obtain ⟨i0, rfl, k0, k1⟩ := one_int f0 (g 0 (by omega))
    obtain ⟨s0, rfl, h0⟩ := one_str f1 (g 1 (by omega))
    obtain ⟨s1, rfl, h1⟩ := one_str f2 (g 2 (by omega))
    obtain ⟨p0, rfl, k4, k5⟩ := one_int f3 (g 3 (by omega))
    exact ⟨⟨i0, s0.data.toList, s1.data.toList, p0⟩, rfl, ⟨k0, k1, by simpa using h0, by simpa using h1, k4, k5⟩⟩
instance : Inhabited Orig := ⟨zeroO⟩
set_option maxRecDepth 100000 in
set_option maxHeartbeats 1000000 in
theorem org_el {n : Nat} {l : List Value} {y : DataW H × List MemPlace} (hf : DataW.trod enc Tryz.prog W 0 (fun _ => true) true n 31 l = some y) : ∃ o : Orig, l = (oCells o).toList ∧ WideO o := by
  obtain ⟨xs, m, _, _, hsz, hlen, hfs⟩ := DataW.trod_struct Tryz.underlying31 hf
  rw [cellsO] at hsz
  match l, hsz with
  | [c0, c1, c2, c3, c4, c5, c6], _ =>
    have hlen' : xs.length = 5 := hlen
    have g : ∀ i, i < 5 → (xs[i]?).isSome = true := fun i hi => by rw [List.getElem?_eq_getElem (by omega)]; rfl
    have f0 := hfs 0 _ rfl
    have f1 := hfs 1 _ rfl
    have f2 := hfs 2 _ rfl
    have f3 := hfs 3 _ rfl
    have f4 := hfs 4 _ rfl
    obtain ⟨b0, rfl⟩ := one_bool f0 (g 0 (by omega))
    obtain ⟨i0, rfl, k0, k1⟩ := one_int f1 (g 1 (by omega))
    obtain ⟨s0, rfl, k2, kd⟩ := one_strd f2 (g 2 (by omega))
    obtain ⟨p0, rfl, k4, k5⟩ := one_int f4 (g 4 (by omega))
    obtain ⟨z, hz⟩ := Option.isSome_iff_exists.1 (g 3 (by omega))
    rw [hz] at f3
    obtain ⟨ys, m, _, _, _, hlen2, hgs⟩ := DataW.trod_struct Tryz.underlying29 f3
    have hlen2' : ys.length = 3 := hlen2
    have g2 : ∀ i, i < 3 → (ys[i]?).isSome = true := fun i hi => by rw [List.getElem?_eq_getElem (by omega)]; rfl
    have e0 := hgs 0 _ rfl
    have e1 := hgs 1 _ rfl
    have e2 := hgs 2 _ rfl
    obtain ⟨t0, rfl, j0⟩ := one_str e0 (g2 0 (by omega))
    obtain ⟨t1, rfl⟩ := one_bool e1 (g2 1 (by omega))
    obtain ⟨t2, rfl, j2, j3⟩ := one_u32 e2 (g2 2 (by omega))
    refine ⟨⟨b0, i0, s0.data.toList, ⟨t0.data.toList, t1, t2⟩, p0⟩, rfl, ⟨k0, k1, ?_, ?_, j2, j3, k4, k5⟩⟩
    · simp; assumption
    · simp; assumption
/-- A list of origins that is handed in. -/
structure WideOs (W : World) (A : Option Addr) (c : Nat) (l : List Orig) : Prop where
  seen : SeenOs W A l
  len : l.length ≤ maxLen
  cap : l.length ≤ c
  nl : A = none → l.length = 0 ∧ c = 0
  each : ∀ o ∈ l, WideO o
set_option maxRecDepth 100000 in
theorem open_origs (hv : Value.okWide Tryz.prog W .any b0 37 v) (h : DataW.Trod enc Tryz.prog W 0 (fun _ => true) true 37 v d ps) :
    ∃ (A : Option Addr) (c : Nat) (l : List Orig), v = .slice A l.length c ∧ WideOs W A c l := by
  obtain ⟨fuel, hf⟩ := h
  have hcell : v.cells.toList = [v] := by
    obtain ⟨a, l, c, rfl⟩ := okWide_slice Tryz.underlying37 hv
    rfl
  rw [hcell] at hf
  obtain ⟨A, cp, l, e, hl, hnl, hcp, _, hc, ha⟩ := open_rows Tryz.underlying37 cellsO (by decide) (fun (o : Orig) (l : List Value) => l = (oCells o).toList ∧ WideO o) (fun n l y h => org_el h) hf
  refine ⟨A, cp, l, e, ⟨fun hn => ?_, hl, hcp, hnl, fun x hx => ?_⟩⟩
  · obtain ⟨g, o, hA, hg, hi⟩ := hc hn
    refine ⟨g, o, hA, hg, fun i h j hj => ?_⟩
    obtain ⟨cs, ⟨rfl, _⟩, hcell⟩ := hi i h
    rw [hcell j hj]
    simp
  · obtain ⟨cs, ⟨_, hw⟩⟩ := ha x hx
    exact hw
end
end Go.Proofs.YtinjkpbpkedfnaaGreatDoor
