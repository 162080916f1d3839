/- How an argument that is a URL is opened. -/
import Derived.Test.YtehjnidggnfbfaaGreatDoorUrlpFrame
import Derived.Test.YtehjnidggnfbfaaGreatDoorUrlpBox
namespace Go.Proofs.YtehjnidggnfbfaaGreatDoor
open Go.ChangeShapes Go.WideShapes Go.ChangeAt Go.RowKit

/-- What is known of a URL that is handed in. -/
structure WideU (u : Urp.URL) : Prop where
  sc : u.scheme.length ≤ maxLen
  hn : u.host.name.length ≤ maxLen
  a0 : 0 ≤ u.host.addr
  a1 : u.host.addr ≤ 4294967295
  p0 : -9223372036854775808 ≤ u.port
  p1 : u.port ≤ 9223372036854775807
  pa : u.path.length ≤ maxLen
  qu : u.query.length ≤ maxLen
  re : u.rest.length ≤ maxLen
theorem cellsU : Tryz.prog.cellsOf 26 = 9 := by kernel_rfl
section
variable {H : Type} {enc : TypeId × Value → H} {W : World} {b0 : Nat} {v : Value} {d : DataW H} {ps : List MemPlace}
theorem one_str {n : Nat} {c : Value} {y : Option (DataW H × List MemPlace)} (h : DataW.trod enc Tryz.prog W 0 (fun _ => true) true n 9 [c] = y) (hy : y.isSome = true) : ∃ s : ByteArray, c = .string s ∧ s.size ≤ maxLen := by
  obtain ⟨z, rfl⟩ := Option.isSome_iff_exists.1 hy
  obtain ⟨s, e0, _, hn⟩ := DataW.trod_string Tryz.underlying9 h
  simp only [List.cons.injEq, and_true] at e0
  exact ⟨s, e0, hn⟩
theorem one_bool {n : Nat} {c : Value} {y : Option (DataW H × List MemPlace)} (h : DataW.trod enc Tryz.prog W 0 (fun _ => true) true n 4 [c] = y) (hy : y.isSome = true) : ∃ b : Bool, c = .bool b := by
  obtain ⟨z, rfl⟩ := Option.isSome_iff_exists.1 hy
  obtain ⟨s, e0, _⟩ := DataW.trod_bool Tryz.underlying4 h
  simp only [List.cons.injEq, and_true] at e0
  exact ⟨s, e0⟩
theorem one_u32 {n : Nat} {c : Value} {y : Option (DataW H × List MemPlace)} (h : DataW.trod enc Tryz.prog W 0 (fun _ => true) true n 22 [c] = y) (hy : y.isSome = true) : ∃ a : Int, c = .int .u32 a ∧ 0 ≤ a ∧ a ≤ 4294967295 := by
  obtain ⟨z, rfl⟩ := Option.isSome_iff_exists.1 hy
  obtain ⟨a, e2, _, ha⟩ := DataW.trod_int Tryz.underlying22 h
  simp only [List.cons.injEq, and_true] at e2
  exact ⟨a, e2, (bounds_u32 ha).1, (bounds_u32 ha).2⟩
theorem one_int {n : Nat} {c : Value} {y : Option (DataW H × List MemPlace)} (h : DataW.trod enc Tryz.prog W 0 (fun _ => true) true n 3 [c] = y) (hy : y.isSome = true) : ∃ a : Int, c = .int .i64 a ∧ -9223372036854775808 ≤ a ∧ a ≤ 9223372036854775807 := by
  obtain ⟨z, rfl⟩ := Option.isSome_iff_exists.1 hy
  obtain ⟨a, e2, _, ha⟩ := DataW.trod_int Tryz.underlying3 h
  simp only [List.cons.injEq, and_true] at e2
  obtain ⟨h1, h2⟩ := bounds_i64 ha
  exact ⟨a, e2, by omega, by omega⟩
set_option maxRecDepth 100000 in
set_option maxHeartbeats 1000000 in
theorem open_url (hv : Value.okWide Tryz.prog W .any b0 26 v) (h : DataW.Trod enc Tryz.prog W 0 (fun _ => true) true 26 v d ps) : ∃ u : Urp.URL, v = urlV u ∧ WideU u := by
  obtain ⟨cs, rfl, hsz⟩ := okWide_struct Tryz.underlying26 hv
  rw [cellsU] at hsz
  obtain ⟨l, rfl⟩ : ∃ l : List Value, cs = l.toArray := ⟨cs.toList, by simp⟩
  have hl : l.length = 9 := by simpa using hsz
  match l, hl with
  | [c0, c1, c2, c3, c4, c5, c6, c7, c8], _ =>
    obtain ⟨fuel, hf⟩ := h
    obtain ⟨xs, n, _, _, _, hlen, hfs⟩ := DataW.trod_struct Tryz.underlying26 hf
    have hlen' : xs.length = 7 := hlen
    have g : ∀ i, i < 7 → (xs[i]?).isSome = true := fun i hi => by rw [List.getElem?_eq_getElem (by omega)]; rfl
    have f0 := hfs 0 _ rfl
    have f1 := hfs 1 _ rfl
    have f2 := hfs 2 _ rfl
    have f3 := hfs 3 _ rfl
    have f4 := hfs 4 _ rfl
    have f5 := hfs 5 _ rfl
    have f6 := hfs 6 _ rfl
    simp only [Value.cells] at f0 f1 f2 f3 f4 f5 f6
    obtain ⟨s0, rfl, k0⟩ := one_str f0 (g 0 (by omega))
    obtain ⟨p0, rfl, k2, k3⟩ := one_int f2 (g 2 (by omega))
    obtain ⟨s3, rfl, k4⟩ := one_str f3 (g 3 (by omega))
    obtain ⟨b4, rfl⟩ := one_bool f4 (g 4 (by omega))
    obtain ⟨s5, rfl, k5⟩ := one_str f5 (g 5 (by omega))
    obtain ⟨s6, rfl, k6⟩ := one_str f6 (g 6 (by omega))
    obtain ⟨z, hz⟩ := Option.isSome_iff_exists.1 (g 1 (by omega))
    rw [hz] at f1
    obtain ⟨ys, m, _, _, _, hlen2, hgs⟩ := DataW.trod_struct Tryz.underlying24 f1
    have hlen2' : ys.length = 3 := hlen2
    have g2 : ∀ i, i < 3 → (ys[i]?).isSome = true := fun i hi => by rw [List.getElem?_eq_getElem (by omega)]; rfl
    have e0 := hgs 0 _ rfl
    have e1 := hgs 1 _ rfl
    have e2 := hgs 2 _ rfl
    obtain ⟨t0, rfl, j0⟩ := one_str e0 (g2 0 (by omega))
    obtain ⟨t1, rfl⟩ := one_bool e1 (g2 1 (by omega))
    obtain ⟨t2, rfl, j2, j3⟩ := one_u32 e2 (g2 2 (by omega))
    refine ⟨⟨s0.data.toList, ⟨t0.data.toList, t1, t2⟩, p0, s3.data.toList, b4, s5.data.toList, s6.data.toList⟩, rfl, ⟨?_, ?_, j2, j3, k2, k3, ?_, ?_, ?_⟩⟩
    all_goals (simp; assumption)
end
end Go.Proofs.YtehjnidggnfbfaaGreatDoor
