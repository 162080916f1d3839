/- How an argument that is an origin is opened. -/
import Derived.Test.YtinjkpbpkedfnaaGreatDoorOnes
import Derived.Test.YtinjkpbpkedfnaaGreatDoorOrigAll
import Derived.SizedLaws
namespace Go.Proofs.YtinjkpbpkedfnaaGreatDoor
open Go.ChangeShapes Go.WideShapes Go.ChangeAt Go.RowKit

/-- What is known of an origin that is handed in. -/
structure WideO (o : Orig) : Prop where
  i0 : -9223372036854775808 ≤ o.id
  i1 : o.id ≤ 9223372036854775807
  sc : o.scheme.length ≤ maxLen
  hn : o.host.name.length ≤ maxLen
  a0 : 0 ≤ o.host.addr
  a1 : o.host.addr ≤ 4294967295
  p0 : -9223372036854775808 ≤ o.port
  p1 : o.port ≤ 9223372036854775807
theorem cellsO : Tryz.prog.cellsOf 31 = 7 := by kernel_rfl
section
variable {H : Type} {enc : TypeId × Value → H} {W : World} {b0 : Nat} {v : Value} {d : DataW H} {ps : List MemPlace}
set_option maxRecDepth 100000 in
set_option maxHeartbeats 1000000 in
theorem open_orig (hv : Value.okWide Tryz.prog W .any b0 31 v) (h : DataW.Trod enc Tryz.prog W 0 (fun _ => true) true 31 v d ps) : ∃ o : Orig, v = origV o ∧ WideO o ∧ ∃ ys : List (DataW H), d = .agg ys ∧ ys[2]? = some (.lit (.string o.scheme)) := by
  obtain ⟨cs, rfl, hsz⟩ := okWide_struct Tryz.underlying31 hv
  rw [cellsO] at hsz
  obtain ⟨l, rfl⟩ : ∃ l : List Value, cs = l.toArray := ⟨cs.toList, by simp⟩
  have hl : l.length = 7 := by simpa using hsz
  match l, hl with
  | [c0, c1, c2, c3, c4, c5, c6], _ =>
    obtain ⟨fuel, hf⟩ := h
    obtain ⟨xs, n, _, hx, _, hlen, hfs⟩ := DataW.trod_struct Tryz.underlying31 hf
    have hlen' : xs.length = 5 := hlen
    have g : ∀ i, i < 5 → (xs[i]?).isSome = true := fun i hi => by rw [List.getElem?_eq_getElem (by omega)]; rfl
    have f0 := hfs 0 _ rfl
    have f1 := hfs 1 _ rfl
    have f2 := hfs 2 _ rfl
    have f3 := hfs 3 _ rfl
    have f4 := hfs 4 _ rfl
    simp only [Value.cells] at f0 f1 f2 f3 f4
    obtain ⟨b0, rfl⟩ := one_bool f0 (g 0 (by omega))
    obtain ⟨i0, rfl, k0, k1⟩ := one_int f1 (g 1 (by omega))
    obtain ⟨s0, rfl, k2, kd⟩ := one_strd f2 (g 2 (by omega))
    obtain ⟨p0, rfl, k4, k5⟩ := one_int f4 (g 4 (by omega))
    obtain ⟨z, hz⟩ := Option.isSome_iff_exists.1 (g 3 (by omega))
    rw [hz] at f3
    obtain ⟨ys, m, _, _, _, hlen2, hgs⟩ := DataW.trod_struct Tryz.underlying29 f3
    have hlen2' : ys.length = 3 := hlen2
    have g2 : ∀ i, i < 3 → (ys[i]?).isSome = true := fun i hi => by rw [List.getElem?_eq_getElem (by omega)]; rfl
    have e0 := hgs 0 _ rfl
    have e1 := hgs 1 _ rfl
    have e2 := hgs 2 _ rfl
    obtain ⟨t0, rfl, j0⟩ := one_str e0 (g2 0 (by omega))
    obtain ⟨t1, rfl⟩ := one_bool e1 (g2 1 (by omega))
    obtain ⟨t2, rfl, j2, j3⟩ := one_u32 e2 (g2 2 (by omega))
    have hx1 : d = .agg (xs.map (·.1)) := congrArg Prod.fst hx
    refine ⟨⟨b0, i0, s0.data.toList, ⟨t0.data.toList, t1, t2⟩, p0⟩, rfl, ⟨k0, k1, ?_, ?_, j2, j3, k4, k5⟩, xs.map (·.1), hx1, ?_⟩
    · simp; assumption
    · simp; assumption
    · rw [List.getElem?_map, kd]; rfl
theorem sized_orig {ts : List TypeId} {ds : List (DataW H)} (h : (DataW.weightsEach Tryz.prog ts ds).all (· ≤ reachBytes) = true) {j : Nat} {ys : List (DataW H)} {l : List UInt8} (ht : ts[j]? = some 31) (hd : ds[j]? = some (.agg ys)) (hy : ys[2]? = some (.lit (.string l))) : l.length ≤ 140737488351232 := by
  have hm : l.length ∈ DataW.weights Tryz.prog 31 (.agg ys) := by
    have h1 := DataW.weights_mem_each (P := Tryz.prog) (ts := (Tryz.prog.fieldsOf 31).toList.map (·.type)) (ds := ys) (j := 2) (t := 9) (d := .lit (.string l)) (by kernel_rfl) hy l.length (by simp [DataW.weights])
    simpa [DataW.weights, Tryz.underlying31, Program.fieldsOf] using h1
  have := List.all_eq_true.1 h _ (DataW.weights_mem_each ht hd l.length hm)
  have h2 := of_decide_eq_true this
  simpa [reachBytes] using h2
end
end Go.Proofs.YtinjkpbpkedfnaaGreatDoor
