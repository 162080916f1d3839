/- What the statements' frames share: the listed tables, the witness's heap, and how arguments are opened. -/
import Derived.Test.YtknadldebedpiaaDoorRows
import Derived.Test.YtknadldebedpiaaDoorHostSite
import Derived.ProofKit
import Derived.LaidMore
import Derived.OpenShut
import Derived.Stop.Joined
import Derived.Stop.LaidErr
import Derived.Carry
import Derived.Deep.Strs
import Derived.Lib.SmallJoins
import Derived.Lib.LaidTab
import Derived.ShutString
namespace Go.Proofs.YtknadldebedpiaaDoor
open Go.ChangeShapes Go.WideShapes Go.ChangeAt Go.RowKit

theorem own : ownKnob Tryd.prog.godebug = none := by kernel_rfl
theorem laidOut : laidOutB Tryd.prog = true := by kernel_rfl
theorem gPow : Tryd.prog.globalNamed "internal/strconv.uint64pow10" = some 1 := by kernel_rfl
theorem tPow : (Tryd.prog.globals[1]?).map (·.type) = some 79 := by kernel_rfl
theorem cellsPow : Tryd.prog.cellsOf 79 = 20 := by kernel_rfl
theorem cells64 : Tryd.prog.cellsOf 69 = 1 := by kernel_rfl
theorem cellsS : Tryd.prog.cellsOf 9 = 1 := by kernel_rfl
theorem cellsH : Tryd.prog.cellsOf 25 = 3 := by kernel_rfl
def laidL : List (String × DataW Unit) := Rows.hostNamesRow.laid

theorem door_met (os : Os) (args : Array Value) : laidMetH Tryd.prog laidL ((World.doorLaid Tryd.prog 24 os).forCall (fun _ _ => 0) ⟨#[], args, []⟩).memory :=
  laidMetH_of_parts3 (fuel := 8) (laidMet_of_run' 8 (by kernel_rfl) (by kernel_rfl)) (by kernel_rfl) (by kernel_rfl)

theorem pow_data : (Rows.laid_internal_strconv_uint64pow10 : DataW Unit) = Lib.tabData .u64 Lib.pow10Tab := by kernel_rfl
theorem tab_of {W : World} (h : laidMetH Tryd.prog laidL W) : Tab W := by
  rw [MakeChecks.laidMetH_plain _ _ _ (by kernel_rfl)] at h
  have h2 : laidMet Tryd.prog [("math/bits.deBruijn32tab", Rows.laid_math_bits_deBruijn32tab), ("math/bits.deBruijn64tab", Rows.laid_math_bits_deBruijn64tab), ("internal/strconv.uint64pow10", Rows.laid_internal_strconv_uint64pow10)] W := h
  have h3 := laidMet.tail (laidMet.tail h2)
  rw [pow_data] at h3
  exact Lib.tabIs_of_head gPow tPow Tryd.underlying79 Tryd.underlying69 cells64 cellsPow h3

section
variable {H : Type} {enc : TypeId × Value → H} {W : World} {b0 : Nat} {v : Value} {d : DataW H} {ps : List MemPlace}
theorem open_host (hv : Value.okWide Tryd.prog W .any b0 25 v) (h : DataW.Trod enc Tryd.prog W 0 (fun _ => true) true 25 v d ps) :
    ∃ (n : ByteArray) (b : Bool) (a : Int), v = .agg #[.string n, .bool b, .int .u32 a] ∧ n.size ≤ maxLen ∧ 0 ≤ a ∧ a ≤ 4294967295 := by
  obtain ⟨v0, v1, v2, y0, y1, y2, m, rfl, _, _, h0, h1, h2⟩ := Joins.open_agg3 Tryd.underlying25 (by kernel_rfl) cellsH hv h
  obtain ⟨n, e0, _, hn⟩ := DataW.trod_string Tryd.underlying9 h0
  obtain ⟨b, e1, _⟩ := DataW.trod_bool Tryd.underlying4 h1
  obtain ⟨a, e2, _, ha⟩ := DataW.trod_int Tryd.underlying23 h2
  have ha2 := bounds_u32 ha
  simp only [List.cons.injEq, and_true] at e0 e1 e2
  subst e0; subst e1; subst e2
  exact ⟨n, b, a, rfl, hn, ha2.1, ha2.2⟩
theorem open_texts (hv : Value.okWide Tryd.prog W .any b0 30 v) (h : DataW.Trod enc Tryd.prog W 0 (fun _ => true) true 30 v d ps) :
    ∃ (A : Option Addr) (c : Nat) (sx : List (List UInt8)), v = .slice A sx.length c ∧ Seen W A sx ∧ sx.length ≤ maxLen ∧ (∀ s ∈ sx, s.length ≤ maxLen) ∧ (A = none → sx.length = 0 ∧ c = 0) := by
  obtain ⟨fuel, hf⟩ := h
  have hcell : v.cells.toList = [v] := by
    obtain ⟨a, l, c, rfl⟩ := okWide_slice Tryd.underlying30 hv
    rfl
  rw [hcell] at hf
  rcases Go.Deep.open_strs Tryd.underlying30 Tryd.underlying9 cellsS hf with ⟨e, _⟩ | ⟨a, len, cap, m, Sx, e, _, hl, hm, hmm, _, hc⟩
  · simp only [List.cons.injEq, and_true] at e
    subst e
    exact ⟨none, 0, [], rfl, fun h => absurd h (by simp), by simp [maxLen], by simp, fun _ => ⟨rfl, rfl⟩⟩
  · simp only [List.cons.injEq, and_true] at e
    subst e
    have hm2 : len ≤ m := by rw [hmm]; split <;> omega
    refine ⟨some a, cap, (List.range len).map fun i => (Sx i).data.toList, by simp, fun h => ?_, by simp; omega, ?_, fun h => by cases h⟩
    · refine ⟨a, rfl, ?_, fun i hi => ?_⟩
      · have h0 := (hc 0 (by simp at h; omega)).1
        have := World.block_lt_of_cell? _ _ h0
        rwa [add_block] at this
      · have hi' : i < len := by simpa using hi
        rw [(hc i (by omega)).1]
        simp [Oct.strV]
    · intro s hs
      obtain ⟨i, hi, rfl⟩ := List.mem_map.1 hs
      have hi' : i < len := by simpa using hi
      have := (hc i (by omega)).2
      simpa using this
end
end Go.Proofs.YtknadldebedpiaaDoor
