/- The contracts of guard at values, at lists of parameters and at strings. -/
import Derived.Test.YtgddmihojladfaaGreatDoorSfGuardI
namespace Go.Proofs.YtgddmihojladfaaGreatDoor
open Go.RowKit Go.Shelf Go.Maps Go.Deep

/-- What guard answers of a value. -/
def GrdV (w : World) (b : Nat) (o : Option (Sf.Par × List UInt8)) (e : Ending) (w' : World) : Prop :=
  w.grownBy w' (some b) ∧ ((∃ x r, o = some (x, r) ∧ e = .returned (.tuple #[valV x, .string (bA r), .int .i64 0])) ∨ (o = none ∧ e = .returned (.tuple #[valV ⟨[], 0, 0, []⟩, .string ⟨#[]⟩, .int .i64 50])))
theorem results_grdV {fn : Func} (h : fn.results = #[.cell 4 111, .tmp 5, .cell 6 67]) (tmps : Array Value) (w : World) {B C : Nat} {x : Sf.Par} {m : Int} (hp : tmps[4]?.getD undef = .pointer (some ⟨B, 0, none⟩)) (hq : tmps[6]?.getD undef = .pointer (some ⟨C, 0, none⟩)) (hb : CBox w B 111 (vC x)) (hc : Boxed w C 67 (.int .i64 m)) :
    (results fn tmps).run Tryz.prog w = .ok (.tuple #[valV x, tmps.getD 5 undef, .int .i64 m]) w := by
  have hl := load_val hb
  have hm := load_err hc
  simp [results, h, hp, hq, hl, hm, asAddr]
theorem results_grdS {fn : Func} (h : fn.results = #[.tmp 4, .tmp 5, .cell 6 67]) (tmps : Array Value) (w : World) {C : Nat} {m : Int} (hq : tmps[6]?.getD undef = .pointer (some ⟨C, 0, none⟩)) (hc : Boxed w C 67 (.int .i64 m)) :
    (results fn tmps).run Tryz.prog w = .ok (.tuple #[tmps.getD 4 undef, tmps.getD 5 undef, .int .i64 m]) w := by
  have hm := load_err hc
  simp [results, h, hq, hm, asAddr]

/-- What guard answers there. -/
def GrdL (w : World) (b : Nat) (o : Option (List Sf.Par × List UInt8)) (e : Ending) (w' : World) : Prop :=
  w.grownBy w' (some b) ∧ ((∃ l r v, o = some (l, r) ∧ e = .returned (.tuple #[v, .string (bA r), .int .i64 0]) ∧ w'.ownsRow w.heap.size 72 4 v l.length (parsRow l)) ∨ (o = none ∧ e = .returned (.tuple #[.slice none 0 0, .string ⟨#[]⟩, .int .i64 50])))
theorem keyo_split {o : Option (List UInt8 × List UInt8)} {v : Value} {r : List UInt8} (h : mapK o = some (v, r)) : ∃ k, v = .string (bA k) ∧ o = some (k, r) := by
  cases o with
  | none => cases h
  | some x => simp only [mapK, Option.map_some, Option.some.injEq, Prod.mk.injEq] at h; exact ⟨x.1, h.1.symm, by rw [← h.2]⟩
theorem key_no {o : Option (List UInt8 × List UInt8)} (h : mapK o = none) : o = none := by cases o; rfl; cases h

/-- What guard answers there. -/
def GrdK (w : World) (b : Nat) (o : Option (List UInt8 × List UInt8)) (e : Ending) (w' : World) : Prop :=
  w.grownBy w' (some b) ∧ ((∃ k r, o = some (k, r) ∧ e = .returned (.tuple #[.string (bA k), .string (bA r), .int .i64 0])) ∨ (o = none ∧ e = .returned (.tuple #[.string ⟨#[]⟩, .string ⟨#[]⟩, .int .i64 50])))
end Go.Proofs.YtgddmihojladfaaGreatDoor
