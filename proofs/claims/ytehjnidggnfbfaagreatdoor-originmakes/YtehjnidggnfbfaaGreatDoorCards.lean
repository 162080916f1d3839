/-
  DERIVED. GIVEN WITH THE SEED: THE CARDS: each row of YtehjnidggnfbfaaGreatDoorRows.lean that lists a variable, with what it lists TIED to the program's text (the seventh form; the later family's looks); each row that meets fmt, with fmt's text TOLD by the authors' own Lean function (tested against real Go, not proved from fmt's source: count such statements apart). THE CARD IS WHAT COUNTS. Prove the row's statement (the work); the ties are given (YtehjnidggnfbfaaGreatDoorTie.lean); close each card by the builder's one call (the guide's Derived/Test/ToyasCard.lean, 'card_holds'). Laid BY PROGRAM, IN A SANDBOX (cutbox-door.mjs). By AI agents, Wed Nov 11 2026. No macro, syntax, notation, axiom, sorry.
-/
import Derived.Test.YtehjnidggnfbfaaGreatDoorRows
import GoSem.ClaimSeven
namespace Go.Proofs.YtehjnidggnfbfaaGreatDoor
namespace Rows

/-- THE TIED CARD OF 'glacislaw04.OriginMakes'. -/
def originMakesCard : Claim7 := { stood := { row := originMakesRow, standIns := [], harness := (true, "07a04f4a86e6e07330605c257bb717b74c6f819676474d842082055ffbc11bf9"), looks := false }, kinds := [], alts := [], laidByText := true, laidKinds := [.data, .data, .data, .data, .pinned], laidTests := true, laidLooks := .later }
def OriginMakesCardSaid : Prop := Claim7.holds Tryz.pinned (.plain (OpenSpec.ofChange originMakesSpec)) originMakesCard

/-- THE TIED CARD OF 'glacislaw04.OriginHolds'. -/
def originHoldsCard : Claim7 := { stood := { row := originHoldsRow, standIns := [], harness := (true, "07a04f4a86e6e07330605c257bb717b74c6f819676474d842082055ffbc11bf9"), looks := false }, kinds := [], alts := [], laidByText := true, laidKinds := [.data, .data, .data, .data, .pinned], laidTests := true, laidLooks := .later }
def OriginHoldsCardSaid : Prop := Claim7.holds Tryz.pinned (.plain (OpenSpec.ofChange originHoldsSpec)) originHoldsCard

/-- THE SECOND FORM's CARD OF 'glacislaw04.OriginMakes'. -/
def originMakesUptoCard : Claim7 := { stood := { row := originMakesUptoRow, standIns := [], harness := (true, "07a04f4a86e6e07330605c257bb717b74c6f819676474d842082055ffbc11bf9"), looks := false }, kinds := [], alts := [], laidByText := true, laidKinds := [.data, .data, .data, .data, .pinned], laidTests := true, laidLooks := .later }
def OriginMakesUptoCardSaid : Prop := Claim7.holds Tryz.pinned (.plain (OpenSpec.upto originMakesSpec)) originMakesUptoCard

/-- THE SECOND FORM's CARD OF 'glacislaw04.OriginHolds'. -/
def originHoldsUptoCard : Claim7 := { stood := { row := originHoldsUptoRow, standIns := [], harness := (true, "07a04f4a86e6e07330605c257bb717b74c6f819676474d842082055ffbc11bf9"), looks := false }, kinds := [], alts := [], laidByText := true, laidKinds := [.data, .data, .data, .data, .pinned], laidTests := true, laidLooks := .later }
def OriginHoldsUptoCardSaid : Prop := Claim7.holds Tryz.pinned (.plain (OpenSpec.upto originHoldsSpec)) originHoldsUptoCard
end Rows
end Go.Proofs.YtehjnidggnfbfaaGreatDoor
