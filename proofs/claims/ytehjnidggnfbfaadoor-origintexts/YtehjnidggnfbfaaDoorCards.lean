/-
  DERIVED. GIVEN WITH THE SEED: THE CARDS: each row of YtehjnidggnfbfaaDoorRows.lean that lists a variable, with what it lists TIED to the program's text (the seventh form; the later family's looks); each row that meets fmt, with fmt's text TOLD by the authors' own Lean function (tested against real Go, not proved from fmt's source: count such statements apart). THE CARD IS WHAT COUNTS. Prove the row's statement (the work); the ties are given (YtehjnidggnfbfaaDoorTie.lean); close each card by the builder's one call (the guide's Derived/Test/ToyasCard.lean, 'card_holds'). Laid BY PROGRAM, IN A SANDBOX (cutbox-door.mjs). By AI agents, Wed Nov 11 2026. No macro, syntax, notation, axiom, sorry.
-/
import Derived.Test.YtehjnidggnfbfaaDoorRows
import GoSem.ClaimSeven
namespace Go.Proofs.YtehjnidggnfbfaaDoor
namespace Rows

/-- THE TIED CARD OF 'glacislaw04.OriginClasses'. -/
def originClassesCard : Claim7 := { stood := { row := originClassesRow, standIns := [], harness := (true, "f0dbe60ced171fa71aa443edd9903af855d887d54c46acd72bce59f532c5d229"), looks := false }, kinds := [], alts := [], laidByText := true, laidKinds := [.data, .data, .data, .data, .pinned], laidTests := true, laidLooks := .later }
def OriginClassesCardSaid : Prop := Claim7.holds Tryd.pinned (.plain (OpenSpec.ofChange originClassesSpec)) originClassesCard

/-- THE TIED CARD OF 'glacislaw04.OriginTexts'. -/
def originTextsCard : Claim7 := { stood := { row := originTextsRow, standIns := [], harness := (true, "f0dbe60ced171fa71aa443edd9903af855d887d54c46acd72bce59f532c5d229"), looks := false }, kinds := [], alts := [], laidByText := true, laidKinds := [.data, .data, .data, .data, .pinned], laidTests := true, laidLooks := .later }
def OriginTextsCardSaid : Prop := Claim7.holds Tryd.pinned (.plain (OpenSpec.ofChange originTextsSpec)) originTextsCard

/-- THE TIED CARD OF 'glacislaw04.OriginPaths'. -/
def originPathsCard : Claim7 := { stood := { row := originPathsRow, standIns := [], harness := (true, "f0dbe60ced171fa71aa443edd9903af855d887d54c46acd72bce59f532c5d229"), looks := false }, kinds := [], alts := [], laidByText := true, laidKinds := [.data, .data, .data, .data, .pinned], laidTests := true, laidLooks := .later }
def OriginPathsCardSaid : Prop := Claim7.holds Tryd.pinned (.plain (OpenSpec.ofChange originPathsSpec)) originPathsCard

/-- THE TIED CARD OF 'glacislaw04.OriginBlobs'. -/
def originBlobsCard : Claim7 := { stood := { row := originBlobsRow, standIns := [], harness := (true, "f0dbe60ced171fa71aa443edd9903af855d887d54c46acd72bce59f532c5d229"), looks := false }, kinds := [], alts := [], laidByText := true, laidKinds := [.data, .data, .data, .data, .pinned], laidTests := true, laidLooks := .later }
def OriginBlobsCardSaid : Prop := Claim7.holds Tryd.pinned (.plain (OpenSpec.ofChange originBlobsSpec)) originBlobsCard

/-- THE SECOND FORM's CARD OF 'glacislaw04.OriginClasses'. -/
def originClassesUptoCard : Claim7 := { stood := { row := originClassesUptoRow, standIns := [], harness := (true, "f0dbe60ced171fa71aa443edd9903af855d887d54c46acd72bce59f532c5d229"), looks := false }, kinds := [], alts := [], laidByText := true, laidKinds := [.data, .data, .data, .data, .pinned], laidTests := true, laidLooks := .later }
def OriginClassesUptoCardSaid : Prop := Claim7.holds Tryd.pinned (.plain (OpenSpec.upto originClassesSpec)) originClassesUptoCard

/-- THE SECOND FORM's CARD OF 'glacislaw04.OriginTexts'. -/
def originTextsUptoCard : Claim7 := { stood := { row := originTextsUptoRow, standIns := [], harness := (true, "f0dbe60ced171fa71aa443edd9903af855d887d54c46acd72bce59f532c5d229"), looks := false }, kinds := [], alts := [], laidByText := true, laidKinds := [.data, .data, .data, .data, .pinned], laidTests := true, laidLooks := .later }
def OriginTextsUptoCardSaid : Prop := Claim7.holds Tryd.pinned (.plain (OpenSpec.upto originTextsSpec)) originTextsUptoCard

/-- THE SECOND FORM's CARD OF 'glacislaw04.OriginPaths'. -/
def originPathsUptoCard : Claim7 := { stood := { row := originPathsUptoRow, standIns := [], harness := (true, "f0dbe60ced171fa71aa443edd9903af855d887d54c46acd72bce59f532c5d229"), looks := false }, kinds := [], alts := [], laidByText := true, laidKinds := [.data, .data, .data, .data, .pinned], laidTests := true, laidLooks := .later }
def OriginPathsUptoCardSaid : Prop := Claim7.holds Tryd.pinned (.plain (OpenSpec.upto originPathsSpec)) originPathsUptoCard

/-- THE SECOND FORM's CARD OF 'glacislaw04.OriginBlobs'. -/
def originBlobsUptoCard : Claim7 := { stood := { row := originBlobsUptoRow, standIns := [], harness := (true, "f0dbe60ced171fa71aa443edd9903af855d887d54c46acd72bce59f532c5d229"), looks := false }, kinds := [], alts := [], laidByText := true, laidKinds := [.data, .data, .data, .data, .pinned], laidTests := true, laidLooks := .later }
def OriginBlobsUptoCardSaid : Prop := Claim7.holds Tryd.pinned (.plain (OpenSpec.upto originBlobsSpec)) originBlobsUptoCard
end Rows
end Go.Proofs.YtehjnidggnfbfaaDoor
