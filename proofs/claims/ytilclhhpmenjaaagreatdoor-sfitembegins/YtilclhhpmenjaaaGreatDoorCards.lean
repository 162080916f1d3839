/-
  DERIVED. GIVEN WITH THE SEED: THE CARDS: each row of YtilclhhpmenjaaaGreatDoorRows.lean that lists a variable, with what it lists TIED to the program's text (the seventh form; the later family's looks); each row that meets fmt, with fmt's text TOLD by the authors' own Lean function (tested against real Go, not proved from fmt's source: count such statements apart). THE CARD IS WHAT COUNTS. Prove the row's statement (the work); the ties are given (YtilclhhpmenjaaaGreatDoorTie.lean); close each card by the builder's one call (the guide's Derived/Test/ToyasCard.lean, 'card_holds'). Laid BY PROGRAM, IN A SANDBOX (cutbox-door.mjs). By AI agents, Wed Nov 11 2026. No macro, syntax, notation, axiom, sorry.
-/
import Derived.Test.YtilclhhpmenjaaaGreatDoorRows
import GoSem.ClaimSeven
namespace Go.Proofs.YtilclhhpmenjaaaGreatDoor
namespace Rows

/-- THE TIED CARD OF 'glacislaw05.SfitemNames'. -/
def sfitemNamesCard : Claim7 := { stood := { row := sfitemNamesRow, standIns := [], harness := (true, "d2192d871b96ccfba265a33c436e469e4573cb3e685cb075dd083cf09174d10f"), looks := true }, kinds := [], alts := [], laidByText := true, laidKinds := [.data, .data, .data, .data, .sentinel, .sentinel, .pinned], laidTests := true, laidLooks := .later }
def SfitemNamesCardSaid : Prop := Claim7.holds Tryz.pinned (.plain (OpenSpec.ofChange sfitemNamesSpec)) sfitemNamesCard

/-- THE TIED CARD OF 'glacislaw05.SfitemReads'. -/
def sfitemReadsCard : Claim7 := { stood := { row := sfitemReadsRow, standIns := [], harness := (true, "d2192d871b96ccfba265a33c436e469e4573cb3e685cb075dd083cf09174d10f"), looks := true }, kinds := [], alts := [], laidByText := true, laidKinds := [.data, .data, .data, .data, .sentinel, .sentinel, .pinned], laidTests := true, laidLooks := .later }
def SfitemReadsCardSaid : Prop := Claim7.holds Tryz.pinned (.plain (OpenSpec.ofChange sfitemReadsSpec)) sfitemReadsCard

/-- THE TIED CARD OF 'glacislaw05.SfitemBegins'. -/
def sfitemBeginsCard : Claim7 := { stood := { row := sfitemBeginsRow, standIns := [], harness := (true, "d2192d871b96ccfba265a33c436e469e4573cb3e685cb075dd083cf09174d10f"), looks := true }, kinds := [], alts := [], laidByText := true, laidKinds := [.data, .data, .data, .data, .sentinel, .sentinel, .pinned], laidTests := true, laidLooks := .later }
def SfitemBeginsCardSaid : Prop := Claim7.holds Tryz.pinned (.plain (OpenSpec.ofChange sfitemBeginsSpec)) sfitemBeginsCard

/-- THE TIED CARD OF 'glacislaw05.SfitemTells'. -/
def sfitemTellsCard : Claim7 := { stood := { row := sfitemTellsRow, standIns := [], harness := (true, "d2192d871b96ccfba265a33c436e469e4573cb3e685cb075dd083cf09174d10f"), looks := true }, kinds := [], alts := [], laidByText := true, laidKinds := [.data, .data, .data, .data, .sentinel, .sentinel, .pinned], laidTests := true, laidLooks := .later }
def SfitemTellsCardSaid : Prop := Claim7.holds Tryz.pinned (.plain (OpenSpec.ofChange sfitemTellsSpec)) sfitemTellsCard

/-- THE TIED CARD OF 'glacislaw05.SfitemBack'. -/
def sfitemBackCard : Claim7 := { stood := { row := sfitemBackRow, standIns := [], harness := (true, "d2192d871b96ccfba265a33c436e469e4573cb3e685cb075dd083cf09174d10f"), looks := true }, kinds := [], alts := [], laidByText := true, laidKinds := [.data, .data, .data, .data, .sentinel, .sentinel, .pinned], laidTests := true, laidLooks := .later }
def SfitemBackCardSaid : Prop := Claim7.holds Tryz.pinned (.plain (OpenSpec.ofChange sfitemBackSpec)) sfitemBackCard

/-- THE TIED CARD OF 'glacislaw05.SfitemRest'. -/
def sfitemRestCard : Claim7 := { stood := { row := sfitemRestRow, standIns := [], harness := (true, "d2192d871b96ccfba265a33c436e469e4573cb3e685cb075dd083cf09174d10f"), looks := true }, kinds := [], alts := [], laidByText := true, laidKinds := [.data, .data, .data, .data, .sentinel, .sentinel, .pinned], laidTests := true, laidLooks := .later }
def SfitemRestCardSaid : Prop := Claim7.holds Tryz.pinned (.plain (OpenSpec.ofChange sfitemRestSpec)) sfitemRestCard

/-- THE TIED CARD OF 'glacislaw05.SfitemLast'. -/
def sfitemLastCard : Claim7 := { stood := { row := sfitemLastRow, standIns := [], harness := (true, "d2192d871b96ccfba265a33c436e469e4573cb3e685cb075dd083cf09174d10f"), looks := true }, kinds := [], alts := [], laidByText := true, laidKinds := [.data, .data, .data, .data, .sentinel, .sentinel, .pinned], laidTests := true, laidLooks := .later }
def SfitemLastCardSaid : Prop := Claim7.holds Tryz.pinned (.plain (OpenSpec.ofChange sfitemLastSpec)) sfitemLastCard

/-- THE TIED CARD OF 'glacislaw05.SfitemNumbers'. -/
def sfitemNumbersCard : Claim7 := { stood := { row := sfitemNumbersRow, standIns := [], harness := (true, "d2192d871b96ccfba265a33c436e469e4573cb3e685cb075dd083cf09174d10f"), looks := true }, kinds := [], alts := [], laidByText := true, laidKinds := [.data, .data, .data, .data, .sentinel, .sentinel, .pinned], laidTests := true, laidLooks := .later }
def SfitemNumbersCardSaid : Prop := Claim7.holds Tryz.pinned (.plain (OpenSpec.ofChange sfitemNumbersSpec)) sfitemNumbersCard

/-- THE TIED CARD OF 'glacislaw05.SfitemTexts'. -/
def sfitemTextsCard : Claim7 := { stood := { row := sfitemTextsRow, standIns := [], harness := (true, "d2192d871b96ccfba265a33c436e469e4573cb3e685cb075dd083cf09174d10f"), looks := true }, kinds := [], alts := [], laidByText := true, laidKinds := [.data, .data, .data, .data, .sentinel, .sentinel, .pinned], laidTests := true, laidLooks := .later }
def SfitemTextsCardSaid : Prop := Claim7.holds Tryz.pinned (.plain (OpenSpec.ofChange sfitemTextsSpec)) sfitemTextsCard

/-- THE SECOND FORM's CARD OF 'glacislaw05.SfitemNames'. -/
def sfitemNamesUptoCard : Claim7 := { stood := { row := sfitemNamesUptoRow, standIns := [], harness := (true, "d2192d871b96ccfba265a33c436e469e4573cb3e685cb075dd083cf09174d10f"), looks := true }, kinds := [], alts := [], laidByText := true, laidKinds := [.data, .data, .data, .data, .sentinel, .sentinel, .pinned], laidTests := true, laidLooks := .later }
def SfitemNamesUptoCardSaid : Prop := Claim7.holds Tryz.pinned (.plain (OpenSpec.upto sfitemNamesSpec)) sfitemNamesUptoCard

/-- THE SECOND FORM's CARD OF 'glacislaw05.SfitemReads'. -/
def sfitemReadsUptoCard : Claim7 := { stood := { row := sfitemReadsUptoRow, standIns := [], harness := (true, "d2192d871b96ccfba265a33c436e469e4573cb3e685cb075dd083cf09174d10f"), looks := true }, kinds := [], alts := [], laidByText := true, laidKinds := [.data, .data, .data, .data, .sentinel, .sentinel, .pinned], laidTests := true, laidLooks := .later }
def SfitemReadsUptoCardSaid : Prop := Claim7.holds Tryz.pinned (.plain (OpenSpec.upto sfitemReadsSpec)) sfitemReadsUptoCard

/-- THE SECOND FORM's CARD OF 'glacislaw05.SfitemBegins'. -/
def sfitemBeginsUptoCard : Claim7 := { stood := { row := sfitemBeginsUptoRow, standIns := [], harness := (true, "d2192d871b96ccfba265a33c436e469e4573cb3e685cb075dd083cf09174d10f"), looks := true }, kinds := [], alts := [], laidByText := true, laidKinds := [.data, .data, .data, .data, .sentinel, .sentinel, .pinned], laidTests := true, laidLooks := .later }
def SfitemBeginsUptoCardSaid : Prop := Claim7.holds Tryz.pinned (.plain (OpenSpec.upto sfitemBeginsSpec)) sfitemBeginsUptoCard

/-- THE SECOND FORM's CARD OF 'glacislaw05.SfitemTells'. -/
def sfitemTellsUptoCard : Claim7 := { stood := { row := sfitemTellsUptoRow, standIns := [], harness := (true, "d2192d871b96ccfba265a33c436e469e4573cb3e685cb075dd083cf09174d10f"), looks := true }, kinds := [], alts := [], laidByText := true, laidKinds := [.data, .data, .data, .data, .sentinel, .sentinel, .pinned], laidTests := true, laidLooks := .later }
def SfitemTellsUptoCardSaid : Prop := Claim7.holds Tryz.pinned (.plain (OpenSpec.upto sfitemTellsSpec)) sfitemTellsUptoCard

/-- THE SECOND FORM's CARD OF 'glacislaw05.SfitemBack'. -/
def sfitemBackUptoCard : Claim7 := { stood := { row := sfitemBackUptoRow, standIns := [], harness := (true, "d2192d871b96ccfba265a33c436e469e4573cb3e685cb075dd083cf09174d10f"), looks := true }, kinds := [], alts := [], laidByText := true, laidKinds := [.data, .data, .data, .data, .sentinel, .sentinel, .pinned], laidTests := true, laidLooks := .later }
def SfitemBackUptoCardSaid : Prop := Claim7.holds Tryz.pinned (.plain (OpenSpec.upto sfitemBackSpec)) sfitemBackUptoCard

/-- THE SECOND FORM's CARD OF 'glacislaw05.SfitemRest'. -/
def sfitemRestUptoCard : Claim7 := { stood := { row := sfitemRestUptoRow, standIns := [], harness := (true, "d2192d871b96ccfba265a33c436e469e4573cb3e685cb075dd083cf09174d10f"), looks := true }, kinds := [], alts := [], laidByText := true, laidKinds := [.data, .data, .data, .data, .sentinel, .sentinel, .pinned], laidTests := true, laidLooks := .later }
def SfitemRestUptoCardSaid : Prop := Claim7.holds Tryz.pinned (.plain (OpenSpec.upto sfitemRestSpec)) sfitemRestUptoCard

/-- THE SECOND FORM's CARD OF 'glacislaw05.SfitemLast'. -/
def sfitemLastUptoCard : Claim7 := { stood := { row := sfitemLastUptoRow, standIns := [], harness := (true, "d2192d871b96ccfba265a33c436e469e4573cb3e685cb075dd083cf09174d10f"), looks := true }, kinds := [], alts := [], laidByText := true, laidKinds := [.data, .data, .data, .data, .sentinel, .sentinel, .pinned], laidTests := true, laidLooks := .later }
def SfitemLastUptoCardSaid : Prop := Claim7.holds Tryz.pinned (.plain (OpenSpec.upto sfitemLastSpec)) sfitemLastUptoCard

/-- THE SECOND FORM's CARD OF 'glacislaw05.SfitemNumbers'. -/
def sfitemNumbersUptoCard : Claim7 := { stood := { row := sfitemNumbersUptoRow, standIns := [], harness := (true, "d2192d871b96ccfba265a33c436e469e4573cb3e685cb075dd083cf09174d10f"), looks := true }, kinds := [], alts := [], laidByText := true, laidKinds := [.data, .data, .data, .data, .sentinel, .sentinel, .pinned], laidTests := true, laidLooks := .later }
def SfitemNumbersUptoCardSaid : Prop := Claim7.holds Tryz.pinned (.plain (OpenSpec.upto sfitemNumbersSpec)) sfitemNumbersUptoCard

/-- THE SECOND FORM's CARD OF 'glacislaw05.SfitemTexts'. -/
def sfitemTextsUptoCard : Claim7 := { stood := { row := sfitemTextsUptoRow, standIns := [], harness := (true, "d2192d871b96ccfba265a33c436e469e4573cb3e685cb075dd083cf09174d10f"), looks := true }, kinds := [], alts := [], laidByText := true, laidKinds := [.data, .data, .data, .data, .sentinel, .sentinel, .pinned], laidTests := true, laidLooks := .later }
def SfitemTextsUptoCardSaid : Prop := Claim7.holds Tryz.pinned (.plain (OpenSpec.upto sfitemTextsSpec)) sfitemTextsUptoCard
end Rows
end Go.Proofs.YtilclhhpmenjaaaGreatDoor
