/-
  DERIVED. GIVEN WITH THE SEED: THE CARDS: each row of YtinjkpbpkedfnaaGreatDoorRows.lean that lists a variable, with what it lists TIED to the program's text (the seventh form; the later family's looks); each row that meets fmt, with fmt's text TOLD by the authors' own Lean function (tested against real Go, not proved from fmt's source: count such statements apart). THE CARD IS WHAT COUNTS. Prove the row's statement (the work); the ties are given (YtinjkpbpkedfnaaGreatDoorTie.lean); close each card by the builder's one call (the guide's Derived/Test/ToyasCard.lean, 'card_holds'). Laid BY PROGRAM, IN A SANDBOX (cutbox-door.mjs). By AI agents, Wed Nov 11 2026. No macro, syntax, notation, axiom, sorry.
-/
import Derived.Test.YtinjkpbpkedfnaaGreatDoorRows
import GoSem.ClaimSeven
namespace Go.Proofs.YtinjkpbpkedfnaaGreatDoor
namespace Rows

/-- THE TIED CARD OF 'glacislaw11.CspmatchNames'. -/
def cspmatchNamesCard : Claim7 := { stood := { row := cspmatchNamesRow, standIns := [], harness := (true, "73c3c5311ad4148873577cd14f5cc80221a9c34c74c5110298e298417dd032a9"), looks := false }, kinds := [], alts := [], laidByText := true, laidKinds := [.data, .data, .data, .data, .pinned], laidTests := true, laidLooks := .later }
def CspmatchNamesCardSaid : Prop := Claim7.holds Tryz.pinned (.plain (OpenSpec.ofChange cspmatchNamesSpec)) cspmatchNamesCard

/-- THE TIED CARD OF 'glacislaw11.CspmatchReads'. -/
def cspmatchReadsCard : Claim7 := { stood := { row := cspmatchReadsRow, standIns := [], harness := (true, "73c3c5311ad4148873577cd14f5cc80221a9c34c74c5110298e298417dd032a9"), looks := false }, kinds := [], alts := [], laidByText := true, laidKinds := [.data, .data, .data, .data, .pinned], laidTests := true, laidLooks := .later }
def CspmatchReadsCardSaid : Prop := Claim7.holds Tryz.pinned (.plain (OpenSpec.ofChange cspmatchReadsSpec)) cspmatchReadsCard

/-- THE TIED CARD OF 'glacislaw11.CspmatchMatches'. -/
def cspmatchMatchesCard : Claim7 := { stood := { row := cspmatchMatchesRow, standIns := [], harness := (true, "73c3c5311ad4148873577cd14f5cc80221a9c34c74c5110298e298417dd032a9"), looks := false }, kinds := [], alts := [], laidByText := true, laidKinds := [.data, .data, .data, .data, .pinned], laidTests := true, laidLooks := .later }
def CspmatchMatchesCardSaid : Prop := Claim7.holds Tryz.pinned (.plain (OpenSpec.ofChange cspmatchMatchesSpec)) cspmatchMatchesCard

/-- THE TIED CARD OF 'glacislaw11.CspmatchFrames'. -/
def cspmatchFramesCard : Claim7 := { stood := { row := cspmatchFramesRow, standIns := [], harness := (true, "73c3c5311ad4148873577cd14f5cc80221a9c34c74c5110298e298417dd032a9"), looks := false }, kinds := [], alts := [], laidByText := true, laidKinds := [.data, .data, .data, .data, .pinned], laidTests := true, laidLooks := .later }
def CspmatchFramesCardSaid : Prop := Claim7.holds Tryz.pinned (.plain (OpenSpec.ofChange cspmatchFramesSpec)) cspmatchFramesCard

/-- THE TIED CARD OF 'glacislaw11.CspmatchMore'. -/
def cspmatchMoreCard : Claim7 := { stood := { row := cspmatchMoreRow, standIns := [], harness := (true, "73c3c5311ad4148873577cd14f5cc80221a9c34c74c5110298e298417dd032a9"), looks := false }, kinds := [], alts := [], laidByText := true, laidKinds := [.data, .data, .data, .data, .pinned], laidTests := true, laidLooks := .later }
def CspmatchMoreCardSaid : Prop := Claim7.holds Tryz.pinned (.plain (OpenSpec.ofChange cspmatchMoreSpec)) cspmatchMoreCard

/-- THE TIED CARD OF 'glacislaw11.CspmatchSelf'. -/
def cspmatchSelfCard : Claim7 := { stood := { row := cspmatchSelfRow, standIns := [], harness := (true, "73c3c5311ad4148873577cd14f5cc80221a9c34c74c5110298e298417dd032a9"), looks := false }, kinds := [], alts := [], laidByText := true, laidKinds := [.data, .data, .data, .data, .pinned], laidTests := true, laidLooks := .later }
def CspmatchSelfCardSaid : Prop := Claim7.holds Tryz.pinned (.plain (OpenSpec.ofChange cspmatchSelfSpec)) cspmatchSelfCard

/-- THE TIED CARD OF 'glacislaw11.CspmatchOwn'. -/
def cspmatchOwnCard : Claim7 := { stood := { row := cspmatchOwnRow, standIns := [], harness := (true, "73c3c5311ad4148873577cd14f5cc80221a9c34c74c5110298e298417dd032a9"), looks := false }, kinds := [], alts := [], laidByText := true, laidKinds := [.data, .data, .data, .data, .pinned], laidTests := true, laidLooks := .later }
def CspmatchOwnCardSaid : Prop := Claim7.holds Tryz.pinned (.plain (OpenSpec.ofChange cspmatchOwnSpec)) cspmatchOwnCard

/-- THE TIED CARD OF 'glacislaw11.CspmatchSchemes'. -/
def cspmatchSchemesCard : Claim7 := { stood := { row := cspmatchSchemesRow, standIns := [], harness := (true, "73c3c5311ad4148873577cd14f5cc80221a9c34c74c5110298e298417dd032a9"), looks := false }, kinds := [], alts := [], laidByText := true, laidKinds := [.data, .data, .data, .data, .pinned], laidTests := true, laidLooks := .later }
def CspmatchSchemesCardSaid : Prop := Claim7.holds Tryz.pinned (.plain (OpenSpec.ofChange cspmatchSchemesSpec)) cspmatchSchemesCard

/-- THE SECOND FORM's CARD OF 'glacislaw11.CspmatchNames'. -/
def cspmatchNamesUptoCard : Claim7 := { stood := { row := cspmatchNamesUptoRow, standIns := [], harness := (true, "73c3c5311ad4148873577cd14f5cc80221a9c34c74c5110298e298417dd032a9"), looks := false }, kinds := [], alts := [], laidByText := true, laidKinds := [.data, .data, .data, .data, .pinned], laidTests := true, laidLooks := .later }
def CspmatchNamesUptoCardSaid : Prop := Claim7.holds Tryz.pinned (.plain (OpenSpec.upto cspmatchNamesSpec)) cspmatchNamesUptoCard

/-- THE SECOND FORM's CARD OF 'glacislaw11.CspmatchReads'. -/
def cspmatchReadsUptoCard : Claim7 := { stood := { row := cspmatchReadsUptoRow, standIns := [], harness := (true, "73c3c5311ad4148873577cd14f5cc80221a9c34c74c5110298e298417dd032a9"), looks := false }, kinds := [], alts := [], laidByText := true, laidKinds := [.data, .data, .data, .data, .pinned], laidTests := true, laidLooks := .later }
def CspmatchReadsUptoCardSaid : Prop := Claim7.holds Tryz.pinned (.plain (OpenSpec.upto cspmatchReadsSpec)) cspmatchReadsUptoCard

/-- THE SECOND FORM's CARD OF 'glacislaw11.CspmatchMatches'. -/
def cspmatchMatchesUptoCard : Claim7 := { stood := { row := cspmatchMatchesUptoRow, standIns := [], harness := (true, "73c3c5311ad4148873577cd14f5cc80221a9c34c74c5110298e298417dd032a9"), looks := false }, kinds := [], alts := [], laidByText := true, laidKinds := [.data, .data, .data, .data, .pinned], laidTests := true, laidLooks := .later }
def CspmatchMatchesUptoCardSaid : Prop := Claim7.holds Tryz.pinned (.plain (OpenSpec.upto cspmatchMatchesSpec)) cspmatchMatchesUptoCard

/-- THE SECOND FORM's CARD OF 'glacislaw11.CspmatchFrames'. -/
def cspmatchFramesUptoCard : Claim7 := { stood := { row := cspmatchFramesUptoRow, standIns := [], harness := (true, "73c3c5311ad4148873577cd14f5cc80221a9c34c74c5110298e298417dd032a9"), looks := false }, kinds := [], alts := [], laidByText := true, laidKinds := [.data, .data, .data, .data, .pinned], laidTests := true, laidLooks := .later }
def CspmatchFramesUptoCardSaid : Prop := Claim7.holds Tryz.pinned (.plain (OpenSpec.upto cspmatchFramesSpec)) cspmatchFramesUptoCard

/-- THE SECOND FORM's CARD OF 'glacislaw11.CspmatchMore'. -/
def cspmatchMoreUptoCard : Claim7 := { stood := { row := cspmatchMoreUptoRow, standIns := [], harness := (true, "73c3c5311ad4148873577cd14f5cc80221a9c34c74c5110298e298417dd032a9"), looks := false }, kinds := [], alts := [], laidByText := true, laidKinds := [.data, .data, .data, .data, .pinned], laidTests := true, laidLooks := .later }
def CspmatchMoreUptoCardSaid : Prop := Claim7.holds Tryz.pinned (.plain (OpenSpec.upto cspmatchMoreSpec)) cspmatchMoreUptoCard

/-- THE SECOND FORM's CARD OF 'glacislaw11.CspmatchSelf'. -/
def cspmatchSelfUptoCard : Claim7 := { stood := { row := cspmatchSelfUptoRow, standIns := [], harness := (true, "73c3c5311ad4148873577cd14f5cc80221a9c34c74c5110298e298417dd032a9"), looks := false }, kinds := [], alts := [], laidByText := true, laidKinds := [.data, .data, .data, .data, .pinned], laidTests := true, laidLooks := .later }
def CspmatchSelfUptoCardSaid : Prop := Claim7.holds Tryz.pinned (.plain (OpenSpec.upto cspmatchSelfSpec)) cspmatchSelfUptoCard

/-- THE SECOND FORM's CARD OF 'glacislaw11.CspmatchOwn'. -/
def cspmatchOwnUptoCard : Claim7 := { stood := { row := cspmatchOwnUptoRow, standIns := [], harness := (true, "73c3c5311ad4148873577cd14f5cc80221a9c34c74c5110298e298417dd032a9"), looks := false }, kinds := [], alts := [], laidByText := true, laidKinds := [.data, .data, .data, .data, .pinned], laidTests := true, laidLooks := .later }
def CspmatchOwnUptoCardSaid : Prop := Claim7.holds Tryz.pinned (.plain (OpenSpec.upto cspmatchOwnSpec)) cspmatchOwnUptoCard

/-- THE SECOND FORM's CARD OF 'glacislaw11.CspmatchSchemes'. -/
def cspmatchSchemesUptoCard : Claim7 := { stood := { row := cspmatchSchemesUptoRow, standIns := [], harness := (true, "73c3c5311ad4148873577cd14f5cc80221a9c34c74c5110298e298417dd032a9"), looks := false }, kinds := [], alts := [], laidByText := true, laidKinds := [.data, .data, .data, .data, .pinned], laidTests := true, laidLooks := .later }
def CspmatchSchemesUptoCardSaid : Prop := Claim7.holds Tryz.pinned (.plain (OpenSpec.upto cspmatchSchemesSpec)) cspmatchSchemesUptoCard
end Rows
end Go.Proofs.YtinjkpbpkedfnaaGreatDoor
