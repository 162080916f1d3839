/-
  DERIVED. GIVEN WITH THE SEED: THE CARDS: each row of YtgddmihojladfaaGreatDoorRows.lean that lists a variable, with what it lists TIED to the program's text (the seventh form; the later family's looks); each row that meets fmt, with fmt's text TOLD by the authors' own Lean function (tested against real Go, not proved from fmt's source: count such statements apart). THE CARD IS WHAT COUNTS. Prove the row's statement (the work); the ties are given (YtgddmihojladfaaGreatDoorTie.lean); close each card by the builder's one call (the guide's Derived/Test/ToyasCard.lean, 'card_holds'). Laid BY PROGRAM, IN A SANDBOX (cutbox-door.mjs). By AI agents, Wed Nov 11 2026. No macro, syntax, notation, axiom, sorry.
-/
import Derived.Test.YtgddmihojladfaaGreatDoorRows
import GoSem.ClaimSeven
namespace Go.Proofs.YtgddmihojladfaaGreatDoor
namespace Rows

/-- THE TIED CARD OF 'glacislaw08.CoopNames'. -/
def coopNamesCard : Claim7 := { stood := { row := coopNamesRow, standIns := [], harness := (true, "060c463300e40e61c5aeb538d8e64516daea3414a122b2654c66f5dafff7dc0c"), looks := true }, kinds := [], alts := [], laidByText := true, laidKinds := [.data, .data, .data, .data, .sentinel, .sentinel, .pinned], laidTests := true, laidLooks := .later }
def CoopNamesCardSaid : Prop := Claim7.holds Tryz.pinned (.plain (OpenSpec.ofChange coopNamesSpec)) coopNamesCard

/-- THE TIED CARD OF 'glacislaw08.CoopReads'. -/
def coopReadsCard : Claim7 := { stood := { row := coopReadsRow, standIns := [], harness := (true, "060c463300e40e61c5aeb538d8e64516daea3414a122b2654c66f5dafff7dc0c"), looks := true }, kinds := [], alts := [], laidByText := true, laidKinds := [.data, .data, .data, .data, .sentinel, .sentinel, .pinned], laidTests := true, laidLooks := .later }
def CoopReadsCardSaid : Prop := Claim7.holds Tryz.pinned (.plain (OpenSpec.ofChange coopReadsSpec)) coopReadsCard

/-- THE TIED CARD OF 'glacislaw08.CoopReports'. -/
def coopReportsCard : Claim7 := { stood := { row := coopReportsRow, standIns := [], harness := (true, "060c463300e40e61c5aeb538d8e64516daea3414a122b2654c66f5dafff7dc0c"), looks := true }, kinds := [], alts := [], laidByText := true, laidKinds := [.data, .data, .data, .data, .sentinel, .sentinel, .pinned], laidTests := true, laidLooks := .later }
def CoopReportsCardSaid : Prop := Claim7.holds Tryz.pinned (.plain (OpenSpec.ofChange coopReportsSpec)) coopReportsCard

/-- THE TIED CARD OF 'glacislaw08.CoopWords'. -/
def coopWordsCard : Claim7 := { stood := { row := coopWordsRow, standIns := [], harness := (true, "060c463300e40e61c5aeb538d8e64516daea3414a122b2654c66f5dafff7dc0c"), looks := true }, kinds := [], alts := [], laidByText := true, laidKinds := [.data, .data, .data, .data, .sentinel, .sentinel, .pinned], laidTests := true, laidLooks := .later }
def CoopWordsCardSaid : Prop := Claim7.holds Tryz.pinned (.plain (OpenSpec.ofChange coopWordsSpec)) coopWordsCard

/-- THE TIED CARD OF 'glacislaw08.CoopTwice'. -/
def coopTwiceCard : Claim7 := { stood := { row := coopTwiceRow, standIns := [], harness := (true, "060c463300e40e61c5aeb538d8e64516daea3414a122b2654c66f5dafff7dc0c"), looks := true }, kinds := [], alts := [], laidByText := true, laidKinds := [.data, .data, .data, .data, .sentinel, .sentinel, .pinned], laidTests := true, laidLooks := .later }
def CoopTwiceCardSaid : Prop := Claim7.holds Tryz.pinned (.plain (OpenSpec.ofChange coopTwiceSpec)) coopTwiceCard

/-- THE TIED CARD OF 'glacislaw08.CoopPlusOnly'. -/
def coopPlusOnlyCard : Claim7 := { stood := { row := coopPlusOnlyRow, standIns := [], harness := (true, "060c463300e40e61c5aeb538d8e64516daea3414a122b2654c66f5dafff7dc0c"), looks := true }, kinds := [], alts := [], laidByText := true, laidKinds := [.data, .data, .data, .data, .sentinel, .sentinel, .pinned], laidTests := true, laidLooks := .later }
def CoopPlusOnlyCardSaid : Prop := Claim7.holds Tryz.pinned (.plain (OpenSpec.ofChange coopPlusOnlySpec)) coopPlusOnlyCard

/-- THE TIED CARD OF 'glacislaw08.CoopSecure'. -/
def coopSecureCard : Claim7 := { stood := { row := coopSecureRow, standIns := [], harness := (true, "060c463300e40e61c5aeb538d8e64516daea3414a122b2654c66f5dafff7dc0c"), looks := true }, kinds := [], alts := [], laidByText := true, laidKinds := [.data, .data, .data, .data, .sentinel, .sentinel, .pinned], laidTests := true, laidLooks := .later }
def CoopSecureCardSaid : Prop := Claim7.holds Tryz.pinned (.plain (OpenSpec.ofChange coopSecureSpec)) coopSecureCard

/-- THE SECOND FORM's CARD OF 'glacislaw08.CoopNames'. -/
def coopNamesUptoCard : Claim7 := { stood := { row := coopNamesUptoRow, standIns := [], harness := (true, "060c463300e40e61c5aeb538d8e64516daea3414a122b2654c66f5dafff7dc0c"), looks := true }, kinds := [], alts := [], laidByText := true, laidKinds := [.data, .data, .data, .data, .sentinel, .sentinel, .pinned], laidTests := true, laidLooks := .later }
def CoopNamesUptoCardSaid : Prop := Claim7.holds Tryz.pinned (.plain (OpenSpec.upto coopNamesSpec)) coopNamesUptoCard

/-- THE SECOND FORM's CARD OF 'glacislaw08.CoopReads'. -/
def coopReadsUptoCard : Claim7 := { stood := { row := coopReadsUptoRow, standIns := [], harness := (true, "060c463300e40e61c5aeb538d8e64516daea3414a122b2654c66f5dafff7dc0c"), looks := true }, kinds := [], alts := [], laidByText := true, laidKinds := [.data, .data, .data, .data, .sentinel, .sentinel, .pinned], laidTests := true, laidLooks := .later }
def CoopReadsUptoCardSaid : Prop := Claim7.holds Tryz.pinned (.plain (OpenSpec.upto coopReadsSpec)) coopReadsUptoCard

/-- THE SECOND FORM's CARD OF 'glacislaw08.CoopReports'. -/
def coopReportsUptoCard : Claim7 := { stood := { row := coopReportsUptoRow, standIns := [], harness := (true, "060c463300e40e61c5aeb538d8e64516daea3414a122b2654c66f5dafff7dc0c"), looks := true }, kinds := [], alts := [], laidByText := true, laidKinds := [.data, .data, .data, .data, .sentinel, .sentinel, .pinned], laidTests := true, laidLooks := .later }
def CoopReportsUptoCardSaid : Prop := Claim7.holds Tryz.pinned (.plain (OpenSpec.upto coopReportsSpec)) coopReportsUptoCard

/-- THE SECOND FORM's CARD OF 'glacislaw08.CoopWords'. -/
def coopWordsUptoCard : Claim7 := { stood := { row := coopWordsUptoRow, standIns := [], harness := (true, "060c463300e40e61c5aeb538d8e64516daea3414a122b2654c66f5dafff7dc0c"), looks := true }, kinds := [], alts := [], laidByText := true, laidKinds := [.data, .data, .data, .data, .sentinel, .sentinel, .pinned], laidTests := true, laidLooks := .later }
def CoopWordsUptoCardSaid : Prop := Claim7.holds Tryz.pinned (.plain (OpenSpec.upto coopWordsSpec)) coopWordsUptoCard

/-- THE SECOND FORM's CARD OF 'glacislaw08.CoopTwice'. -/
def coopTwiceUptoCard : Claim7 := { stood := { row := coopTwiceUptoRow, standIns := [], harness := (true, "060c463300e40e61c5aeb538d8e64516daea3414a122b2654c66f5dafff7dc0c"), looks := true }, kinds := [], alts := [], laidByText := true, laidKinds := [.data, .data, .data, .data, .sentinel, .sentinel, .pinned], laidTests := true, laidLooks := .later }
def CoopTwiceUptoCardSaid : Prop := Claim7.holds Tryz.pinned (.plain (OpenSpec.upto coopTwiceSpec)) coopTwiceUptoCard

/-- THE SECOND FORM's CARD OF 'glacislaw08.CoopPlusOnly'. -/
def coopPlusOnlyUptoCard : Claim7 := { stood := { row := coopPlusOnlyUptoRow, standIns := [], harness := (true, "060c463300e40e61c5aeb538d8e64516daea3414a122b2654c66f5dafff7dc0c"), looks := true }, kinds := [], alts := [], laidByText := true, laidKinds := [.data, .data, .data, .data, .sentinel, .sentinel, .pinned], laidTests := true, laidLooks := .later }
def CoopPlusOnlyUptoCardSaid : Prop := Claim7.holds Tryz.pinned (.plain (OpenSpec.upto coopPlusOnlySpec)) coopPlusOnlyUptoCard

/-- THE SECOND FORM's CARD OF 'glacislaw08.CoopSecure'. -/
def coopSecureUptoCard : Claim7 := { stood := { row := coopSecureUptoRow, standIns := [], harness := (true, "060c463300e40e61c5aeb538d8e64516daea3414a122b2654c66f5dafff7dc0c"), looks := true }, kinds := [], alts := [], laidByText := true, laidKinds := [.data, .data, .data, .data, .sentinel, .sentinel, .pinned], laidTests := true, laidLooks := .later }
def CoopSecureUptoCardSaid : Prop := Claim7.holds Tryz.pinned (.plain (OpenSpec.upto coopSecureSpec)) coopSecureUptoCard
end Rows
end Go.Proofs.YtgddmihojladfaaGreatDoor
