/-
  DERIVED. GIVEN WITH THE SEED: THE CARDS: each row of YtbeckddgelcbhaaDoorRows.lean that lists a variable, with what it lists TIED to the program's text (the seventh form; the later family's looks); each row that meets fmt, with fmt's text TOLD by the authors' own Lean function (tested against real Go, not proved from fmt's source: count such statements apart). THE CARD IS WHAT COUNTS. Prove the row's statement (the work); the ties are given (YtbeckddgelcbhaaDoorTie.lean); close each card by the builder's one call (the guide's Derived/Test/ToyasCard.lean, 'card_holds'). Laid BY PROGRAM, IN A SANDBOX (cutbox-door.mjs). By AI agents, Wed Nov 11 2026. No macro, syntax, notation, axiom, sorry.
-/
import Derived.Test.YtbeckddgelcbhaaDoorRows
import GoSem.ClaimSeven
namespace Go.Proofs.YtbeckddgelcbhaaDoor
namespace Rows

/-- THE TIED CARD OF 'glacislaw03.UrlpNames'. -/
def urlpNamesCard : Claim7 := { stood := { row := urlpNamesRow, standIns := [], harness := (true, "f927e622bde7f79093597ac1db50df0bbfaf4dc35ebae291554622b6a01bc012"), looks := false }, kinds := [], alts := [], laidByText := true, laidKinds := [.data, .data, .data, .data, .pinned], laidTests := true, laidLooks := .later }
def UrlpNamesCardSaid : Prop := Claim7.holds Tryd.pinned (.plain (OpenSpec.ofChange urlpNamesSpec)) urlpNamesCard

/-- THE TIED CARD OF 'glacislaw03.UrlpReads'. -/
def urlpReadsCard : Claim7 := { stood := { row := urlpReadsRow, standIns := [], harness := (true, "f927e622bde7f79093597ac1db50df0bbfaf4dc35ebae291554622b6a01bc012"), looks := false }, kinds := [], alts := [], laidByText := true, laidKinds := [.data, .data, .data, .data, .pinned], laidTests := true, laidLooks := .later }
def UrlpReadsCardSaid : Prop := Claim7.holds Tryd.pinned (.plain (OpenSpec.ofChange urlpReadsSpec)) urlpReadsCard

/-- THE TIED CARD OF 'glacislaw03.UrlpPaths'. -/
def urlpPathsCard : Claim7 := { stood := { row := urlpPathsRow, standIns := [], harness := (true, "f927e622bde7f79093597ac1db50df0bbfaf4dc35ebae291554622b6a01bc012"), looks := false }, kinds := [], alts := [], laidByText := true, laidKinds := [.data, .data, .data, .data, .pinned], laidTests := true, laidLooks := .later }
def UrlpPathsCardSaid : Prop := Claim7.holds Tryd.pinned (.plain (OpenSpec.ofChange urlpPathsSpec)) urlpPathsCard

/-- THE TIED CARD OF 'glacislaw03.UrlpEnds'. -/
def urlpEndsCard : Claim7 := { stood := { row := urlpEndsRow, standIns := [], harness := (true, "f927e622bde7f79093597ac1db50df0bbfaf4dc35ebae291554622b6a01bc012"), looks := false }, kinds := [], alts := [], laidByText := true, laidKinds := [.data, .data, .data, .data, .pinned], laidTests := true, laidLooks := .later }
def UrlpEndsCardSaid : Prop := Claim7.holds Tryd.pinned (.plain (OpenSpec.ofChange urlpEndsSpec)) urlpEndsCard

/-- THE TIED CARD OF 'glacislaw03.UrlpSchemes'. -/
def urlpSchemesCard : Claim7 := { stood := { row := urlpSchemesRow, standIns := [], harness := (true, "f927e622bde7f79093597ac1db50df0bbfaf4dc35ebae291554622b6a01bc012"), looks := false }, kinds := [], alts := [], laidByText := true, laidKinds := [.data, .data, .data, .data, .pinned], laidTests := true, laidLooks := .later }
def UrlpSchemesCardSaid : Prop := Claim7.holds Tryd.pinned (.plain (OpenSpec.ofChange urlpSchemesSpec)) urlpSchemesCard

/-- THE TIED CARD OF 'glacislaw03.UrlpBlobs'. -/
def urlpBlobsCard : Claim7 := { stood := { row := urlpBlobsRow, standIns := [], harness := (true, "f927e622bde7f79093597ac1db50df0bbfaf4dc35ebae291554622b6a01bc012"), looks := false }, kinds := [], alts := [], laidByText := true, laidKinds := [.data, .data, .data, .data, .pinned], laidTests := true, laidLooks := .later }
def UrlpBlobsCardSaid : Prop := Claim7.holds Tryd.pinned (.plain (OpenSpec.ofChange urlpBlobsSpec)) urlpBlobsCard

/-- THE TIED CARD OF 'glacislaw03.UrlpQueries'. -/
def urlpQueriesCard : Claim7 := { stood := { row := urlpQueriesRow, standIns := [], harness := (true, "f927e622bde7f79093597ac1db50df0bbfaf4dc35ebae291554622b6a01bc012"), looks := false }, kinds := [], alts := [], laidByText := true, laidKinds := [.data, .data, .data, .data, .pinned], laidTests := true, laidLooks := .later }
def UrlpQueriesCardSaid : Prop := Claim7.holds Tryd.pinned (.plain (OpenSpec.ofChange urlpQueriesSpec)) urlpQueriesCard

/-- THE SECOND FORM's CARD OF 'glacislaw03.UrlpNames'. -/
def urlpNamesUptoCard : Claim7 := { stood := { row := urlpNamesUptoRow, standIns := [], harness := (true, "f927e622bde7f79093597ac1db50df0bbfaf4dc35ebae291554622b6a01bc012"), looks := false }, kinds := [], alts := [], laidByText := true, laidKinds := [.data, .data, .data, .data, .pinned], laidTests := true, laidLooks := .later }
def UrlpNamesUptoCardSaid : Prop := Claim7.holds Tryd.pinned (.plain (OpenSpec.upto urlpNamesSpec)) urlpNamesUptoCard

/-- THE SECOND FORM's CARD OF 'glacislaw03.UrlpReads'. -/
def urlpReadsUptoCard : Claim7 := { stood := { row := urlpReadsUptoRow, standIns := [], harness := (true, "f927e622bde7f79093597ac1db50df0bbfaf4dc35ebae291554622b6a01bc012"), looks := false }, kinds := [], alts := [], laidByText := true, laidKinds := [.data, .data, .data, .data, .pinned], laidTests := true, laidLooks := .later }
def UrlpReadsUptoCardSaid : Prop := Claim7.holds Tryd.pinned (.plain (OpenSpec.upto urlpReadsSpec)) urlpReadsUptoCard

/-- THE SECOND FORM's CARD OF 'glacislaw03.UrlpPaths'. -/
def urlpPathsUptoCard : Claim7 := { stood := { row := urlpPathsUptoRow, standIns := [], harness := (true, "f927e622bde7f79093597ac1db50df0bbfaf4dc35ebae291554622b6a01bc012"), looks := false }, kinds := [], alts := [], laidByText := true, laidKinds := [.data, .data, .data, .data, .pinned], laidTests := true, laidLooks := .later }
def UrlpPathsUptoCardSaid : Prop := Claim7.holds Tryd.pinned (.plain (OpenSpec.upto urlpPathsSpec)) urlpPathsUptoCard

/-- THE SECOND FORM's CARD OF 'glacislaw03.UrlpEnds'. -/
def urlpEndsUptoCard : Claim7 := { stood := { row := urlpEndsUptoRow, standIns := [], harness := (true, "f927e622bde7f79093597ac1db50df0bbfaf4dc35ebae291554622b6a01bc012"), looks := false }, kinds := [], alts := [], laidByText := true, laidKinds := [.data, .data, .data, .data, .pinned], laidTests := true, laidLooks := .later }
def UrlpEndsUptoCardSaid : Prop := Claim7.holds Tryd.pinned (.plain (OpenSpec.upto urlpEndsSpec)) urlpEndsUptoCard

/-- THE SECOND FORM's CARD OF 'glacislaw03.UrlpSchemes'. -/
def urlpSchemesUptoCard : Claim7 := { stood := { row := urlpSchemesUptoRow, standIns := [], harness := (true, "f927e622bde7f79093597ac1db50df0bbfaf4dc35ebae291554622b6a01bc012"), looks := false }, kinds := [], alts := [], laidByText := true, laidKinds := [.data, .data, .data, .data, .pinned], laidTests := true, laidLooks := .later }
def UrlpSchemesUptoCardSaid : Prop := Claim7.holds Tryd.pinned (.plain (OpenSpec.upto urlpSchemesSpec)) urlpSchemesUptoCard

/-- THE SECOND FORM's CARD OF 'glacislaw03.UrlpBlobs'. -/
def urlpBlobsUptoCard : Claim7 := { stood := { row := urlpBlobsUptoRow, standIns := [], harness := (true, "f927e622bde7f79093597ac1db50df0bbfaf4dc35ebae291554622b6a01bc012"), looks := false }, kinds := [], alts := [], laidByText := true, laidKinds := [.data, .data, .data, .data, .pinned], laidTests := true, laidLooks := .later }
def UrlpBlobsUptoCardSaid : Prop := Claim7.holds Tryd.pinned (.plain (OpenSpec.upto urlpBlobsSpec)) urlpBlobsUptoCard

/-- THE SECOND FORM's CARD OF 'glacislaw03.UrlpQueries'. -/
def urlpQueriesUptoCard : Claim7 := { stood := { row := urlpQueriesUptoRow, standIns := [], harness := (true, "f927e622bde7f79093597ac1db50df0bbfaf4dc35ebae291554622b6a01bc012"), looks := false }, kinds := [], alts := [], laidByText := true, laidKinds := [.data, .data, .data, .data, .pinned], laidTests := true, laidLooks := .later }
def UrlpQueriesUptoCardSaid : Prop := Claim7.holds Tryd.pinned (.plain (OpenSpec.upto urlpQueriesSpec)) urlpQueriesUptoCard
end Rows
end Go.Proofs.YtbeckddgelcbhaaDoor
