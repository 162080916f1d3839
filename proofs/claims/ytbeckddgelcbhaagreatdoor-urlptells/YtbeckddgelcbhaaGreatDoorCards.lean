/-
  DERIVED. GIVEN WITH THE SEED: THE CARDS: each row of YtbeckddgelcbhaaGreatDoorRows.lean that lists a variable, with what it lists TIED to the program's text (the seventh form; the later family's looks); each row that meets fmt, with fmt's text TOLD by the authors' own Lean function (tested against real Go, not proved from fmt's source: count such statements apart). THE CARD IS WHAT COUNTS. Prove the row's statement (the work); the ties are given (YtbeckddgelcbhaaGreatDoorTie.lean); close each card by the builder's one call (the guide's Derived/Test/ToyasCard.lean, 'card_holds'). Laid BY PROGRAM, IN A SANDBOX (cutbox-door.mjs). By AI agents, Wed Nov 11 2026. No macro, syntax, notation, axiom, sorry.
-/
import Derived.Test.YtbeckddgelcbhaaGreatDoorRows
import GoSem.ClaimSeven
namespace Go.Proofs.YtbeckddgelcbhaaGreatDoor
namespace Rows

/-- THE TIED CARD OF 'glacislaw03.UrlpTells'. -/
def urlpTellsCard : Claim7 := { stood := { row := urlpTellsRow, standIns := [], harness := (true, "afc6b8a48e03d9e278c655aad5bd48718410331243574b704119653b6fff551f"), looks := false }, kinds := [], alts := [], laidByText := true, laidKinds := [.data, .data, .data, .data, .pinned], laidTests := true, laidLooks := .later }
def UrlpTellsCardSaid : Prop := Claim7.holds Tryz.pinned (.plain (OpenSpec.ofChange urlpTellsSpec)) urlpTellsCard

/-- THE SECOND FORM's CARD OF 'glacislaw03.UrlpTells'. -/
def urlpTellsUptoCard : Claim7 := { stood := { row := urlpTellsUptoRow, standIns := [], harness := (true, "afc6b8a48e03d9e278c655aad5bd48718410331243574b704119653b6fff551f"), looks := false }, kinds := [], alts := [], laidByText := true, laidKinds := [.data, .data, .data, .data, .pinned], laidTests := true, laidLooks := .later }
def UrlpTellsUptoCardSaid : Prop := Claim7.holds Tryz.pinned (.plain (OpenSpec.upto urlpTellsSpec)) urlpTellsUptoCard
end Rows
end Go.Proofs.YtbeckddgelcbhaaGreatDoor
