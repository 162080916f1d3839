/-
  No cell of these rows narrows 'for every input' (looked for: loops, veiled, ifaces, maps, wideKeys, modest, calm, conditions, laid).
  DERIVED. THE GIVEN ROWS OF THIS SEAT. 6 by the template 'for every input the law returns true; each argument reads behind the call as it read before'; 0 by the template 'total and deterministic' (their statements: YtcmbckacbdiebaaTotals.lean).
  GIVEN WITH THE SEED: the statements are not yours to turn. If you find one false, say at which input.
  Laid BY PROGRAM, IN A SANDBOX (cutbox-rows.mjs): the forced cells as the released guide's own fill.sh prints them over the translation cbce7467c449f317… (all of the seat's roots in one cut). By AI agents, Wed Nov 11 2026. No macro, syntax, notation, axiom, sorry.
-/
import Derived.Test.YtcmbckacbdiebaaChecked
import GoSem.Claim
import GoSem.ClaimJoined
import GoSem.ClaimMapViews
import Derived.JoinedTies
import Derived.KernelRfl
namespace Go.Proofs.Ytcmbckacbdiebaa
/- THE CELL 'sum', in the pinned program and in every row, IS THE sha256 OF THE DUMP (.gsa) THAT YtcmbckacbdiebaaProg.lean LOADS. Nothing in Lean hashes anything: it is a label: what it is worth is what the hold of that sum in a sandbox is worth. -/
noncomputable def Try.pinned : Pinned := { name := "ytcmbckacbdiebaa", sum := "cbce7467c449f317a9802352936615db1121f3451f0cb8db4f0399c7d0f1b995", checked := Try.checked }
namespace Rows
def none {H : Type} : Left H := { results := [], args := [] }

/-- 'glacislaw10.CspparseReads': WHATEVER THE INPUT: true; the input reads as it did. -/
def cspparseReadsSpec : ChangeSpec := { name := "cspparseReads", fn := fun _ => fun
  | [d] => { results := [.lit (.bool true)], args := [d] }
  | _ => none }
def cspparseReadsRow : OpenClaim := { program := "ytcmbckacbdiebaa", sum := "cbce7467c449f317a9802352936615db1121f3451f0cb8db4f0399c7d0f1b995", func := "glacis/glacislaw10.CspparseReads", spec := "cspparseReads", inPlace := ["internal/abi.NoEscape", "internal/bytealg.MakeNoZero"], unfollowed := true, recurses := true, apart := false }
def CspparseReadsSaid : Prop := cspparseReadsRow.holds Try.pinned (OpenSpec.ofChange cspparseReadsSpec)

/-- ITS FALSE NEIGHBOUR: 'it returns false'. Refute it at one input. -/
def cspparseReadsWrong : ChangeSpec := { name := "cspparseReads", fn := fun _ => fun
  | [d] => { results := [.lit (.bool false)], args := [d] }
  | _ => none }
def CspparseReadsWrongFalsely : Prop := cspparseReadsRow.holds Try.pinned (OpenSpec.ofChange cspparseReadsWrong)

/-- 'glacislaw10.CspparseHeads': WHATEVER THE INPUT: true; the input reads as it did. -/
def cspparseHeadsSpec : ChangeSpec := { name := "cspparseHeads", fn := fun _ => fun
  | [d] => { results := [.lit (.bool true)], args := [d] }
  | _ => none }
def cspparseHeadsRow : OpenClaim := { program := "ytcmbckacbdiebaa", sum := "cbce7467c449f317a9802352936615db1121f3451f0cb8db4f0399c7d0f1b995", func := "glacis/glacislaw10.CspparseHeads", spec := "cspparseHeads", inPlace := ["internal/abi.NoEscape", "internal/bytealg.MakeNoZero"], unfollowed := true, recurses := true, apart := false }
def CspparseHeadsSaid : Prop := cspparseHeadsRow.holds Try.pinned (OpenSpec.ofChange cspparseHeadsSpec)

/-- ITS FALSE NEIGHBOUR: 'it returns false'. Refute it at one input. -/
def cspparseHeadsWrong : ChangeSpec := { name := "cspparseHeads", fn := fun _ => fun
  | [d] => { results := [.lit (.bool false)], args := [d] }
  | _ => none }
def CspparseHeadsWrongFalsely : Prop := cspparseHeadsRow.holds Try.pinned (OpenSpec.ofChange cspparseHeadsWrong)

/-- 'glacislaw10.CspparseTells': WHATEVER THE INPUT: true; the input reads as it did. -/
def cspparseTellsSpec : ChangeSpec := { name := "cspparseTells", fn := fun _ => fun
  | [d] => { results := [.lit (.bool true)], args := [d] }
  | _ => none }
def cspparseTellsRow : OpenClaim := { program := "ytcmbckacbdiebaa", sum := "cbce7467c449f317a9802352936615db1121f3451f0cb8db4f0399c7d0f1b995", func := "glacis/glacislaw10.CspparseTells", spec := "cspparseTells", inPlace := ["internal/abi.NoEscape", "internal/bytealg.MakeNoZero"], unfollowed := true, recurses := true, apart := false }
def CspparseTellsSaid : Prop := cspparseTellsRow.holds Try.pinned (OpenSpec.ofChange cspparseTellsSpec)

/-- ITS FALSE NEIGHBOUR: 'it returns false'. Refute it at one input. -/
def cspparseTellsWrong : ChangeSpec := { name := "cspparseTells", fn := fun _ => fun
  | [d] => { results := [.lit (.bool false)], args := [d] }
  | _ => none }
def CspparseTellsWrongFalsely : Prop := cspparseTellsRow.holds Try.pinned (OpenSpec.ofChange cspparseTellsWrong)

/-- 'glacislaw10.CspparseBack': WHATEVER THE INPUT: true; the input reads as it did. -/
def cspparseBackSpec : ChangeSpec := { name := "cspparseBack", fn := fun _ => fun
  | [d] => { results := [.lit (.bool true)], args := [d] }
  | _ => none }
def cspparseBackRow : OpenClaim := { program := "ytcmbckacbdiebaa", sum := "cbce7467c449f317a9802352936615db1121f3451f0cb8db4f0399c7d0f1b995", func := "glacis/glacislaw10.CspparseBack", spec := "cspparseBack", inPlace := ["internal/abi.NoEscape", "internal/bytealg.MakeNoZero"], unfollowed := true, recurses := true, apart := false }
def CspparseBackSaid : Prop := cspparseBackRow.holds Try.pinned (OpenSpec.ofChange cspparseBackSpec)

/-- ITS FALSE NEIGHBOUR: 'it returns false'. Refute it at one input. -/
def cspparseBackWrong : ChangeSpec := { name := "cspparseBack", fn := fun _ => fun
  | [d] => { results := [.lit (.bool false)], args := [d] }
  | _ => none }
def CspparseBackWrongFalsely : Prop := cspparseBackRow.holds Try.pinned (OpenSpec.ofChange cspparseBackWrong)

/-- 'glacislaw10.CspparseFirst': WHATEVER THE INPUT: true; the input reads as it did. -/
def cspparseFirstSpec : ChangeSpec := { name := "cspparseFirst", fn := fun _ => fun
  | [d1, d2] => { results := [.lit (.bool true)], args := [d1, d2] }
  | _ => none }
def cspparseFirstRow : OpenClaim := { program := "ytcmbckacbdiebaa", sum := "cbce7467c449f317a9802352936615db1121f3451f0cb8db4f0399c7d0f1b995", func := "glacis/glacislaw10.CspparseFirst", spec := "cspparseFirst", inPlace := ["internal/abi.NoEscape", "internal/bytealg.MakeNoZero"], unfollowed := true, recurses := true, apart := false }
def CspparseFirstSaid : Prop := cspparseFirstRow.holds Try.pinned (OpenSpec.ofChange cspparseFirstSpec)

/-- ITS FALSE NEIGHBOUR: 'it returns false'. Refute it at one input. -/
def cspparseFirstWrong : ChangeSpec := { name := "cspparseFirst", fn := fun _ => fun
  | [d1, d2] => { results := [.lit (.bool false)], args := [d1, d2] }
  | _ => none }
def CspparseFirstWrongFalsely : Prop := cspparseFirstRow.holds Try.pinned (OpenSpec.ofChange cspparseFirstWrong)

/-- 'glacislaw10.CspparseLines': WHATEVER THE INPUT: true; the input reads as it did. -/
def cspparseLinesSpec : ChangeSpec := { name := "cspparseLines", fn := fun _ => fun
  | [d1, d2] => { results := [.lit (.bool true)], args := [d1, d2] }
  | _ => none }
def cspparseLinesRow : OpenClaim := { program := "ytcmbckacbdiebaa", sum := "cbce7467c449f317a9802352936615db1121f3451f0cb8db4f0399c7d0f1b995", func := "glacis/glacislaw10.CspparseLines", spec := "cspparseLines", inPlace := ["internal/abi.NoEscape", "internal/bytealg.MakeNoZero"], unfollowed := true, recurses := true, apart := false }
def CspparseLinesSaid : Prop := cspparseLinesRow.holds Try.pinned (OpenSpec.ofChange cspparseLinesSpec)

/-- ITS FALSE NEIGHBOUR: 'it returns false'. Refute it at one input. -/
def cspparseLinesWrong : ChangeSpec := { name := "cspparseLines", fn := fun _ => fun
  | [d1, d2] => { results := [.lit (.bool false)], args := [d1, d2] }
  | _ => none }
def CspparseLinesWrongFalsely : Prop := cspparseLinesRow.holds Try.pinned (OpenSpec.ofChange cspparseLinesWrong)

/- THE SECOND FORM. 'bulk': how many values and letters a reading holds, each counted each time it is reached (what is shared counts as often as it is met; a slice's spare places count too). A statement '..UptoSaid' is the law's where the arguments, and the package variables that the reading takes, are together of bulk at most 1048576: NARROWER than '..Said'. Prove '..Said' where nothing that the law and all that it calls make is longer than what came in: it says more and counts as full. Else prove '..UptoSaid'. A law counts once. -/
mutual
def uptoBulk {H : Type} : DataW H → Nat
  | .lit (.string bytes) => bytes.length + 1
  | .lit _ => 1
  | .nil => 1
  | .ptr d => uptoBulk d + 1
  | .slice elems spare => uptoBulkAll elems + uptoBulkAll spare + 1
  | .agg parts => uptoBulkAll parts + 1
  | .iface _ d => uptoBulk d + 1
  | .map entries => uptoBulkEntries entries + 1
  | .held _ => 1
def uptoBulkAll {H : Type} : List (DataW H) → Nat
  | [] => 0
  | d :: r => uptoBulk d + uptoBulkAll r
def uptoBulkEntries {H : Type} : List (Lit × DataW H) → Nat
  | [] => 0
  | x :: r => uptoBulkEntry x + uptoBulkEntries r
def uptoBulkEntry {H : Type} : Lit × DataW H → Nat
  | (.string bytes, d) => bytes.length + uptoBulk d + 1
  | (_, d) => uptoBulk d + 1
 end
def uptoSmall : (H : Type) → List (DataW H) → Bool := fun _ ds => decide (uptoBulkAll ds ≤ 1048576)
def OpenSpec.upto (s : _root_.Go.ChangeSpec) : _root_.Go.OpenSpec := { _root_.Go.OpenSpec.ofChange s with cond := some uptoSmall }

/-- 'glacislaw10.CspparseReads', WHERE WHAT IT READS IS OF BULK AT MOST 1048576: true; the input reads as it did. -/
def cspparseReadsUptoRow : OpenClaim := { program := "ytcmbckacbdiebaa", sum := "cbce7467c449f317a9802352936615db1121f3451f0cb8db4f0399c7d0f1b995", func := "glacis/glacislaw10.CspparseReads", spec := "cspparseReads", inPlace := ["internal/abi.NoEscape", "internal/bytealg.MakeNoZero"], unfollowed := true, recurses := true, apart := false, narrowed := true }
def CspparseReadsUptoSaid : Prop := cspparseReadsUptoRow.holds Try.pinned (OpenSpec.upto cspparseReadsSpec)

/-- 'glacislaw10.CspparseHeads', WHERE WHAT IT READS IS OF BULK AT MOST 1048576: true; the input reads as it did. -/
def cspparseHeadsUptoRow : OpenClaim := { program := "ytcmbckacbdiebaa", sum := "cbce7467c449f317a9802352936615db1121f3451f0cb8db4f0399c7d0f1b995", func := "glacis/glacislaw10.CspparseHeads", spec := "cspparseHeads", inPlace := ["internal/abi.NoEscape", "internal/bytealg.MakeNoZero"], unfollowed := true, recurses := true, apart := false, narrowed := true }
def CspparseHeadsUptoSaid : Prop := cspparseHeadsUptoRow.holds Try.pinned (OpenSpec.upto cspparseHeadsSpec)

/-- 'glacislaw10.CspparseTells', WHERE WHAT IT READS IS OF BULK AT MOST 1048576: true; the input reads as it did. -/
def cspparseTellsUptoRow : OpenClaim := { program := "ytcmbckacbdiebaa", sum := "cbce7467c449f317a9802352936615db1121f3451f0cb8db4f0399c7d0f1b995", func := "glacis/glacislaw10.CspparseTells", spec := "cspparseTells", inPlace := ["internal/abi.NoEscape", "internal/bytealg.MakeNoZero"], unfollowed := true, recurses := true, apart := false, narrowed := true }
def CspparseTellsUptoSaid : Prop := cspparseTellsUptoRow.holds Try.pinned (OpenSpec.upto cspparseTellsSpec)

/-- 'glacislaw10.CspparseBack', WHERE WHAT IT READS IS OF BULK AT MOST 1048576: true; the input reads as it did. -/
def cspparseBackUptoRow : OpenClaim := { program := "ytcmbckacbdiebaa", sum := "cbce7467c449f317a9802352936615db1121f3451f0cb8db4f0399c7d0f1b995", func := "glacis/glacislaw10.CspparseBack", spec := "cspparseBack", inPlace := ["internal/abi.NoEscape", "internal/bytealg.MakeNoZero"], unfollowed := true, recurses := true, apart := false, narrowed := true }
def CspparseBackUptoSaid : Prop := cspparseBackUptoRow.holds Try.pinned (OpenSpec.upto cspparseBackSpec)

/-- 'glacislaw10.CspparseFirst', WHERE WHAT IT READS IS OF BULK AT MOST 1048576: true; the input reads as it did. -/
def cspparseFirstUptoRow : OpenClaim := { program := "ytcmbckacbdiebaa", sum := "cbce7467c449f317a9802352936615db1121f3451f0cb8db4f0399c7d0f1b995", func := "glacis/glacislaw10.CspparseFirst", spec := "cspparseFirst", inPlace := ["internal/abi.NoEscape", "internal/bytealg.MakeNoZero"], unfollowed := true, recurses := true, apart := false, narrowed := true }
def CspparseFirstUptoSaid : Prop := cspparseFirstUptoRow.holds Try.pinned (OpenSpec.upto cspparseFirstSpec)

/-- 'glacislaw10.CspparseLines', WHERE WHAT IT READS IS OF BULK AT MOST 1048576: true; the input reads as it did. -/
def cspparseLinesUptoRow : OpenClaim := { program := "ytcmbckacbdiebaa", sum := "cbce7467c449f317a9802352936615db1121f3451f0cb8db4f0399c7d0f1b995", func := "glacis/glacislaw10.CspparseLines", spec := "cspparseLines", inPlace := ["internal/abi.NoEscape", "internal/bytealg.MakeNoZero"], unfollowed := true, recurses := true, apart := false, narrowed := true }
def CspparseLinesUptoSaid : Prop := cspparseLinesUptoRow.holds Try.pinned (OpenSpec.upto cspparseLinesSpec)

end Rows
end Go.Proofs.Ytcmbckacbdiebaa
