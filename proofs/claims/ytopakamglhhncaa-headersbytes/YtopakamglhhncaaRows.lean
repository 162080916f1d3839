/-
  No cell of these rows narrows 'for every input' (looked for: loops, veiled, ifaces, maps, wideKeys, modest, calm, conditions, laid).
  DERIVED. THE GIVEN ROWS OF THIS SEAT. 6 by the template 'for every input the law returns true; each argument reads behind the call as it read before'; 0 by the template 'total and deterministic' (their statements: YtopakamglhhncaaTotals.lean).
  GIVEN WITH THE SEED: the statements are not yours to turn. If you find one false, say at which input.
  Laid BY PROGRAM, IN A SANDBOX (cutbox-rows.mjs): the forced cells as the released guide's own fill.sh prints them over the translation 4a12e37489bef254… (all of the seat's roots in one cut). By AI agents, Wed Nov 11 2026. No macro, syntax, notation, axiom, sorry.
-/
import Derived.Test.YtopakamglhhncaaChecked
import GoSem.Claim
import GoSem.ClaimJoined
import GoSem.ClaimMapViews
import Derived.JoinedTies
import Derived.KernelRfl
namespace Go.Proofs.Ytopakamglhhncaa
/- THE CELL 'sum', in the pinned program and in every row, IS THE sha256 OF THE DUMP (.gsa) THAT YtopakamglhhncaaProg.lean LOADS. Nothing in Lean hashes anything: it is a label: what it is worth is what the hold of that sum in a sandbox is worth. -/
noncomputable def Try.pinned : Pinned := { name := "ytopakamglhhncaa", sum := "4a12e37489bef2547c0b1dc011fa43107f2897c3a8147d7322e8fefd5fe75a39", checked := Try.checked }
namespace Rows
def none {H : Type} : Left H := { results := [], args := [] }

/-- 'glacislaw07.HeadersNames': WHATEVER THE INPUT: true; the input reads as it did. -/
def headersNamesSpec : ChangeSpec := { name := "headersNames", fn := fun _ => fun
  | [] => { results := [.lit (.bool true)], args := [] }
  | _ => none }
def headersNamesRow : OpenClaim := { program := "ytopakamglhhncaa", sum := "4a12e37489bef2547c0b1dc011fa43107f2897c3a8147d7322e8fefd5fe75a39", func := "glacis/glacislaw07.HeadersNames", spec := "headersNames", inPlace := ["internal/abi.NoEscape", "internal/bytealg.MakeNoZero", "internal/bytealg.IndexByteString", "internal/bytealg.IndexString"], unfollowed := true, recurses := true, named := ["internal/bytealg.MaxLen"], apart := false }
def HeadersNamesSaid : Prop := headersNamesRow.holds Try.pinned (OpenSpec.ofChange headersNamesSpec)

/-- ITS FALSE NEIGHBOUR: 'it returns false'. Refute it at one input. -/
def headersNamesWrong : ChangeSpec := { name := "headersNames", fn := fun _ => fun
  | [] => { results := [.lit (.bool false)], args := [] }
  | _ => none }
def HeadersNamesWrongFalsely : Prop := headersNamesRow.holds Try.pinned (OpenSpec.ofChange headersNamesWrong)

/-- 'glacislaw07.HeadersTells': WHATEVER THE INPUT: true; the input reads as it did. -/
def headersTellsSpec : ChangeSpec := { name := "headersTells", fn := fun _ => fun
  | [d1, d2] => { results := [.lit (.bool true)], args := [d1, d2] }
  | _ => none }
def headersTellsRow : OpenClaim := { program := "ytopakamglhhncaa", sum := "4a12e37489bef2547c0b1dc011fa43107f2897c3a8147d7322e8fefd5fe75a39", func := "glacis/glacislaw07.HeadersTells", spec := "headersTells", inPlace := ["internal/abi.NoEscape", "internal/bytealg.MakeNoZero", "internal/bytealg.IndexByteString", "internal/bytealg.IndexString"], unfollowed := true, recurses := true, named := ["internal/bytealg.MaxLen"], apart := false }
def HeadersTellsSaid : Prop := headersTellsRow.holds Try.pinned (OpenSpec.ofChange headersTellsSpec)

/-- ITS FALSE NEIGHBOUR: 'it returns false'. Refute it at one input. -/
def headersTellsWrong : ChangeSpec := { name := "headersTells", fn := fun _ => fun
  | [d1, d2] => { results := [.lit (.bool false)], args := [d1, d2] }
  | _ => none }
def HeadersTellsWrongFalsely : Prop := headersTellsRow.holds Try.pinned (OpenSpec.ofChange headersTellsWrong)

/-- 'glacislaw07.HeadersOthers': WHATEVER THE INPUT: true; the input reads as it did. -/
def headersOthersSpec : ChangeSpec := { name := "headersOthers", fn := fun _ => fun
  | [d1, d2, d3, d4] => { results := [.lit (.bool true)], args := [d1, d2, d3, d4] }
  | _ => none }
def headersOthersRow : OpenClaim := { program := "ytopakamglhhncaa", sum := "4a12e37489bef2547c0b1dc011fa43107f2897c3a8147d7322e8fefd5fe75a39", func := "glacis/glacislaw07.HeadersOthers", spec := "headersOthers", inPlace := ["internal/abi.NoEscape", "internal/bytealg.MakeNoZero", "internal/bytealg.IndexByteString", "internal/bytealg.IndexString"], unfollowed := true, recurses := true, named := ["internal/bytealg.MaxLen"], apart := false }
def HeadersOthersSaid : Prop := headersOthersRow.holds Try.pinned (OpenSpec.ofChange headersOthersSpec)

/-- ITS FALSE NEIGHBOUR: 'it returns false'. Refute it at one input. -/
def headersOthersWrong : ChangeSpec := { name := "headersOthers", fn := fun _ => fun
  | [d1, d2, d3, d4] => { results := [.lit (.bool false)], args := [d1, d2, d3, d4] }
  | _ => none }
def HeadersOthersWrongFalsely : Prop := headersOthersRow.holds Try.pinned (OpenSpec.ofChange headersOthersWrong)

/-- 'glacislaw07.HeadersJoins': WHATEVER THE INPUT: true; the input reads as it did. -/
def headersJoinsSpec : ChangeSpec := { name := "headersJoins", fn := fun _ => fun
  | [d1, d2, d3] => { results := [.lit (.bool true)], args := [d1, d2, d3] }
  | _ => none }
def headersJoinsRow : OpenClaim := { program := "ytopakamglhhncaa", sum := "4a12e37489bef2547c0b1dc011fa43107f2897c3a8147d7322e8fefd5fe75a39", func := "glacis/glacislaw07.HeadersJoins", spec := "headersJoins", inPlace := ["internal/abi.NoEscape", "internal/bytealg.MakeNoZero", "internal/bytealg.IndexByteString", "internal/bytealg.IndexString"], unfollowed := true, recurses := true, named := ["internal/bytealg.MaxLen"], apart := false }
def HeadersJoinsSaid : Prop := headersJoinsRow.holds Try.pinned (OpenSpec.ofChange headersJoinsSpec)

/-- ITS FALSE NEIGHBOUR: 'it returns false'. Refute it at one input. -/
def headersJoinsWrong : ChangeSpec := { name := "headersJoins", fn := fun _ => fun
  | [d1, d2, d3] => { results := [.lit (.bool false)], args := [d1, d2, d3] }
  | _ => none }
def HeadersJoinsWrongFalsely : Prop := headersJoinsRow.holds Try.pinned (OpenSpec.ofChange headersJoinsWrong)

/-- 'glacislaw07.HeadersPlain': WHATEVER THE INPUT: true; the input reads as it did. -/
def headersPlainSpec : ChangeSpec := { name := "headersPlain", fn := fun _ => fun
  | [d1, d2] => { results := [.lit (.bool true)], args := [d1, d2] }
  | _ => none }
def headersPlainRow : OpenClaim := { program := "ytopakamglhhncaa", sum := "4a12e37489bef2547c0b1dc011fa43107f2897c3a8147d7322e8fefd5fe75a39", func := "glacis/glacislaw07.HeadersPlain", spec := "headersPlain", inPlace := ["internal/abi.NoEscape", "internal/bytealg.MakeNoZero", "internal/bytealg.IndexByteString", "internal/bytealg.IndexString"], unfollowed := true, recurses := true, named := ["internal/bytealg.MaxLen"], apart := false }
def HeadersPlainSaid : Prop := headersPlainRow.holds Try.pinned (OpenSpec.ofChange headersPlainSpec)

/-- ITS FALSE NEIGHBOUR: 'it returns false'. Refute it at one input. -/
def headersPlainWrong : ChangeSpec := { name := "headersPlain", fn := fun _ => fun
  | [d1, d2] => { results := [.lit (.bool false)], args := [d1, d2] }
  | _ => none }
def HeadersPlainWrongFalsely : Prop := headersPlainRow.holds Try.pinned (OpenSpec.ofChange headersPlainWrong)

/-- 'glacislaw07.HeadersBytes': WHATEVER THE INPUT: true; the input reads as it did. -/
def headersBytesSpec : ChangeSpec := { name := "headersBytes", fn := fun _ => fun
  | [d1, d2, d3] => { results := [.lit (.bool true)], args := [d1, d2, d3] }
  | _ => none }
def headersBytesRow : OpenClaim := { program := "ytopakamglhhncaa", sum := "4a12e37489bef2547c0b1dc011fa43107f2897c3a8147d7322e8fefd5fe75a39", func := "glacis/glacislaw07.HeadersBytes", spec := "headersBytes", inPlace := ["internal/abi.NoEscape", "internal/bytealg.MakeNoZero", "internal/bytealg.IndexByteString", "internal/bytealg.IndexString"], unfollowed := true, recurses := true, named := ["internal/bytealg.MaxLen"], apart := false }
def HeadersBytesSaid : Prop := headersBytesRow.holds Try.pinned (OpenSpec.ofChange headersBytesSpec)

/-- ITS FALSE NEIGHBOUR: 'it returns false'. Refute it at one input. -/
def headersBytesWrong : ChangeSpec := { name := "headersBytes", fn := fun _ => fun
  | [d1, d2, d3] => { results := [.lit (.bool false)], args := [d1, d2, d3] }
  | _ => none }
def HeadersBytesWrongFalsely : Prop := headersBytesRow.holds Try.pinned (OpenSpec.ofChange headersBytesWrong)

/- THE SECOND FORM. 'bulk': how many values and letters a reading holds, each counted each time it is reached (what is shared counts as often as it is met; a slice's spare places count too). A statement '..UptoSaid' is the law's where the arguments, and the package variables that the reading takes, are together of bulk at most 1048576: NARROWER than '..Said'. Prove '..Said' where nothing that the law and all that it calls make is longer than what came in: it says more and counts as full. Else prove '..UptoSaid'. A law counts once. -/
mutual
def uptoBulk {H : Type} : DataW H → Nat
  | .lit (.string bytes) => bytes.length + 1
  | .lit _ => 1
  | .nil => 1
  | .ptr d => uptoBulk d + 1
  | .slice elems spare => uptoBulkAll elems + uptoBulkAll spare + 1
  | .agg parts => uptoBulkAll parts + 1
  | .iface _ d => uptoBulk d + 1
  | .map entries => uptoBulkEntries entries + 1
  | .held _ => 1
def uptoBulkAll {H : Type} : List (DataW H) → Nat
  | [] => 0
  | d :: r => uptoBulk d + uptoBulkAll r
def uptoBulkEntries {H : Type} : List (Lit × DataW H) → Nat
  | [] => 0
  | x :: r => uptoBulkEntry x + uptoBulkEntries r
def uptoBulkEntry {H : Type} : Lit × DataW H → Nat
  | (.string bytes, d) => bytes.length + uptoBulk d + 1
  | (_, d) => uptoBulk d + 1
 end
def uptoSmall : (H : Type) → List (DataW H) → Bool := fun _ ds => decide (uptoBulkAll ds ≤ 1048576)
def OpenSpec.upto (s : _root_.Go.ChangeSpec) : _root_.Go.OpenSpec := { _root_.Go.OpenSpec.ofChange s with cond := some uptoSmall }

/-- 'glacislaw07.HeadersNames', WHERE WHAT IT READS IS OF BULK AT MOST 1048576: true; the input reads as it did. -/
def headersNamesUptoRow : OpenClaim := { program := "ytopakamglhhncaa", sum := "4a12e37489bef2547c0b1dc011fa43107f2897c3a8147d7322e8fefd5fe75a39", func := "glacis/glacislaw07.HeadersNames", spec := "headersNames", inPlace := ["internal/abi.NoEscape", "internal/bytealg.MakeNoZero", "internal/bytealg.IndexByteString", "internal/bytealg.IndexString"], unfollowed := true, recurses := true, named := ["internal/bytealg.MaxLen"], apart := false, narrowed := true }
def HeadersNamesUptoSaid : Prop := headersNamesUptoRow.holds Try.pinned (OpenSpec.upto headersNamesSpec)

/-- 'glacislaw07.HeadersTells', WHERE WHAT IT READS IS OF BULK AT MOST 1048576: true; the input reads as it did. -/
def headersTellsUptoRow : OpenClaim := { program := "ytopakamglhhncaa", sum := "4a12e37489bef2547c0b1dc011fa43107f2897c3a8147d7322e8fefd5fe75a39", func := "glacis/glacislaw07.HeadersTells", spec := "headersTells", inPlace := ["internal/abi.NoEscape", "internal/bytealg.MakeNoZero", "internal/bytealg.IndexByteString", "internal/bytealg.IndexString"], unfollowed := true, recurses := true, named := ["internal/bytealg.MaxLen"], apart := false, narrowed := true }
def HeadersTellsUptoSaid : Prop := headersTellsUptoRow.holds Try.pinned (OpenSpec.upto headersTellsSpec)

/-- 'glacislaw07.HeadersOthers', WHERE WHAT IT READS IS OF BULK AT MOST 1048576: true; the input reads as it did. -/
def headersOthersUptoRow : OpenClaim := { program := "ytopakamglhhncaa", sum := "4a12e37489bef2547c0b1dc011fa43107f2897c3a8147d7322e8fefd5fe75a39", func := "glacis/glacislaw07.HeadersOthers", spec := "headersOthers", inPlace := ["internal/abi.NoEscape", "internal/bytealg.MakeNoZero", "internal/bytealg.IndexByteString", "internal/bytealg.IndexString"], unfollowed := true, recurses := true, named := ["internal/bytealg.MaxLen"], apart := false, narrowed := true }
def HeadersOthersUptoSaid : Prop := headersOthersUptoRow.holds Try.pinned (OpenSpec.upto headersOthersSpec)

/-- 'glacislaw07.HeadersJoins', WHERE WHAT IT READS IS OF BULK AT MOST 1048576: true; the input reads as it did. -/
def headersJoinsUptoRow : OpenClaim := { program := "ytopakamglhhncaa", sum := "4a12e37489bef2547c0b1dc011fa43107f2897c3a8147d7322e8fefd5fe75a39", func := "glacis/glacislaw07.HeadersJoins", spec := "headersJoins", inPlace := ["internal/abi.NoEscape", "internal/bytealg.MakeNoZero", "internal/bytealg.IndexByteString", "internal/bytealg.IndexString"], unfollowed := true, recurses := true, named := ["internal/bytealg.MaxLen"], apart := false, narrowed := true }
def HeadersJoinsUptoSaid : Prop := headersJoinsUptoRow.holds Try.pinned (OpenSpec.upto headersJoinsSpec)

/-- 'glacislaw07.HeadersPlain', WHERE WHAT IT READS IS OF BULK AT MOST 1048576: true; the input reads as it did. -/
def headersPlainUptoRow : OpenClaim := { program := "ytopakamglhhncaa", sum := "4a12e37489bef2547c0b1dc011fa43107f2897c3a8147d7322e8fefd5fe75a39", func := "glacis/glacislaw07.HeadersPlain", spec := "headersPlain", inPlace := ["internal/abi.NoEscape", "internal/bytealg.MakeNoZero", "internal/bytealg.IndexByteString", "internal/bytealg.IndexString"], unfollowed := true, recurses := true, named := ["internal/bytealg.MaxLen"], apart := false, narrowed := true }
def HeadersPlainUptoSaid : Prop := headersPlainUptoRow.holds Try.pinned (OpenSpec.upto headersPlainSpec)

/-- 'glacislaw07.HeadersBytes', WHERE WHAT IT READS IS OF BULK AT MOST 1048576: true; the input reads as it did. -/
def headersBytesUptoRow : OpenClaim := { program := "ytopakamglhhncaa", sum := "4a12e37489bef2547c0b1dc011fa43107f2897c3a8147d7322e8fefd5fe75a39", func := "glacis/glacislaw07.HeadersBytes", spec := "headersBytes", inPlace := ["internal/abi.NoEscape", "internal/bytealg.MakeNoZero", "internal/bytealg.IndexByteString", "internal/bytealg.IndexString"], unfollowed := true, recurses := true, named := ["internal/bytealg.MaxLen"], apart := false, narrowed := true }
def HeadersBytesUptoSaid : Prop := headersBytesUptoRow.holds Try.pinned (OpenSpec.upto headersBytesSpec)

end Rows
end Go.Proofs.Ytopakamglhhncaa
