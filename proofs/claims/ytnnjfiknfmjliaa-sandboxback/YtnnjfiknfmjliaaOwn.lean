/- What every frame asks of the program as a whole. -/
import Derived.ProofKit
import Derived.OpenShut
import Derived.Handed
import Derived.SizedLaws
import Derived.Carry
import Derived.Test.YtnnjfiknfmjliaaProg
namespace Go.Proofs.Ytnnjfiknfmjliaa
open Go.ChangeShapes Go.WideShapes Go.ChangeAt Go.RowKit

theorem own : ownKnob Try.prog.godebug = none := by kernel_rfl
theorem laidOut : laidOutB Try.prog = true := by kernel_rfl
end Go.Proofs.Ytnnjfiknfmjliaa
