/- What every frame asks of the program as a whole. -/
import Derived.ProofKit
import Derived.OpenShut
import Derived.Handed
import Derived.SizedLaws
import Derived.Carry
import Derived.Test.YtinjkpbpkedfnaaGreatDoorProg
namespace Go.Proofs.YtinjkpbpkedfnaaGreatDoor
open Go.ChangeShapes Go.WideShapes Go.ChangeAt Go.RowKit

theorem own : ownKnob Tryz.prog.godebug = none := by kernel_rfl
theorem laidOut : laidOutB Tryz.prog = true := by kernel_rfl
end Go.Proofs.YtinjkpbpkedfnaaGreatDoor
