/- The contracts of octet's and the document's functions of one byte. -/
import Derived.Test.YtknadldebedpiaaDoorProg
import Derived.Test.YtknadldebedpiaaDoorOctMath
import Derived.WalkKit
import Derived.Lib.Hide
namespace Go.Proofs.YtknadldebedpiaaDoor
open Go.RowKit

set_option maxHeartbeats 400000 in
theorem digit_any (c : Int) (w : World) : Calls Tryd.prog 37 #[.int .u8 c] w fun e w' => e = .returned (.bool (Oct.digitI c)) ∧ w = w' := by
  go_enter Tryd.func37, Tryd.ntmps37
  go_wp2
  all_goals (go_ret; refine ⟨?_, rfl⟩; simp_all [Oct.digitI] <;> omega)
set_option maxHeartbeats 400000 in
theorem rdigit_any (c : Int) (w : World) : Calls Tryd.prog 42 #[.int .u8 c] w fun e w' => e = .returned (.bool (Oct.digitI c)) ∧ w = w' := by
  go_enter Tryd.func42, Tryd.ntmps42
  go_wp2
  all_goals (go_ret; refine ⟨?_, rfl⟩; simp_all [Oct.digitI] <;> omega)
end Go.Proofs.YtknadldebedpiaaDoor
