/- The walk of CoopNames. -/
import Derived.Test.YtgddmihojladfaaGreatDoorCoAwake
namespace Go.Proofs.YtgddmihojladfaaGreatDoor
open Go.RowKit

theorem walk_CoopNames (w : World) : Calls Tryz.prog 3 #[] w fun e w' => e = .returned (.bool true) ∧ Below w.heap.size w w' := by
  go_enter Tryz.func3, Tryz.ntmps3
  go_wp2_with fail
  refine (awake8_any _).mono ?_
  rintro e w1 ⟨rfl, hb1⟩
  go_wp2_with fail
  go_ret
  exact ⟨rfl, hb1⟩
end Go.Proofs.YtgddmihojladfaaGreatDoor
