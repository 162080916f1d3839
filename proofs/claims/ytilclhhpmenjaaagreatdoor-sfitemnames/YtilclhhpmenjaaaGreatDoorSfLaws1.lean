/- The walk of SfitemNames. -/
import Derived.Test.YtilclhhpmenjaaaGreatDoorSfAwake
namespace Go.Proofs.YtilclhhpmenjaaaGreatDoor
open Go.RowKit Go.Shelf Go.Maps Go.Deep

theorem walk_SfitemNames (w : World) (hT : Tab w) (hM : TabM w) : Calls Tryz.prog 3 #[] w fun e w' => e = .returned (.bool true) ∧ Below w.heap.size w w' := by
  have H := Lib.hid (awake_any w hT hM)
  clear hT hM
  go_enter Tryz.func3, Tryz.ntmps3
  go_wp2_with fail
  refine H.out.mono ?_
  rintro e w1 ⟨rfl, hb⟩
  go_wp2_with fail
  go_ret
  exact ⟨rfl, hb⟩
end Go.Proofs.YtilclhhpmenjaaaGreatDoor
