/- The walks of the statements on numbers and on paths. -/
import Derived.Test.YtbeckddgelcbhaaDoorUrlpAwake
namespace Go.Proofs.YtbeckddgelcbhaaDoor
open Go.RowKit

theorem walk_UrlpNames (w : World) (hT : Tab w) (hT8 : Tab8 w) : Calls Tryd.prog 3 #[] w fun e w' => e = .returned (.bool true) ∧ Below w.heap.size w w' := by
  have HA := Lib.hid (awake_any w hT hT8)
  clear hT hT8
  go_enter Tryd.func3, Tryd.ntmps3
  go_wp2_with fail
  refine HA.out.mono ?_
  rintro e w1 ⟨rfl, hb1⟩
  go_wp2_with fail
  go_ret
  exact ⟨rfl, hb1⟩
end Go.Proofs.YtbeckddgelcbhaaDoor
