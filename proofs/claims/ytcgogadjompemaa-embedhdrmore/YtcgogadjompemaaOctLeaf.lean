/- The contracts of octet's and the document's functions of one byte. -/
import Derived.Test.YtcgogadjompemaaProg
import Derived.Test.YtcgogadjompemaaOctMath
import Derived.WalkKit
import Derived.Lib.Hide
namespace Go.Proofs.Ytcgogadjompemaa
open Go.RowKit

set_option maxHeartbeats 400000 in
theorem blank_any (c : Int) (w : World) : Calls Try.prog 28 #[.int .u8 c] w fun e w' => e = .returned (.bool (Oct.blankI c)) ∧ w = w' := by
  go_enter Try.func28, Try.ntmps28
  go_wp2
  all_goals (go_ret; refine ⟨?_, rfl⟩; simp_all [Oct.blankI])
set_option maxHeartbeats 400000 in
theorem rblank_any (c : Int) (w : World) : Calls Try.prog 47 #[.int .u8 c] w fun e w' => e = .returned (.bool (Oct.blankI c)) ∧ w = w' := by
  go_enter Try.func47, Try.ntmps47
  go_wp2
  all_goals (go_ret; refine ⟨?_, rfl⟩; simp_all [Oct.blankI])
end Go.Proofs.Ytcgogadjompemaa
