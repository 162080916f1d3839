/- The contracts of octet's and the document's functions of one byte. -/
import Derived.Test.YtcmbckacbdiebaaProg
import Derived.Test.YtcmbckacbdiebaaOctMath
import Derived.WalkKit
import Derived.Lib.Hide
namespace Go.Proofs.Ytcmbckacbdiebaa
open Go.RowKit

set_option maxHeartbeats 400000 in
theorem blank_any (c : Int) (w : World) : Calls Try.prog 44 #[.int .u8 c] w fun e w' => e = .returned (.bool (Oct.blankI c)) ∧ w = w' := by
  go_enter Try.func44, Try.ntmps44
  go_wp2
  all_goals (go_ret; refine ⟨?_, rfl⟩; simp_all [Oct.blankI])
set_option maxHeartbeats 400000 in
theorem rblank_any (c : Int) (w : World) : Calls Try.prog 46 #[.int .u8 c] w fun e w' => e = .returned (.bool (Oct.blankI c)) ∧ w = w' := by
  go_enter Try.func46, Try.ntmps46
  go_wp2
  all_goals (go_ret; refine ⟨?_, rfl⟩; simp_all [Oct.blankI])
end Go.Proofs.Ytcmbckacbdiebaa
