/- What the statements' frames share: the listed tables, and the witness's heap. -/
import Derived.Test.YtinjkpbpkedfnaaGreatDoorOwn
import Derived.Test.YtinjkpbpkedfnaaGreatDoorRows
import Derived.Test.YtinjkpbpkedfnaaGreatDoorUrlpAll
import Derived.ProofKit
import Derived.LaidMore
import Derived.Lay
import Derived.OpenShut
import Derived.Stop.Joined
import Derived.Stop.LaidErr
import Derived.Carry
import Derived.Lib.SmallJoins
import Derived.Lib.LaidTab
import Derived.Lib.LaidU8T
import Derived.ShutString
namespace Go.Proofs.YtinjkpbpkedfnaaGreatDoor
open Go.ChangeShapes Go.WideShapes Go.ChangeAt Go.RowKit

theorem gPow : Tryz.prog.globalNamed "internal/strconv.uint64pow10" = some 3 := by kernel_rfl
theorem tPow : (Tryz.prog.globals[3]?).map (·.type) = some 140 := by kernel_rfl
theorem cellsPow : Tryz.prog.cellsOf 140 = 20 := by kernel_rfl
theorem cells64 : Tryz.prog.cellsOf 125 = 1 := by kernel_rfl
theorem cellsS : Tryz.prog.cellsOf 9 = 1 := by kernel_rfl
def laidL : List (String × DataW Unit) := [("math/bits.deBruijn32tab", Rows.laid_math_bits_deBruijn32tab), ("math/bits.deBruijn64tab", Rows.laid_math_bits_deBruijn64tab), ("internal/strconv.uint64pow10", Rows.laid_internal_strconv_uint64pow10), ("unicode/utf8.acceptRanges", Rows.laid_unicode_utf8_acceptRanges), ("unicode/utf8.first", Rows.laid_unicode_utf8_first)]

theorem pow_data : (Rows.laid_internal_strconv_uint64pow10 : DataW Unit) = Lib.tabData .u64 Lib.pow10Tab := by kernel_rfl
theorem first_data : Rows.laid_unicode_utf8_first = Lib.firstData := by kernel_rfl
theorem accept_data : (Rows.laid_unicode_utf8_acceptRanges : DataW Unit) = Lib.acceptData := by kernel_rfl
theorem plain_of {W : World} (h : laidMetH Tryz.prog laidL W) : laidMet Tryz.prog laidL W := by
  rwa [MakeChecks.laidMetH_plain _ _ _ (by kernel_rfl)] at h
theorem tab_of {W : World} (h : laidMetH Tryz.prog laidL W) : Tab W := by
  have h2 := plain_of h
  have h3 := (laidMet.tail (laidMet.tail h2))
  rw [pow_data] at h3
  exact Lib.tabIs_of_head gPow tPow Tryz.underlying140 Tryz.underlying125 cells64 cellsPow h3
theorem u8types : U8Types Tryz.prog Tryz.lays237_ren := { Tryz.lays237 with }
theorem u8extra : U8Extra Tryz.prog Tryz.lays237_ren := ⟨by kernel_rfl, by kernel_rfl, by kernel_rfl, by kernel_rfl, by kernel_rfl, by kernel_rfl, by kernel_rfl⟩
theorem tab8_of {W : World} (h : laidMetH Tryz.prog laidL W) : Tab8 W := by
  obtain ⟨ps, hv, _⟩ := plain_of h
  have h3 := Lib.LaidVars_reads hv "unicode/utf8.first" Rows.laid_unicode_utf8_first (by simp [laidL])
  have h4 := Lib.LaidVars_reads hv "unicode/utf8.acceptRanges" Rows.laid_unicode_utf8_acceptRanges (by simp [laidL])
  rw [first_data] at h3
  rw [accept_data] at h4
  exact utf8Tabs_of_readsT u8types u8extra h3 h4
theorem laid_met (os : Os) (args : Array Value) : laidMetH Tryz.prog laidL ((World.laidAll Tryz.prog os laidL).forCall (fun _ _ => 0) ⟨#[], args, []⟩).memory := by
  rw [MakeChecks.laidMetH_plain _ _ _ (by kernel_rfl)]
  exact laidMet_laidAll _ (by kernel_rfl) (by kernel_rfl)
end Go.Proofs.YtinjkpbpkedfnaaGreatDoor
