/- The contracts of octet.Token, Trim and of the document's answers. -/
import Derived.Test.YtnnjfiknfmjliaaOctLeaf
namespace Go.Proofs.Ytnnjfiknfmjliaa
open Go.RowKit

theorem token_end (s : ByteArray) (k : Nat) (h : s.size ≤ k) (hi : Oct.allB Oct.tcharI (s.data.toList.take k) = true) : (!s.toList.isEmpty) = Oct.tokenB s.data.toList := by
  rw [Oct.take_all s k h] at hi
  rw [Lib.toList_data, Oct.tokenB, hi]; rfl
theorem token_miss (s : ByteArray) (k : Nat) (h : k < s.size) (hc : (!Oct.tcharI s[k].toNat) = true) : false = Oct.tokenB s.data.toList := by
  rw [Oct.tokenB, Oct.allB_miss _ s k h (by simpa using hc)]; rfl

end Go.Proofs.Ytnnjfiknfmjliaa
