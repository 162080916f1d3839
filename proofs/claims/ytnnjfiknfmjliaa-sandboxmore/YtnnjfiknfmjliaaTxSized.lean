/- What lists of texts that are handed in may take at most. -/
import Derived.Test.YtnnjfiknfmjliaaEmText
import Derived.SizedLaws
namespace Go.Proofs.Ytnnjfiknfmjliaa
open Go.ChangeShapes Go.WideShapes Go.ChangeAt Go.RowKit

theorem bytesT : Try.prog.bytesOf 9 = 16 := by kernel_rfl
theorem sized_texts {H : Type} {d : DataW H} {ts : List TypeId} {ds : List (DataW H)} {l : List (List UInt8)} (h : (DataW.weightsEach Try.prog ts ds).all (· ≤ reachBytes) = true) {j : Nat} (ht : ts[j]? = some 23) (hd : ds[j]? = some d) (hx : l.length = 0 ∨ ∃ el sp, d = .slice el sp ∧ el.length = l.length) : l.length * 16 ≤ 140737488351232 := by
  rcases hx with h0 | ⟨el, sp, rfl, hl⟩
  · omega
  · have := sized_slice h ht hd Try.underlying23
    rw [bytesT] at this
    have e : reachBytes = 140737488351232 := rfl
    rw [e] at this
    omega
end Go.Proofs.Ytnnjfiknfmjliaa
