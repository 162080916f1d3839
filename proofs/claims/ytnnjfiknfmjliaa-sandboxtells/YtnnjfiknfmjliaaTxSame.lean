/- Two lists of texts that are alike. -/
import Derived.Test.YtnnjfiknfmjliaaTxIn
namespace Go.Proofs.Ytnnjfiknfmjliaa
open Go.RowKit

set_option maxHeartbeats 1000000 in
/-- Two lists of texts that are alike. -/
theorem texts_self (A1 A2 : Option Addr) (c1 c2 : Nat) (pa : List (List UInt8)) (w : World) (hm : pa.length ≤ 100000000) (h1 : SeenT w A1 pa) (h2 : SeenT w A2 pa) :
    Calls Try.prog 11 #[.slice A1 pa.length c1, .slice A2 pa.length c2] w fun e w' => e = .returned (.bool true) ∧ Below w.heap.size w w' := by
  have H1 := Lib.hid h1; have H2 := Lib.hid h2
  clear h1 h2
  have h0 : ((pa.length : Int) != (pa.length : Int)) = false := by simp
  go_enter Try.func11, Try.ntmps11
  go_wp2
  clear h0
  go_loopw [5] (fun i wr => ∃ k m : Nat, k ≤ pa.length ∧ i = .int .i64 k ∧ wr = w.drewN m) (fun i _ => pa.length - (intOf i).toNat)
  case atStart => exact ⟨0, 0, Nat.zero_le _, rfl, rfl⟩
  case round =>
    obtain ⟨k, m, hk, rfl, rfl⟩ := hrel
    by_cases hlt : k < pa.length
    · obtain ⟨g1, o1, rfl, hg1, hc1⟩ := H1.out (by omega)
      obtain ⟨g2, o2, rfl, hg2, hc2⟩ := H2.out (by omega)
      have e1 := hc1 k hlt
      have e2 := hc2 k hlt
      obtain ⟨x, hx⟩ : ∃ x, pa[k] = x := ⟨_, rfl⟩
      rw [hx] at e1 e2
      clear hx hc1 hc2
      unfold Oct.strV at e1 e2
      go_wp2
      go_quiet (fail)
      go_wp2
      go_roundw
      case rel => exact ⟨k + 1, m + nq, by omega, by go_num, rfl⟩
      case measure => simp [intOf]; omega
    · go_wp2
      go_ret
      exact ⟨rfl, below_drewN' (Below.refl _ _) _⟩
end Go.Proofs.Ytnnjfiknfmjliaa
