/- The contracts of sandbox.Popup and sandbox.All. -/
import Derived.Test.YtnnjfiknfmjliaaSbCode1
import Derived.Test.YtnnjfiknfmjliaaSbRef3
namespace Go.Proofs.Ytnnjfiknfmjliaa
open Go.RowKit

theorem sbPopup_any (x : Int) (w : World) : Calls Try.prog 16 #[.int .i64 x] w fun e w' => e = .returned (.int .i64 (Sb.popup x)) ∧ Below w.heap.size w w' := by
  have h1 := pow_zero x 4 (by omega)
  rw [show ((2 ^ 4 : Nat) : Int) = 16 from rfl] at h1
  have h2 := mask_any x
  have hp : Sb.popup x = if Sb.bit x 4 then x % 64 else 0 := rfl
  rw [hp]
  obtain ⟨y, hy⟩ : ∃ y, x % 64 = y := ⟨_, rfl⟩
  obtain ⟨b, hb⟩ : ∃ b, Sb.bit x 4 = b := ⟨_, rfl⟩
  rw [hy] at h2 ⊢
  rw [hb] at h1 ⊢
  clear hp hy hb
  cases b with
  | true =>
    have h1' : (bits .and .i64 x 16 == 0) = false := h1
    clear h1
    go_enter Try.func16, Try.ntmps16
    go_wp2_with fail
    go_ret
    exact ⟨rfl, Below.refl _ _⟩
  | false =>
    have h1' : (bits .and .i64 x 16 == 0) = true := h1
    clear h1
    go_enter Try.func16, Try.ntmps16
    go_wp2_with fail
    go_ret
    exact ⟨rfl, Below.refl _ _⟩

set_option maxHeartbeats 4000000 in
theorem sbAll_any (A : Option Addr) (c : Nat) (l : List Cs.Pol) (w : World) (hl : l.length ≤ 10000) (hle : ∀ p ∈ l, p.box.length ≤ 10000 ∧ ∀ t ∈ p.box, t.length ≤ 10000) (hA : SeenPo w A l) :
    Calls Try.prog 18 #[.slice A l.length c] w fun e w' => e = .returned (.int .i64 (Sb.all l)) ∧ Below w.heap.size w w' := by
  have HLE := Lib.hid hle; have HA := Lib.hid hA
  clear hle hA
  go_enter Try.func18, Try.ntmps18
  go_wp2_with fail
  go_loopw [3, 8] (fun ov iv wr => ∃ k : Nat, k ≤ l.length ∧ ov = .int .i64 (Sb.all (l.take k)) ∧ iv = .int .i64 k ∧ Hid (Below w.heap.size w wr)) (fun _ iv _ => l.length - (intOf iv).toNat)
  case atStart => exact ⟨0, by omega, rfl, rfl, Lib.hid (Below.refl _ _)⟩
  case round =>
    obtain ⟨k, hk, rfl, rfl, hbel⟩ := hrel
    by_cases hlt : k < l.length
    · have hsp := HA.out.below hbel.out
      obtain ⟨g, q, rfl, hg, hc⟩ := hsp (by omega)
      obtain ⟨A1, c1, A2, c2, hcs, _, hsb⟩ := hc k hlt
      have z0 : wr.cell? ⟨g, q + k * 4, none⟩ = some (.bool l[k].hasAnc) := hcs 0 (by decide)
      have z1 : wr.cell? ⟨g, q + k * 4 + 1, none⟩ = some (.slice A1 l[k].anc.length c1) := hcs 1 (by decide)
      have z2 : wr.cell? ⟨g, q + k * 4 + 2, none⟩ = some (.bool l[k].hasBox) := hcs 2 (by decide)
      have z3 : wr.cell? ⟨g, q + k * 4 + 3, none⟩ = some (.slice A2 l[k].box.length c2) := hcs 3 (by decide)
      have hat := all_take hlt
      have hbd := Sb.all_bd (l.take k)
      obtain ⟨h1, h2⟩ := HLE.out l[k] (List.getElem_mem hlt)
      have cf : ∀ W, SeenT W A2 (l[k]'hlt).box → _ := fun W (hS : SeenT W A2 (l[k]'hlt).box) => sbFlags_any A2 c2 (l[k]'hlt).box W h1 h2 hS
      have hfb := Sb.flags_bd l[k].box
      obtain ⟨S, hS⟩ : ∃ S, Sb.all (l.take k) = S := ⟨_, rfl⟩
      rw [hS] at hat hbd ⊢
      obtain ⟨F, hF⟩ : ∃ F, Sb.flags l[k].box = F := ⟨_, rfl⟩
      rw [hF] at hat cf hfb
      have cu := or_any hbd hfb
      obtain ⟨U, hU⟩ : ∃ U, Sb.union S F = U := ⟨_, rfl⟩
      rw [hU] at hat cu
      obtain ⟨bx, hbx⟩ : ∃ b, l[k].hasBox = b := ⟨_, rfl⟩
      rw [hbx] at hat z2
      have CF := Lib.hid cf; have CU := Lib.hid cu; have HAT := Lib.hid hat; have HSB := Lib.hid hsb
      clear hsp hc hcs hat hbd h1 h2 cf hfb cu hS hF hU hbx hsb
      cases bx with
      | false =>
        go_wp2_with fail
        exact ⟨⟨k + 1, by omega, by rw [HAT.out]; rfl, by go_num, Lib.hid (hbel.out.alloc hbel.out.size _)⟩, by simp [intOf]; omega⟩
      | true =>
        go_wp2_with fail
        refine (CF.out _ (HSB.out.below ((Below.refl _ _).alloc (Nat.le_refl _) _))).mono ?_
        rintro e w5 ⟨rfl, hb5⟩
        have HB5 := Lib.hid (Below.onto (hbel.out.alloc hbel.out.size _) hb5)
        have cu := CU.out
        clear hb5 CF
        go_wp2_with fail
        exact ⟨⟨k + 1, by omega, by rw [HAT.out]; rfl, by go_num, HB5⟩, by simp [intOf]; omega⟩
    · obtain rfl : k = l.length := by omega
      rw [List.take_of_length_le (Nat.le_refl _)]
      go_wp2_with fail
      go_ret
      exact ⟨rfl, hbel.out⟩
end Go.Proofs.Ytnnjfiknfmjliaa
