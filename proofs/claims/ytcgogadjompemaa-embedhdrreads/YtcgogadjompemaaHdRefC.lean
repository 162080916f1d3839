/- The contract of the document's Combined. -/
import Derived.Test.YtcgogadjompemaaHdRef1
import Derived.Test.YtcgogadjompemaaHdPall
namespace Go.Proofs.Ytcgogadjompemaa
open Go.RowKit

theorem jn_take {sep : List UInt8} {vs : List (List UInt8)} {k : Nat} (hk : k < vs.length) : Hd.jn sep (vs.take (k + 1)) = (if k = 0 then [] else Hd.jn sep (vs.take k) ++ sep) ++ vs[k] := by
  cases vs with
  | nil => simp at hk
  | cons a l =>
    cases k with
    | zero => simp [Hd.jn]
    | succ j =>
      have hj : j < l.length := by simpa using hk
      rw [List.take_succ_cons, List.take_succ_cons, if_neg (by omega), Hd.jn, Hd.jn, List.take_succ_eq_append_getElem hj, List.flatMap_append]
      simp
theorem jn_take_le {sep : List UInt8} {vs : List (List UInt8)} {m : Nat} (hm : ∀ v ∈ vs, v.length ≤ m) (k : Nat) : (Hd.jn sep (vs.take k)).length ≤ k * (m + sep.length) := by
  have h := jn_le sep m (vs.take k) (fun v hv => hm v (List.mem_of_mem_take hv))
  rw [List.length_take] at h
  exact Nat.le_trans h (Nat.mul_le_mul_right _ (Nat.min_le_left _ _))
set_option maxHeartbeats 2000000 in
theorem rcombined_any (A : Option Addr) (c n : Nat) (l : List Hd.Hdr) (nm : List UInt8) (w : World) (hn : l.length = n) (hl : SmallH l) (hnm : nm.length ≤ 10000) (hA : SeenH w A l) :
    Calls Try.prog 22 #[.slice A n c, .string (bA nm)] w fun e w' => e = .returned (.tuple #[.string (bA (Hd.comb l nm)), .bool (Hd.hasB l nm)]) ∧ Below w.heap.size w w' := by
  have hcall := rvalues_any A c n l nm w hn hl hnm hA
  have hve : ∀ v ∈ Hd.vals l nm, v.length ≤ 5000 := Hd.vals_each (fun x hx => (hl.each x hx).2)
  have hvl := Hd.vals_len l nm
  have hll := hl.len
  have HC : Hid (Hd.comb l nm = Hd.jn [44, 32] (Hd.vals l nm)) := Lib.hid rfl
  have HH := Lib.hid (has_len l nm)
  obtain ⟨vs, hvs⟩ : ∃ vs, Hd.vals l nm = vs := ⟨_, rfl⟩
  rw [hvs] at hcall hve hvl HC HH
  have HVE := Lib.hid hve
  clear hA hl hvs hve
  go_enter Try.func22, Try.ntmps22
  go_wp2_with fail
  refine hcall.mono ?_
  rintro e w1 ⟨v, rfl, hb1, hr1⟩
  clear hcall
  have hv : ∃ A2 c2, v = .slice A2 vs.length c2 := by
    rcases owns_view hr1 with ⟨rfl, h0⟩ | ⟨g, cap, rfl, _⟩
    · exact ⟨none, 0, by rw [h0]; rfl⟩
    · exact ⟨_, _, rfl⟩
  obtain ⟨A2, c2, rfl⟩ := hv
  have HR1 := Lib.hid hr1
  have HB1 := Lib.hid hb1
  clear hr1 hb1
  go_wp2
  go_loopw [7, 8] (fun ov i wr => ∃ k : Nat, k ≤ vs.length ∧ i = .int .i64 k ∧ ov = .string (bA (Hd.jn [44, 32] (vs.take k))) ∧ wr = w1) (fun _ i _ => vs.length - (intOf i).toNat)
  case atStart => exact ⟨0, by omega, rfl, rfl, rfl⟩
  case round =>
    obtain ⟨k, hk, rfl, rfl, rfl⟩ := hrel
    by_cases hlt : k < vs.length
    · rcases owns_view HR1.out with ⟨e1, h0⟩ | ⟨g, cap, e1, _, hg, _, hc⟩
      · exfalso; rw [h0] at hlt; simp at hlt
      · cases e1
        obtain ⟨x, hx⟩ : ∃ x, vs[k] = x := ⟨_, rfl⟩
        have hxl : x.length ≤ 5000 := by rw [← hx]; exact HVE.out _ (List.getElem_mem hlt)
        have hce : wr.cell? ⟨g, k, none⟩ = some (.string (bA x)) := by rw [← hx]; exact hc k hlt
        have hj := jn_take (sep := [44, 32]) hlt
        have hle : (Hd.jn [44, 32] (vs.take k)).length ≤ k * 5002 := jn_take_le (sep := [44, 32]) (m := 5000) HVE.out k
        rw [hx] at hj
        obtain ⟨acc, hacc⟩ : ∃ acc, Hd.jn [44, 32] (vs.take k) = acc := ⟨_, rfl⟩
        rw [hacc] at hj hle ⊢
        have HJ := Lib.hid hj
        have hsa : (bA acc).size ≤ 100000000 := by rw [bA_size]; omega
        have hsx : (bA x).size ≤ 100000000 := by rw [bA_size]; omega
        clear hc hx hj hacc
        by_cases hk0 : k = 0
        · subst hk0
          have h0 : ¬ ((0 : Int) < ((0 : Nat) : Int)) := by decide
          obtain rfl : acc = [] := List.length_eq_zero_iff.1 (by omega)
          go_wp2_with fail
          exact ⟨⟨1, by omega, rfl, by rw [show (1 : Nat) = 0 + 1 from rfl, HJ.out, bA_app]; rfl, trivial⟩, by simp [intOf]; omega⟩
        · have h0 : (0 : Int) < (k : Int) := by omega
          go_wp2_with fail
          exact ⟨⟨k + 1, by omega, by go_num, by rw [HJ.out, if_neg hk0, show ({ data := #[44, 32] } : ByteArray) = bA [44, 32] from rfl, bA_app, bA_app], trivial⟩, by simp [intOf]; omega⟩
    · obtain rfl : k = vs.length := by omega
      go_wp2_with fail
      go_ret2
      exact ⟨by rw [HC.out, HH.out, List.take_of_length_le (Nat.le_refl _)]; rfl, HB1.out⟩
end Go.Proofs.Ytcgogadjompemaa
