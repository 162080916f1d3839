/- The contracts of the document's Combined and Check. -/
import Derived.Test.YtopakamglhhncaaHdRef2
namespace Go.Proofs.Ytopakamglhhncaa
open Go.RowKit

theorem jn_take {sep : List UInt8} {vs : List (List UInt8)} {k : Nat} (hk : k < vs.length) : Hd.jn sep (vs.take (k + 1)) = (if k = 0 then [] else Hd.jn sep (vs.take k) ++ sep) ++ vs[k] := by
  cases vs with
  | nil => simp at hk
  | cons a l =>
    cases k with
    | zero => simp [Hd.jn]
    | succ j =>
      have hj : j < l.length := by simpa using hk
      rw [List.take_succ_cons, List.take_succ_cons, if_neg (by omega), Hd.jn, Hd.jn, List.take_succ_eq_append_getElem hj, List.flatMap_append]
      simp
theorem jn_take_le {sep : List UInt8} {vs : List (List UInt8)} {m : Nat} (hm : ∀ v ∈ vs, v.length ≤ m) (k : Nat) : (Hd.jn sep (vs.take k)).length ≤ k * (m + sep.length) := by
  have h := jn_le sep m (vs.take k) (fun v hv => hm v (List.mem_of_mem_take hv))
  rw [List.length_take] at h
  exact Nat.le_trans h (Nat.mul_le_mul_right _ (Nat.min_le_left _ _))
set_option maxHeartbeats 2000000 in
theorem rcombined_any (A : Option Addr) (c n : Nat) (l : List Hd.Hdr) (nm : List UInt8) (w : World) (hn : l.length = n) (hl : SmallH l) (hnm : nm.length ≤ 10000) (hA : SeenH w A l) :
    Calls Try.prog 17 #[.slice A n c, .string (bA nm)] w fun e w' => e = .returned (.tuple #[.string (bA (Hd.comb l nm)), .bool (Hd.hasB l nm)]) ∧ Below w.heap.size w w' := by
  have hcall := rvalues_any A c n l nm w hn hl hnm hA
  have hve : ∀ v ∈ Hd.vals l nm, v.length ≤ 5000 := Hd.vals_each (fun x hx => (hl.each x hx).2)
  have hvl := Hd.vals_len l nm
  have hll := hl.len
  have HC : Hid (Hd.comb l nm = Hd.jn [44, 32] (Hd.vals l nm)) := Lib.hid rfl
  have HH := Lib.hid (has_len l nm)
  obtain ⟨vs, hvs⟩ : ∃ vs, Hd.vals l nm = vs := ⟨_, rfl⟩
  rw [hvs] at hcall hve hvl HC HH
  have HVE := Lib.hid hve
  clear hA hl hvs hve
  go_enter Try.func17, Try.ntmps17
  go_wp2_with fail
  refine hcall.mono ?_
  rintro e w1 ⟨v, rfl, hb1, hr1⟩
  clear hcall
  have hv : ∃ A2 c2, v = .slice A2 vs.length c2 := by
    rcases owns_view hr1 with ⟨rfl, h0⟩ | ⟨g, cap, rfl, _⟩
    · exact ⟨none, 0, by rw [h0]; rfl⟩
    · exact ⟨_, _, rfl⟩
  obtain ⟨A2, c2, rfl⟩ := hv
  have HR1 := Lib.hid hr1
  have HB1 := Lib.hid hb1
  clear hr1 hb1
  go_wp2
  go_loopw [7, 8] (fun ov i wr => ∃ k : Nat, k ≤ vs.length ∧ i = .int .i64 k ∧ ov = .string (bA (Hd.jn [44, 32] (vs.take k))) ∧ wr = w1) (fun _ i _ => vs.length - (intOf i).toNat)
  case atStart => exact ⟨0, by omega, rfl, rfl, rfl⟩
  case round =>
    obtain ⟨k, hk, rfl, rfl, rfl⟩ := hrel
    by_cases hlt : k < vs.length
    · rcases owns_view HR1.out with ⟨e1, h0⟩ | ⟨g, cap, e1, _, hg, _, hc⟩
      · exfalso; rw [h0] at hlt; simp at hlt
      · cases e1
        obtain ⟨x, hx⟩ : ∃ x, vs[k] = x := ⟨_, rfl⟩
        have hxl : x.length ≤ 5000 := by rw [← hx]; exact HVE.out _ (List.getElem_mem hlt)
        have hce : wr.cell? ⟨g, k, none⟩ = some (.string (bA x)) := by rw [← hx]; exact hc k hlt
        have hj := jn_take (sep := [44, 32]) hlt
        have hle : (Hd.jn [44, 32] (vs.take k)).length ≤ k * 5002 := jn_take_le (sep := [44, 32]) (m := 5000) HVE.out k
        rw [hx] at hj
        obtain ⟨acc, hacc⟩ : ∃ acc, Hd.jn [44, 32] (vs.take k) = acc := ⟨_, rfl⟩
        rw [hacc] at hj hle ⊢
        have HJ := Lib.hid hj
        have hsa : (bA acc).size ≤ 100000000 := by rw [bA_size]; omega
        have hsx : (bA x).size ≤ 100000000 := by rw [bA_size]; omega
        clear hc hx hj hacc
        by_cases hk0 : k = 0
        · subst hk0
          have h0 : ¬ ((0 : Int) < ((0 : Nat) : Int)) := by decide
          obtain rfl : acc = [] := List.length_eq_zero_iff.1 (by omega)
          go_wp2_with fail
          exact ⟨⟨1, by omega, rfl, by rw [show (1 : Nat) = 0 + 1 from rfl, HJ.out, bA_app]; rfl, trivial⟩, by simp [intOf]; omega⟩
        · have h0 : (0 : Int) < (k : Int) := by omega
          go_wp2_with fail
          exact ⟨⟨k + 1, by omega, by go_num, by rw [HJ.out, if_neg hk0, show ({ data := #[44, 32] } : ByteArray) = bA [44, 32] from rfl, bA_app, bA_app], trivial⟩, by simp [intOf]; omega⟩
    · obtain rfl : k = vs.length := by omega
      go_wp2_with fail
      go_ret2
      exact ⟨by rw [HC.out, HH.out, List.take_of_length_le (Nat.le_refl _)]; rfl, HB1.out⟩

/-- The first bytes are none that breaks. -/
def goodTo (v : List UInt8) (k : Nat) : Prop := (v.take k).all (fun c => !Hd.badB c) = true
theorem goodTo.succ {v : List UInt8} {k : Nat} (h : goodTo v k) (hk : k < v.length) (hx : Hd.badB v[k] = false) : goodTo v (k + 1) := by
  unfold goodTo at h ⊢
  rw [List.take_succ_eq_append_getElem hk, List.all_append, h]
  simp [hx]
theorem value_no {v : List UInt8} {k : Nat} (hk : k < v.length) (hx : Hd.badB v[k] = true) : valueB v = false := by
  unfold valueB
  rw [Bool.and_eq_false_iff]; right
  rw [List.all_eq_false]
  exact ⟨v[k], List.getElem_mem hk, by rw [hx]; simp⟩
theorem value_yes {v : List UInt8} (h1 : v.length ≤ 4000) (h : goodTo v v.length) : valueB v = true := by
  unfold goodTo at h
  rw [List.take_of_length_le (Nat.le_refl _)] at h
  unfold valueB
  rw [h, decide_eq_true h1]; rfl
theorem rtoken_val (n : List UInt8) (hn : n.length ≤ 10000) (w : World) : Calls Try.prog 34 #[.string (bA n)] w fun e w' => e = .returned (.bool (Oct.tokenB n)) ∧ w' = w :=
  (rtoken_any (bA n) w (by rw [bA_size]; unfold maxLen; omega)).mono fun _ _ h => ⟨h.1, h.2.symm⟩
theorem bad_int (c : UInt8) : Hd.badB c = (((c.toNat : Int) == 0) || (((c.toNat : Int) == 10) || ((c.toNat : Int) == 13))) := by
  have h : ∀ m : UInt8, (c == m) = ((c.toNat : Int) == (m.toNat : Int)) := fun m => by
    rw [Bool.eq_iff_iff, beq_iff_eq, beq_iff_eq]
    exact ⟨fun e => by rw [e], fun e => UInt8.toNat_inj.1 (by omega)⟩
  unfold Hd.badB
  rw [h 0, h 10, h 13, Bool.or_assoc]; rfl
set_option maxHeartbeats 4000000 in
theorem rcheck_any (A : Option Addr) (c n : Nat) (l : List Hd.Hdr) (w : World) (hn : l.length = n) (hl : SmallH l) (hA : SeenH w A l) :
    Calls Try.prog 19 #[.slice A n c] w fun e w' => e = .returned (errV (Hd.checkB l)) ∧ Below w.heap.size w w' := by
  subst hn
  by_cases h1 : l.length ≤ 100
  · have h1z : ¬ ((100 : Int) < (l.length : Int)) := by omega
    have HA := Lib.hid hA; have HL := Lib.hid hl
    clear hA hl
    go_enter Try.func19, Try.ntmps19
    go_wp2
    go_loopw [3] (fun i wr => ∃ k : Nat, k ≤ l.length ∧ i = .int .i64 k ∧ Hid (okTo l k) ∧ wr = w) (fun i _ => l.length - (intOf i).toNat)
    case atStart => exact ⟨0, by omega, rfl, Lib.hid rfl, rfl⟩
    case round =>
      obtain ⟨k, hk, rfl, hok, rfl⟩ := hrel
      by_cases hlt : k < l.length
      · obtain ⟨g, o, rfl, hg, hc⟩ := HA.out (by omega)
        have hce := hc k hlt
        have c0 := hce.1; have c1 := hce.2
        have hsm := HL.out.each l[k] (List.getElem_mem hlt)
        obtain ⟨x, hx⟩ : ∃ x, l[k] = x := ⟨_, rfl⟩
        rw [hx] at c0 c1 hsm
        have HX := Lib.hid hx; have HSM := Lib.hid hsm
        have hokx : Hid (Hd.okH x = (Oct.tokenB x.name && valueB x.value)) := Lib.hid rfl
        clear hc hce hx hsm
        have htok := fun W => rtoken_val x.name HSM.out.1 W
        have HNO : Hid (Hd.okH x = false → errV (Hd.checkB l) = .int .i64 70) := Lib.hid fun h => by rw [check_no hlt (by rw [HX.out, h])]; rfl
        cases ht : Oct.tokenB x.name with
        | false =>
          rw [ht] at htok hokx
          clear ht
          go_wp2_with fail
          refine (htok _).mono ?_
          rintro e w1 ⟨rfl, hw1⟩
          rw [hw1]
          clear htok hw1
          go_wp2_with fail
          go_ret
          exact ⟨by rw [HNO.out (by rw [hokx.out]; rfl)]; rfl, Below.refl _ _⟩
        | true =>
          rw [ht] at htok hokx
          clear ht
          by_cases h4 : x.value.length ≤ 4000
          · have h4z : ¬ ((4000 : Int) < (x.value.length : Int)) := by omega
            have H4 := Lib.hid h4
            clear h4
            go_wp2_with fail
            refine (htok _).mono ?_
            rintro e w1 ⟨rfl, hw1⟩
            rw [hw1]
            clear htok hw1
            go_wp2_with fail
            go_loopw [5] (fun j wx => ∃ m : Nat, m ≤ x.value.length ∧ j = .int .i64 m ∧ Hid (goodTo x.value m) ∧ wx = wr) (fun j _ => x.value.length - (intOf j).toNat)
            case atStart => exact ⟨0, by omega, rfl, Lib.hid rfl, rfl⟩
            case round =>
              obtain ⟨m, hm, rfl, hgd, rfl⟩ := hrel
              by_cases hmlt : m < x.value.length
              · have hmlt2 : m < (bA x.value).size := hmlt
                obtain ⟨b, hb⟩ : ∃ b, (bA x.value)[m] = b := ⟨_, rfl⟩
                have HBX : Hid (x.value[m] = b) := Lib.hid hb
                have HBI := Lib.hid (bad_int b)
                have BAD : Hid (Hd.badB b = true → errV (Hd.checkB l) = .int .i64 70) := Lib.hid fun h => HNO.out (by rw [hokx.out, value_no hmlt (by rw [HBX.out]; exact h)]; rfl)
                go_wp2_with fail
                · have h0 : b.toNat = 0 := by assumption
                  go_ret
                  exact ⟨by rw [BAD.out (by rw [HBI.out, h0]; rfl)]; rfl, Below.refl _ _⟩
                · have h0 : (b.toNat : Int) = 10 := by assumption
                  go_ret
                  exact ⟨by rw [BAD.out (by rw [HBI.out, h0]; rfl)]; rfl, Below.refl _ _⟩
                · have h0 : (((b.toNat : Int) == 0) = true ∨ ((b.toNat : Int) == 10) = true) ∨ ((b.toNat : Int) == 13) = true := by assumption
                  go_ret
                  exact ⟨by rw [BAD.out (by rw [HBI.out]; rcases h0 with (h | h) | h <;> rw [h] <;> simp)]; rfl, Below.refl _ _⟩
                · have h0 : (((b.toNat : Int) == 0) = false ∧ ((b.toNat : Int) == 10) = false) ∧ ((b.toNat : Int) == 13) = false := by assumption
                  exact ⟨⟨m + 1, by omega, by go_num, Lib.hid (hgd.out.succ hmlt (by rw [HBX.out, HBI.out, h0.1.1, h0.1.2, h0.2]; rfl)), trivial⟩, by simp [intOf]; omega⟩
              · obtain rfl : m = x.value.length := by omega
                go_wp2_with fail
                exact ⟨⟨k + 1, by omega, by go_num, Lib.hid (hok.out.succ hlt (by rw [HX.out, hokx.out, value_yes H4.out hgd.out]; rfl)), trivial⟩, by simp [intOf]; omega⟩
          · have h4z : (4000 : Int) < (x.value.length : Int) := by omega
            have HV : Hid (valueB x.value = false) := Lib.hid (by unfold valueB; rw [decide_eq_false h4, Bool.false_and])
            clear h4
            go_wp2_with fail
            refine (htok _).mono ?_
            rintro e w1 ⟨rfl, hw1⟩
            rw [hw1]
            clear htok hw1
            go_wp2_with fail
            go_ret
            exact ⟨by rw [HNO.out (by rw [hokx.out, HV.out]; rfl)]; rfl, Below.refl _ _⟩
      · obtain rfl : k = l.length := by omega
        go_wp2_with fail
        go_ret
        exact ⟨by rw [check_yes h1 hok.out]; rfl, Below.refl _ _⟩
  · have h1z : (100 : Int) < (l.length : Int) := by omega
    have HN : Hid (Hd.checkB l = false) := Lib.hid (by unfold Hd.checkB; rw [decide_eq_false h1, Bool.false_and])
    clear hA hl
    go_enter Try.func19, Try.ntmps19
    go_wp2
    go_ret
    exact ⟨by rw [HN.out]; rfl, Below.refl _ _⟩
end Go.Proofs.Ytopakamglhhncaa
