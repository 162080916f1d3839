/- The contracts of strings.ContainsAny at the bytes 0, 10 and 13, of headers.isValue and Check. -/
import Derived.Test.YtopakamglhhncaaHdCheck
namespace Go.Proofs.Ytopakamglhhncaa
open Go.RowKit Go.Shelf

theorem info_set : (Try.prog.info? 74).map (fun i => (i.zero, i.size)) = some (some (.agg (Array.replicate 256 (.bool false))), 256) := by kernel_rfl
theorem idxAny_any (s : ByteArray) (w : World) (hs : s.size ≤ 100000) : Calls Try.prog 55 #[.string s, .string ⟨#[0, 10, 13]⟩] w fun e w' => e = .returned (.int .i64 (Lib.indexAny s.data.toList brkL)) ∧ Below w.heap.size w w' := by
  by_cases h8 : s.size ≤ 8
  · exact idxAny_short s w h8
  · refine (Try.strings_IndexAny_long (zero_of_info info_set).1 s ⟨#[0, 10, 13]⟩ w (by decide) (by omega) (by omega) (by decide) (fun j b hb => ?_)).mono ?_
    · have hb' : ([0, 10, 13] : List UInt8)[j]? = some b := hb
      have hm := List.mem_of_getElem? hb'
      simp only [List.mem_cons, List.not_mem_nil, or_false] at hm
      rcases hm with rfl | rfl | rfl <;> decide
    · rintro e w' ⟨rfl, rfl⟩
      exact ⟨rfl, ((Below.refl _ w).alloc (Nat.le_refl _) _).alloc (by simp) _⟩
set_option maxHeartbeats 1000000 in
theorem containsAny_any (s : ByteArray) (w : World) (hs : s.size ≤ 100000) : Calls Try.prog 48 #[.string s, .string ⟨#[0, 10, 13]⟩] w fun e w' => e = .returned (.bool (s.data.toList.any Hd.badB)) ∧ Below w.heap.size w w' := by
  have hcall := idxAny_any s w hs
  have HA := Lib.hid (any_bad s.data.toList)
  obtain ⟨q, hq⟩ : ∃ q, Lib.indexAny s.data.toList brkL = q := ⟨_, rfl⟩
  rw [hq] at hcall HA
  clear hq
  go_enter Try.func48, Try.ntmps48
  go_wp2_with fail
  refine hcall.mono ?_
  rintro e w' ⟨rfl, hb⟩
  clear hcall
  go_wp2
  go_ret
  exact ⟨Oct.ret_bool HA.out, hb⟩
def valueB (v : List UInt8) : Bool := decide (v.length ≤ 4000) && v.all fun c => !Hd.badB c
set_option maxHeartbeats 1000000 in
theorem isValue_any (v : List UInt8) (w : World) (hs : v.length ≤ 100000) : Calls Try.prog 33 #[.string (bA v)] w fun e w' => e = .returned (.bool (valueB v)) ∧ Below w.heap.size w w' := by
  by_cases h4 : v.length ≤ 4000
  · have hcall := containsAny_any (bA v) w (by rw [bA_size]; omega)
    have HV : Hid (valueB v = !(v.any Hd.badB)) := Lib.hid (by
      unfold valueB
      rw [decide_eq_true h4, Bool.true_and, List.any_eq_not_all_not, Bool.not_not])
    obtain ⟨q, hq⟩ : ∃ q, v.any Hd.badB = q := ⟨_, rfl⟩
    rw [hq] at HV
    rw [show (bA v).data.toList.any Hd.badB = q from hq] at hcall
    have h4z : decide ((v.length : Int) ≤ 4000) = true := decide_eq_true (by omega)
    clear hq
    go_enter Try.func33, Try.ntmps33
    go_wp2_with fail
    refine hcall.mono ?_
    rintro e w' ⟨rfl, hb⟩
    clear hcall
    go_wp2
    go_ret
    exact ⟨Oct.ret_bool HV.out.symm, hb⟩
  · have HV : Hid (valueB v = false) := Lib.hid (by unfold valueB; rw [decide_eq_false h4, Bool.false_and])
    have h4z : decide ((v.length : Int) ≤ 4000) = false := decide_eq_false (by omega)
    go_enter Try.func33, Try.ntmps33
    go_wp2_with fail
    go_ret
    exact ⟨Oct.ret_bool HV.out.symm, Below.refl _ _⟩
def errV (b : Bool) : Value := .int .i64 (if b then 0 else 70)
/-- The first headers may be. -/
def okTo (l : List Hd.Hdr) (k : Nat) : Prop := (l.take k).all Hd.okH = true
theorem okTo.succ {l : List Hd.Hdr} {k : Nat} (h : okTo l k) (hk : k < l.length) (hx : Hd.okH l[k] = true) : okTo l (k + 1) := by
  unfold okTo at h ⊢
  rw [List.take_succ_eq_append_getElem hk, List.all_append, h]
  simpa using hx
theorem check_no {l : List Hd.Hdr} {k : Nat} (hk : k < l.length) (hx : Hd.okH l[k] = false) : Hd.checkB l = false := by
  unfold Hd.checkB
  rw [Bool.and_eq_false_iff]; right
  rw [List.all_eq_false]
  exact ⟨l[k], List.getElem_mem hk, by rw [hx]; simp⟩
theorem check_yes {l : List Hd.Hdr} (h1 : l.length ≤ 100) (h : okTo l l.length) : Hd.checkB l = true := by
  unfold okTo at h
  rw [List.take_of_length_le (Nat.le_refl _)] at h
  unfold Hd.checkB
  rw [h, decide_eq_true h1]; rfl
theorem token_val (n : List UInt8) (hn : n.length ≤ 10000) (w : World) : Calls Try.prog 25 #[.string (bA n)] w fun e w' => e = .returned (.bool (Oct.tokenB n)) ∧ w' = w :=
  (token_any (bA n) w (by rw [bA_size]; unfold maxLen; omega)).mono fun _ _ h => ⟨h.1, h.2.symm⟩
set_option maxHeartbeats 2000000 in
theorem check_any (A : Option Addr) (c n : Nat) (l : List Hd.Hdr) (w : World) (hn : l.length = n) (hl : SmallH l) (hA : SeenH w A l) :
    Calls Try.prog 18 #[.slice A n c] w fun e w' => e = .returned (errV (Hd.checkB l)) ∧ Below w.heap.size w w' := by
  subst hn
  by_cases h1 : l.length ≤ 100
  · have h1z : ¬ ((100 : Int) < (l.length : Int)) := by omega
    have HA := Lib.hid hA; have HL := Lib.hid hl
    clear hA hl
    go_enter Try.func18, Try.ntmps18
    go_wp2
    go_loopw [10] (fun i wr => ∃ k : Nat, k ≤ l.length ∧ i = .int .i64 k ∧ Hid (okTo l k) ∧ Hid (Below w.heap.size w wr)) (fun i _ => l.length - (intOf i).toNat)
    case atStart => exact ⟨0, by omega, rfl, Lib.hid rfl, Lib.hid (Below.refl _ _)⟩
    case round =>
      obtain ⟨k, hk, rfl, hok, hbel⟩ := hrel
      by_cases hlt : k < l.length
      · obtain ⟨g, o, rfl, hg, hc⟩ := HA.out (by omega)
        have hce := (hc k hlt).below hg hbel.out
        have c0 := hce.1; have c1 := hce.2
        have hsm := HL.out.each l[k] (List.getElem_mem hlt)
        obtain ⟨x, hx⟩ : ∃ x, l[k] = x := ⟨_, rfl⟩
        have e0 := HBox.new wr l[k]
        rw [hx] at c0 c1 hsm e0
        have HX := Lib.hid hx; have HE0 := Lib.hid e0; have HSM := Lib.hid hsm
        have hsz0 : (wr.alloc (.cells #[.string (bA x.name), .string (bA x.value)] 34)).heap.size = wr.heap.size + 1 := World.size_alloc _ _
        have HB0 : Hid (Below w.heap.size w (wr.alloc (.cells #[.string (bA x.name), .string (bA x.value)] 34))) := Lib.hid (hbel.out.alloc hbel.out.size _)
        have hokx : Hid (Hd.okH x = (Oct.tokenB x.name && valueB x.value)) := Lib.hid rfl
        have d1 := e0.c1
        clear hc hce hx e0 hsm
        have htok := fun W => token_val x.name HSM.out.1 W
        have hval := fun W => isValue_any x.value W (by have := HSM.out.2; omega)
        cases ht : Oct.tokenB x.name with
        | false =>
          rw [ht] at htok hokx
          clear ht
          go_wp2_with fail
          refine (htok _).mono ?_
          rintro e w1 ⟨rfl, rfl⟩
          clear htok hval
          go_wp2_with fail
          go_ret
          exact ⟨by rw [check_no hlt (by rw [HX.out, hokx.out]; rfl)]; rfl, HB0.out⟩
        | true =>
          rw [ht] at htok hokx
          clear ht
          obtain ⟨q, hq⟩ : ∃ q, valueB x.value = q := ⟨_, rfl⟩
          rw [hq] at hval hokx
          clear hq
          go_wp2_with fail
          refine (htok _).mono ?_
          rintro e w1 ⟨rfl, rfl⟩
          clear htok
          go_wp2_with fail
          refine (hval _).mono ?_
          rintro e w2 ⟨rfl, hb2⟩
          clear hval
          cases q with
          | true =>
            go_wp2_with fail
            exact ⟨⟨k + 1, by omega, by go_num, Lib.hid (hok.out.succ hlt (by rw [HX.out, hokx.out]; rfl)), Lib.hid (HB0.out.trans (hb2.mono HB0.out.size))⟩, by simp [intOf]; omega⟩
          | false =>
            go_wp2_with fail
            go_ret
            exact ⟨by rw [check_no hlt (by rw [HX.out, hokx.out]; rfl)]; rfl, HB0.out.trans (hb2.mono HB0.out.size)⟩
      · obtain rfl : k = l.length := by omega
        go_wp2_with fail
        go_ret
        exact ⟨by rw [check_yes h1 hok.out]; rfl, hbel.out⟩
  · have h1z : (100 : Int) < (l.length : Int) := by omega
    have HN : Hid (Hd.checkB l = false) := Lib.hid (by unfold Hd.checkB; rw [decide_eq_false h1, Bool.false_and])
    clear hA hl
    go_enter Try.func18, Try.ntmps18
    go_wp2
    go_ret
    exact ⟨by rw [HN.out]; rfl, Below.refl _ _⟩
end Go.Proofs.Ytopakamglhhncaa
