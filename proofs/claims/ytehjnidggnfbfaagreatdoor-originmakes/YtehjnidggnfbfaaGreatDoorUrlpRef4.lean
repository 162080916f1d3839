/- The contract of the document's Parse. -/
import Derived.Test.YtehjnidggnfbfaaGreatDoorUrlpRef3
namespace Go.Proofs.YtehjnidggnfbfaaGreatDoor
open Go.RowKit

def RParsesAt (l : List UInt8) : Prop := ∀ W : World, Calls Tryz.prog 31 #[.string (bA l)] W fun e w' => e = .returned (resV (Urp.parse l)) ∧ Below W.heap.size W w'
theorem cut_long {t : List UInt8} (h : 2000 < t.length) : Urp.cutS t = .error 30 := by unfold Urp.cutS; rw [decide_eq_true h]; rfl
theorem cut_nocolon {t : List UInt8} (h : Urp.hasB 58 t = false) : Urp.cutS t = .error 30 := by unfold Urp.cutS; rw [h]; simp
theorem cut_noscheme {t : List UInt8} (h : Urp.schemeB (Oct.lower (Urp.bef 58 t)) = false) : Urp.cutS t = .error 30 := by unfold Urp.cutS; rw [h]; simp
theorem cut_unknown {t : List UInt8} (h0 : ¬ 2000 < t.length) (h1 : Urp.hasB 58 t = true) (h2 : Urp.schemeB (Oct.lower (Urp.bef 58 t)) = true) (h3 : Urp.knownB (Oct.lower (Urp.bef 58 t)) = false) : Urp.cutS t = .error 31 := by
  unfold Urp.cutS; rw [h1, h2, h3, decide_eq_false h0]; rfl
theorem cut_known {t : List UInt8} (h0 : ¬ 2000 < t.length) (h1 : Urp.hasB 58 t = true) (h2 : Urp.schemeB (Oct.lower (Urp.bef 58 t)) = true) (h3 : Urp.knownB (Oct.lower (Urp.bef 58 t)) = true) : Urp.cutS t = .ok (Oct.lower (Urp.bef 58 t), Urp.aft 58 t) := by
  unfold Urp.cutS; rw [h1, h2, h3, decide_eq_false h0]; rfl
theorem known_cases {n : List UInt8} (h : Urp.knownB n = true) : n = Urp.sHttp ∨ n = Urp.sHttps ∨ n = Urp.sAbout ∨ n = Urp.sData ∨ n = Urp.sBlob := by
  unfold Urp.knownB Urp.netB at h
  simp only [Bool.or_eq_true, beq_iff_eq] at h
  rcases h with (h | h) | h | h | h
  · exact .inl h
  · exact .inr (.inl h)
  · exact .inr (.inr (.inl h))
  · exact .inr (.inr (.inr (.inl h)))
  · exact .inr (.inr (.inr (.inr h)))
theorem known_not {n : List UInt8} (h : Urp.knownB n = false) : (n == [104, 116, 116, 112]) = false ∧ (n == [104, 116, 116, 112, 115]) = false ∧ (n == [97, 98, 111, 117, 116]) = false ∧ (n == [100, 97, 116, 97]) = false ∧ (n == [98, 108, 111, 98]) = false := by
  unfold Urp.knownB Urp.netB at h
  simp only [Bool.or_eq_false_iff] at h
  exact ⟨h.1.1, h.1.2, h.2.1, h.2.2.1, h.2.2.2⟩

set_option maxHeartbeats 16000000 in
set_option maxRecDepth 100000 in
theorem rparse_step (l : List UInt8) (w : World) (hl : l.length ≤ 4000) (ih : ∀ l' : List UInt8, l'.length < l.length → RParsesAt l') : Calls Tryz.prog 31 #[.string (bA l)] w fun e w' => e = .returned (resV (Urp.parse l)) ∧ Below w.heap.size w w' := by
  have HB : Hid (Below w.heap.size w (w.alloc (.cells (uCells Urp.zeroU) 26))) := Lib.hid ((Below.refl _ w).alloc (Nat.le_refl _) _)
  have HQ := Lib.hid (UBox.new w Urp.zeroU)
  have htl := Urp.trimU_len l
  have HTR := Lib.hid (fun W => rtrimU_any (bA l) W (by rw [bA_size]; unfold maxLen; omega))
  have e0 : (bA l).data.toList = l := rfl
  rw [e0] at HTR
  clear e0
  obtain ⟨res, hres⟩ : ∃ r, Urp.parse l = r := ⟨_, rfl⟩
  rw [hres]
  obtain ⟨t, ht⟩ : ∃ t, Urp.trimU l = t := ⟨_, rfl⟩
  rw [ht] at HTR htl
  have HTT := Lib.hid ht
  by_cases hlong : 2000 < t.length
  · have hlong' : (2000 : Int) < (t.length : Int) := by omega
    have HE : Hid (res = .error 30) := Lib.hid (by rw [← hres]; exact parse_err (by rw [ht]; exact cut_long hlong))
    clear hres ht ih hlong
    go_enter Tryz.func31, Tryz.ntmps31
    go_wp2_with fail
    refine (HTR.out _).mono ?_
    rintro e w1 ⟨rfl, rfl⟩
    go_wp2_with fail
    refine (rfails_any _ _).mono ?_
    rintro e wf ⟨rfl, hbf⟩
    have qf := HQ.out.keep hbf
    have bf := below_on HB.out hbf
    clear hbf
    have d0 := qf.c0; have d1 := qf.c1; have d2 := qf.c2; have d3 := qf.c3; have d4 := qf.c4; have d5 := qf.c5; have d6 := qf.c6; have d7 := qf.c7; have d8 := qf.c8
    have f := qf.fr
    go_wp2_with fail
    exact bodyPost_ret (results_url rfl _ _ rfl (qf.set Urp.zeroU)) rfl ⟨by rw [HE.out]; rfl, below_set9 bf (Nat.le_refl _) Urp.zeroU⟩
  have hl2 : (t.length : Int) ≤ 2000 := by omega
  have hC1 := fun W => rcut_at t ⟨#[58]⟩ W (by omega) (by decide)
  have e5 : rbef (⟨#[58]⟩ : ByteArray).data.toList t = Urp.bef 58 t := rbef1 58 t
  have e6 : raft (⟨#[58]⟩ : ByteArray).data.toList t = if Urp.hasB 58 t then 58 :: Urp.aft 58 t else [] := raft1 58 t
  rw [e5, e6] at hC1
  clear e5 e6
  have hbl := Urp.bef_len 58 t
  have hlo := fun W => rlower_any (bA (Urp.bef 58 t)) W (by rw [bA_size]; unfold maxLen; omega)
  have e7 : (bA (Urp.bef 58 t)).data.toList = Urp.bef 58 t := rfl
  rw [e7] at hlo
  clear e7
  obtain ⟨n, hn⟩ : ∃ n, Oct.lower (Urp.bef 58 t) = n := ⟨_, rfl⟩
  have hnl : n.length ≤ 4000 := by rw [← hn, Oct.lower_length]; omega
  have hsc : ∀ W : World, Calls Tryz.prog 50 #[.string (bA n)] W fun e w' => e = .returned (.bool (Urp.schemeB n)) ∧ W = w' := fun W => by
    have h := rscheme_any (bA n) W (by rw [bA_size]; unfold maxLen; omega)
    have e : rschB (bA n).data.toList = Urp.schemeB n := by rw [← hn]; exact rsch_low _
    rw [e] at h; exact h
  rw [hn] at hlo
  have HLO := Lib.hid hlo
  clear hlo hbl
  cases hh : Urp.hasB 58 t with
  | false =>
    have HE : Hid (res = .error 30) := Lib.hid (by rw [← hres]; exact parse_err (by rw [ht]; exact cut_nocolon hh))
    rw [hh, if_neg (by simp)] at hC1
    have HC1 := Lib.hid hC1
    have HSC := Lib.hid hsc
    clear hres ht ih hh hC1 hsc hn
    go_enter Tryz.func31, Tryz.ntmps31
    go_wp2_with fail
    refine (HTR.out _).mono ?_
    rintro e w1 ⟨rfl, rfl⟩
    go_wp2_with fail
    refine (HC1.out _).mono ?_
    rintro e w2 ⟨rfl, hb2⟩
    go_wp2_with fail
    refine (HLO.out _).mono ?_
    rintro e w3 ⟨rfl, hb3⟩
    have q3 := (HQ.out.keep hb2).keep hb3
    have bw3 := below_on (below_on HB.out hb2) hb3
    have u3 := UBox.new w3 (begun n)
    have q4 := q3.alloc (.cells (uCells (begun n)) 26)
    have bw4 := bw3.alloc (o := .cells (uCells (begun n)) 26) bw3.size
    have ln : w.heap.size < w3.heap.size := q3.lt
    have nn : w.heap.size ≠ w3.heap.size := by omega
    clear hb2 hb3 bw3
    go_wp2_with fail
    refine (HSC.out _).mono ?_
    rintro e w5 ⟨rfl, rfl⟩
    go_wp2_with fail
    refine (rfails_any _ _).mono ?_
    rintro e wf ⟨rfl, hbf⟩
    have qf := q4.keep hbf
    have bf := below_on bw4 hbf
    clear hbf
    have d0 := qf.c0; have d1 := qf.c1; have d2 := qf.c2; have d3 := qf.c3; have d4 := qf.c4; have d5 := qf.c5; have d6 := qf.c6; have d7 := qf.c7; have d8 := qf.c8
    have f := qf.fr
    go_wp2_with fail
    exact bodyPost_ret (results_url rfl _ _ rfl (qf.set Urp.zeroU)) rfl ⟨by rw [HE.out]; rfl, below_set9 bf (Nat.le_refl _) Urp.zeroU⟩
  | true =>
    rw [hh, if_pos rfl] at hC1
    have HC1 := Lib.hid hC1
    clear hC1
    have hal := Urp.aft_lt hh
    cases hs : Urp.schemeB n with
    | false =>
      have HE : Hid (res = .error 30) := Lib.hid (by rw [← hres]; exact parse_err (by rw [ht]; exact cut_noscheme (by rw [hn]; exact hs)))
      rw [hs] at hsc
      have HSC := Lib.hid hsc
      clear hres ht ih hh hs hsc hn
      go_enter Tryz.func31, Tryz.ntmps31
      go_wp2_with fail
      refine (HTR.out _).mono ?_
      rintro e w1 ⟨rfl, rfl⟩
      go_wp2_with fail
      refine (HC1.out _).mono ?_
      rintro e w2 ⟨rfl, hb2⟩
      go_wp2_with fail
      refine (HLO.out _).mono ?_
      rintro e w3 ⟨rfl, hb3⟩
      have q3 := (HQ.out.keep hb2).keep hb3
      have bw3 := below_on (below_on HB.out hb2) hb3
      have u3 := UBox.new w3 (begun n)
      have q4 := q3.alloc (.cells (uCells (begun n)) 26)
      have bw4 := bw3.alloc (o := .cells (uCells (begun n)) 26) bw3.size
      have ln : w.heap.size < w3.heap.size := q3.lt
      have nn : w.heap.size ≠ w3.heap.size := by omega
      clear hb2 hb3 bw3
      go_wp2_with fail
      refine (HSC.out _).mono ?_
      rintro e w5 ⟨rfl, rfl⟩
      go_wp2_with fail
      refine (rfails_any _ _).mono ?_
      rintro e wf ⟨rfl, hbf⟩
      have qf := q4.keep hbf
      have bf := below_on bw4 hbf
      clear hbf
      have d0 := qf.c0; have d1 := qf.c1; have d2 := qf.c2; have d3 := qf.c3; have d4 := qf.c4; have d5 := qf.c5; have d6 := qf.c6; have d7 := qf.c7; have d8 := qf.c8
      have f := qf.fr
      go_wp2_with fail
      exact bodyPost_ret (results_url rfl _ _ rfl (qf.set Urp.zeroU)) rfl ⟨by rw [HE.out]; rfl, below_set9 bf (Nat.le_refl _) Urp.zeroU⟩
    | true =>
      rw [hs] at hsc
      have HSC := Lib.hid hsc
      clear hsc
      cases hk : Urp.knownB n with
      | false =>
        have HE : Hid (res = .error 31) := Lib.hid (by rw [← hres]; exact parse_err (by rw [ht]; exact cut_unknown hlong hh (by rw [hn]; exact hs) (by rw [hn]; exact hk)))
        obtain ⟨k1, k2, k3, k4, k5⟩ := known_not hk
        clear hres ht ih hh hs hn hk
        go_enter Tryz.func31, Tryz.ntmps31
        go_wp2_with fail
        refine (HTR.out _).mono ?_
        rintro e w1 ⟨rfl, rfl⟩
        go_wp2_with fail
        refine (HC1.out _).mono ?_
        rintro e w2 ⟨rfl, hb2⟩
        go_wp2_with fail
        refine (HLO.out _).mono ?_
        rintro e w3 ⟨rfl, hb3⟩
        have q3 := (HQ.out.keep hb2).keep hb3
        have bw3 := below_on (below_on HB.out hb2) hb3
        have u3 := UBox.new w3 (begun n)
        have q4 := q3.alloc (.cells (uCells (begun n)) 26)
        have bw4 := bw3.alloc (o := .cells (uCells (begun n)) 26) bw3.size
        have ln : w.heap.size < w3.heap.size := q3.lt
        have nn : w.heap.size ≠ w3.heap.size := by omega
        clear hb2 hb3 bw3
        go_wp2_with fail
        refine (HSC.out _).mono ?_
        rintro e w5 ⟨rfl, rfl⟩
        go_wp2_with fail
        refine (rfails_any _ _).mono ?_
        rintro e wf ⟨rfl, hbf⟩
        have qf := q4.keep hbf
        have bf := below_on bw4 hbf
        clear hbf
        have d0 := qf.c0; have d1 := qf.c1; have d2 := qf.c2; have d3 := qf.c3; have d4 := qf.c4; have d5 := qf.c5; have d6 := qf.c6; have d7 := qf.c7; have d8 := qf.c8
        have f := qf.fr
        go_wp2_with fail
        exact bodyPost_ret (results_url rfl _ _ rfl (qf.set Urp.zeroU)) rfl ⟨by rw [HE.out]; rfl, below_set9 bf (Nat.le_refl _) Urp.zeroU⟩
      | true =>
        have HCU : Hid (Urp.cutS (Urp.trimU l) = .ok (n, Urp.aft 58 t)) := Lib.hid (by rw [ht, ← hn]; exact cut_known hlong hh (by rw [hn]; exact hs) (by rw [hn]; exact hk))
        obtain ⟨a, ha⟩ : ∃ a, Urp.aft 58 t = a := ⟨_, rfl⟩
        rw [ha] at HCU HC1 hal
        have HDR : Hid ((bA (58 :: a)).extract 1 (a.length + 1) = bA a) := Lib.hid (drop_bA (58 :: a) 1 (a.length + 1) (by simp))
        have hC2 := fun W => rcut_at a ⟨#[35]⟩ W (by omega) (by decide)
        have e8 : rbef (⟨#[35]⟩ : ByteArray).data.toList a = Urp.bef 35 a := rbef1 35 a
        rw [e8] at hC2
        clear e8
        have hrl : (Urp.bef 35 a).length < l.length := by have := Urp.bef_len 35 a; omega
        obtain ⟨rest, hrest⟩ : ∃ r, Urp.bef 35 a = r := ⟨_, rfl⟩
        obtain ⟨dr, hdr⟩ : ∃ r, raft (⟨#[35]⟩ : ByteArray).data.toList a = r := ⟨_, rfl⟩
        rw [hrest, hdr] at hC2
        rw [hrest] at hrl
        have HRE := Lib.hid hrest
        have HC2 := Lib.hid hC2
        have HRS := Lib.hid hres
        have HIH := Lib.hid (ih rest hrl)
        have HWB := Lib.hid (fun W => rweb_any n rest W (by omega))
        have hkc := known_cases hk
        clear hres ht ih hh hs hn hk ha hC2 hrest hdr hlong
        rcases hkc with hx | hx | hx | hx | hx
        · have kn : Urp.netB n = true := by rw [hx]; decide
          have HN := Lib.hid kn
          have k0 : (n == [104, 116, 116, 112]) = true := by rw [hx]; decide
          have k1 : (n == [104, 116, 116, 112, 115]) = false := by rw [hx]; decide
          have k2 : (n == [97, 98, 111, 117, 116]) = false := by rw [hx]; decide
          have k3 : (n == [100, 97, 116, 97]) = false := by rw [hx]; decide
          have k4 : (n == [98, 108, 111, 98]) = false := by rw [hx]; decide
          have HX := Lib.hid hx
          clear kn hx
          go_enter Tryz.func31, Tryz.ntmps31
          go_wp2_with fail
          refine (HTR.out _).mono ?_
          rintro e w1 ⟨rfl, rfl⟩
          go_wp2_with fail
          refine (HC1.out _).mono ?_
          rintro e w2 ⟨rfl, hb2⟩
          go_wp2_with fail
          refine (HLO.out _).mono ?_
          rintro e w3 ⟨rfl, hb3⟩
          have q3 := (HQ.out.keep hb2).keep hb3
          have bw3 := below_on (below_on HB.out hb2) hb3
          have u3 := UBox.new w3 (begun n)
          have q4 := q3.alloc (.cells (uCells (begun n)) 26)
          have bw4 := bw3.alloc (o := .cells (uCells (begun n)) 26) bw3.size
          have ln : w.heap.size < w3.heap.size := q3.lt
          have nn : w.heap.size ≠ w3.heap.size := by omega
          clear hb2 hb3 bw3
          go_wp2_with fail
          refine (HSC.out _).mono ?_
          rintro e w5 ⟨rfl, rfl⟩
          go_wp2_with fail
          rw [HDR.out]
          refine (HC2.out _).mono ?_
          rintro e w6 ⟨rfl, hb6⟩
          have q6 := q4.keep hb6
          have u6 := u3.keep hb6
          have bw6 := below_on bw4 hb6
          clear hb6 q3 q4 u3 bw4
          go_wp2_with fail
          go_loop [9] (fun i => ∃ k : Nat, k ≤ rest.length ∧ i = .int .i64 k ∧ Hid (Oct.allB Urp.visI (rest.take k) = true)) (fun i => rest.length - (intOf i).toNat)
          case atStart => exact ⟨0, Nat.zero_le _, rfl, rfl⟩
          case round =>
            obtain ⟨k, hk, rfl, hin⟩ := hrel
            by_cases hlt : k < rest.length
            · have hlb : k < (bA rest).size := hlt
              cases hv : Urp.visI (bA rest)[k].toNat with
              | true =>
                have h1 : (33 : Int) ≤ (bA rest)[k].toNat ∧ ((bA rest)[k].toNat : Int) ≤ 126 := by simp only [Urp.visI, Bool.and_eq_true, decide_eq_true_eq] at hv; omega
                obtain ⟨h1, h2⟩ := h1
                go_wp2_with fail
                go_round
                case rel => exact ⟨k + 1, by omega, by go_num, Lib.hid (Oct.allB_next _ (bA rest) k hlt hin.out hv)⟩
                case measure => simp [intOf]; omega
              | false =>
                have HE : Hid (res = .error 30) := Lib.hid (by rw [← HRS.out]; exact parse_dim HCU.out (by rw [HRE.out]; exact (vis_miss (bA rest) k hlt hv).symm))
                have hx2 : ((bA rest)[k].toNat : Int) < 33 ∨ 126 < ((bA rest)[k].toNat : Int) := by simp only [Urp.visI, Bool.and_eq_false_iff, decide_eq_false_iff_not] at hv; omega
                rcases hx2 with hx2 | hx2
                · clear hv
                  go_wp2_with fail
                  refine (rfails_any _ _).mono ?_
                  rintro e wf ⟨rfl, hbf⟩
                  have qf := q6.keep hbf
                  have bf := below_on bw6 hbf
                  clear hbf
                  have d0 := qf.c0; have d1 := qf.c1; have d2 := qf.c2; have d3 := qf.c3; have d4 := qf.c4; have d5 := qf.c5; have d6 := qf.c6; have d7 := qf.c7; have d8 := qf.c8
                  have f := qf.fr
                  go_wp2_with fail
                  exact bodyPost_ret (results_url rfl _ _ rfl (qf.set Urp.zeroU)) rfl ⟨by rw [HE.out]; rfl, below_set9 bf (Nat.le_refl _) Urp.zeroU⟩
                · have hx3 : 33 ≤ ((bA rest)[k].toNat : Int) := by omega
                  clear hv
                  go_wp2_with fail
                  refine (rfails_any _ _).mono ?_
                  rintro e wf ⟨rfl, hbf⟩
                  have qf := q6.keep hbf
                  have bf := below_on bw6 hbf
                  clear hbf
                  have d0 := qf.c0; have d1 := qf.c1; have d2 := qf.c2; have d3 := qf.c3; have d4 := qf.c4; have d5 := qf.c5; have d6 := qf.c6; have d7 := qf.c7; have d8 := qf.c8
                  have f := qf.fr
                  go_wp2_with fail
                  exact bodyPost_ret (results_url rfl _ _ rfl (qf.set Urp.zeroU)) rfl ⟨by rw [HE.out]; rfl, below_set9 bf (Nat.le_refl _) Urp.zeroU⟩
            · have HV : Hid (Urp.visB rest = true) := Lib.hid (vis_end (bA rest) k (by rw [bA_size]; omega) hin.out).symm
              have HE : Hid (res = Urp.web n rest) := Lib.hid (by rw [← HRS.out, parse_net HCU.out (by rw [HRE.out]; exact HV.out) HN.out, HRE.out])
              unfold resV urlV uCells begun at HWB
              obtain ⟨wr2, hwr⟩ : ∃ r, Urp.web n rest = r := ⟨_, rfl⟩
              rw [hwr] at HE HWB
              clear hwr
              obtain ⟨x, hx⟩ : ∃ x, getU wr2 = x := ⟨_, rfl⟩
              obtain ⟨er, her⟩ : ∃ x, errU wr2 = x := ⟨_, rfl⟩
              rw [hx, her] at HWB
              have HXX := Lib.hid hx
              have HER := Lib.hid her
              clear hx her
              have c0 := u6.c0; have c1 := u6.c1; have c2 := u6.c2; have c3 := u6.c3; have c4 := u6.c4; have c5 := u6.c5; have c6 := u6.c6; have c7 := u6.c7; have c8 := u6.c8
              unfold begun at c0 c1 c2 c3 c4 c5 c6 c7 c8
              have fu := u6.fr
              go_wp2_with fail
              refine (HWB.out _).mono ?_
              rintro e w7 ⟨rfl, hb7⟩
              have q7 := q6.keep hb7
              have bw7 := below_on bw6 hb7
              clear hb7 c0 c1 c2 c3 c4 c5 c6 c7 c8 fu
              have d0 := q7.c0; have d1 := q7.c1; have d2 := q7.c2; have d3 := q7.c3; have d4 := q7.c4; have d5 := q7.c5; have d6 := q7.c6; have d7 := q7.c7; have d8 := q7.c8
              have f := q7.fr
              go_wp2_with fail
              exact bodyPost_ret (results_url rfl _ _ rfl (q7.set x)) rfl ⟨by rw [HE.out]; unfold resV; rw [HXX.out, HER.out]; rfl, below_set9 bw7 (Nat.le_refl _) x⟩
        · have kn : Urp.netB n = true := by rw [hx]; decide
          have HN := Lib.hid kn
          have k0 : (n == [104, 116, 116, 112]) = false := by rw [hx]; decide
          have k1 : (n == [104, 116, 116, 112, 115]) = true := by rw [hx]; decide
          have k2 : (n == [97, 98, 111, 117, 116]) = false := by rw [hx]; decide
          have k3 : (n == [100, 97, 116, 97]) = false := by rw [hx]; decide
          have k4 : (n == [98, 108, 111, 98]) = false := by rw [hx]; decide
          have HX := Lib.hid hx
          clear kn hx
          go_enter Tryz.func31, Tryz.ntmps31
          go_wp2_with fail
          refine (HTR.out _).mono ?_
          rintro e w1 ⟨rfl, rfl⟩
          go_wp2_with fail
          refine (HC1.out _).mono ?_
          rintro e w2 ⟨rfl, hb2⟩
          go_wp2_with fail
          refine (HLO.out _).mono ?_
          rintro e w3 ⟨rfl, hb3⟩
          have q3 := (HQ.out.keep hb2).keep hb3
          have bw3 := below_on (below_on HB.out hb2) hb3
          have u3 := UBox.new w3 (begun n)
          have q4 := q3.alloc (.cells (uCells (begun n)) 26)
          have bw4 := bw3.alloc (o := .cells (uCells (begun n)) 26) bw3.size
          have ln : w.heap.size < w3.heap.size := q3.lt
          have nn : w.heap.size ≠ w3.heap.size := by omega
          clear hb2 hb3 bw3
          go_wp2_with fail
          refine (HSC.out _).mono ?_
          rintro e w5 ⟨rfl, rfl⟩
          go_wp2_with fail
          rw [HDR.out]
          refine (HC2.out _).mono ?_
          rintro e w6 ⟨rfl, hb6⟩
          have q6 := q4.keep hb6
          have u6 := u3.keep hb6
          have bw6 := below_on bw4 hb6
          clear hb6 q3 q4 u3 bw4
          go_wp2_with fail
          go_loop [9] (fun i => ∃ k : Nat, k ≤ rest.length ∧ i = .int .i64 k ∧ Hid (Oct.allB Urp.visI (rest.take k) = true)) (fun i => rest.length - (intOf i).toNat)
          case atStart => exact ⟨0, Nat.zero_le _, rfl, rfl⟩
          case round =>
            obtain ⟨k, hk, rfl, hin⟩ := hrel
            by_cases hlt : k < rest.length
            · have hlb : k < (bA rest).size := hlt
              cases hv : Urp.visI (bA rest)[k].toNat with
              | true =>
                have h1 : (33 : Int) ≤ (bA rest)[k].toNat ∧ ((bA rest)[k].toNat : Int) ≤ 126 := by simp only [Urp.visI, Bool.and_eq_true, decide_eq_true_eq] at hv; omega
                obtain ⟨h1, h2⟩ := h1
                go_wp2_with fail
                go_round
                case rel => exact ⟨k + 1, by omega, by go_num, Lib.hid (Oct.allB_next _ (bA rest) k hlt hin.out hv)⟩
                case measure => simp [intOf]; omega
              | false =>
                have HE : Hid (res = .error 30) := Lib.hid (by rw [← HRS.out]; exact parse_dim HCU.out (by rw [HRE.out]; exact (vis_miss (bA rest) k hlt hv).symm))
                have hx2 : ((bA rest)[k].toNat : Int) < 33 ∨ 126 < ((bA rest)[k].toNat : Int) := by simp only [Urp.visI, Bool.and_eq_false_iff, decide_eq_false_iff_not] at hv; omega
                rcases hx2 with hx2 | hx2
                · clear hv
                  go_wp2_with fail
                  refine (rfails_any _ _).mono ?_
                  rintro e wf ⟨rfl, hbf⟩
                  have qf := q6.keep hbf
                  have bf := below_on bw6 hbf
                  clear hbf
                  have d0 := qf.c0; have d1 := qf.c1; have d2 := qf.c2; have d3 := qf.c3; have d4 := qf.c4; have d5 := qf.c5; have d6 := qf.c6; have d7 := qf.c7; have d8 := qf.c8
                  have f := qf.fr
                  go_wp2_with fail
                  exact bodyPost_ret (results_url rfl _ _ rfl (qf.set Urp.zeroU)) rfl ⟨by rw [HE.out]; rfl, below_set9 bf (Nat.le_refl _) Urp.zeroU⟩
                · have hx3 : 33 ≤ ((bA rest)[k].toNat : Int) := by omega
                  clear hv
                  go_wp2_with fail
                  refine (rfails_any _ _).mono ?_
                  rintro e wf ⟨rfl, hbf⟩
                  have qf := q6.keep hbf
                  have bf := below_on bw6 hbf
                  clear hbf
                  have d0 := qf.c0; have d1 := qf.c1; have d2 := qf.c2; have d3 := qf.c3; have d4 := qf.c4; have d5 := qf.c5; have d6 := qf.c6; have d7 := qf.c7; have d8 := qf.c8
                  have f := qf.fr
                  go_wp2_with fail
                  exact bodyPost_ret (results_url rfl _ _ rfl (qf.set Urp.zeroU)) rfl ⟨by rw [HE.out]; rfl, below_set9 bf (Nat.le_refl _) Urp.zeroU⟩
            · have HV : Hid (Urp.visB rest = true) := Lib.hid (vis_end (bA rest) k (by rw [bA_size]; omega) hin.out).symm
              have HE : Hid (res = Urp.web n rest) := Lib.hid (by rw [← HRS.out, parse_net HCU.out (by rw [HRE.out]; exact HV.out) HN.out, HRE.out])
              unfold resV urlV uCells begun at HWB
              obtain ⟨wr2, hwr⟩ : ∃ r, Urp.web n rest = r := ⟨_, rfl⟩
              rw [hwr] at HE HWB
              clear hwr
              obtain ⟨x, hx⟩ : ∃ x, getU wr2 = x := ⟨_, rfl⟩
              obtain ⟨er, her⟩ : ∃ x, errU wr2 = x := ⟨_, rfl⟩
              rw [hx, her] at HWB
              have HXX := Lib.hid hx
              have HER := Lib.hid her
              clear hx her
              have c0 := u6.c0; have c1 := u6.c1; have c2 := u6.c2; have c3 := u6.c3; have c4 := u6.c4; have c5 := u6.c5; have c6 := u6.c6; have c7 := u6.c7; have c8 := u6.c8
              unfold begun at c0 c1 c2 c3 c4 c5 c6 c7 c8
              have fu := u6.fr
              go_wp2_with fail
              refine (HWB.out _).mono ?_
              rintro e w7 ⟨rfl, hb7⟩
              have q7 := q6.keep hb7
              have bw7 := below_on bw6 hb7
              clear hb7 c0 c1 c2 c3 c4 c5 c6 c7 c8 fu
              have d0 := q7.c0; have d1 := q7.c1; have d2 := q7.c2; have d3 := q7.c3; have d4 := q7.c4; have d5 := q7.c5; have d6 := q7.c6; have d7 := q7.c7; have d8 := q7.c8
              have f := q7.fr
              go_wp2_with fail
              exact bodyPost_ret (results_url rfl _ _ rfl (q7.set x)) rfl ⟨by rw [HE.out]; unfold resV; rw [HXX.out, HER.out]; rfl, below_set9 bw7 (Nat.le_refl _) x⟩
        · have kn : Urp.netB n = false := by rw [hx]; decide
          have HN := Lib.hid kn
          have k0 : (n == [104, 116, 116, 112]) = false := by rw [hx]; decide
          have k1 : (n == [104, 116, 116, 112, 115]) = false := by rw [hx]; decide
          have k2 : (n == [97, 98, 111, 117, 116]) = true := by rw [hx]; decide
          have k3 : (n == [100, 97, 116, 97]) = false := by rw [hx]; decide
          have k4 : (n == [98, 108, 111, 98]) = false := by rw [hx]; decide
          have HX := Lib.hid hx
          clear kn hx
          go_enter Tryz.func31, Tryz.ntmps31
          go_wp2_with fail
          refine (HTR.out _).mono ?_
          rintro e w1 ⟨rfl, rfl⟩
          go_wp2_with fail
          refine (HC1.out _).mono ?_
          rintro e w2 ⟨rfl, hb2⟩
          go_wp2_with fail
          refine (HLO.out _).mono ?_
          rintro e w3 ⟨rfl, hb3⟩
          have q3 := (HQ.out.keep hb2).keep hb3
          have bw3 := below_on (below_on HB.out hb2) hb3
          have u3 := UBox.new w3 (begun n)
          have q4 := q3.alloc (.cells (uCells (begun n)) 26)
          have bw4 := bw3.alloc (o := .cells (uCells (begun n)) 26) bw3.size
          have ln : w.heap.size < w3.heap.size := q3.lt
          have nn : w.heap.size ≠ w3.heap.size := by omega
          clear hb2 hb3 bw3
          go_wp2_with fail
          refine (HSC.out _).mono ?_
          rintro e w5 ⟨rfl, rfl⟩
          go_wp2_with fail
          rw [HDR.out]
          refine (HC2.out _).mono ?_
          rintro e w6 ⟨rfl, hb6⟩
          have q6 := q4.keep hb6
          have u6 := u3.keep hb6
          have bw6 := below_on bw4 hb6
          clear hb6 q3 q4 u3 bw4
          go_wp2_with fail
          go_loop [9] (fun i => ∃ k : Nat, k ≤ rest.length ∧ i = .int .i64 k ∧ Hid (Oct.allB Urp.visI (rest.take k) = true)) (fun i => rest.length - (intOf i).toNat)
          case atStart => exact ⟨0, Nat.zero_le _, rfl, rfl⟩
          case round =>
            obtain ⟨k, hk, rfl, hin⟩ := hrel
            by_cases hlt : k < rest.length
            · have hlb : k < (bA rest).size := hlt
              cases hv : Urp.visI (bA rest)[k].toNat with
              | true =>
                have h1 : (33 : Int) ≤ (bA rest)[k].toNat ∧ ((bA rest)[k].toNat : Int) ≤ 126 := by simp only [Urp.visI, Bool.and_eq_true, decide_eq_true_eq] at hv; omega
                obtain ⟨h1, h2⟩ := h1
                go_wp2_with fail
                go_round
                case rel => exact ⟨k + 1, by omega, by go_num, Lib.hid (Oct.allB_next _ (bA rest) k hlt hin.out hv)⟩
                case measure => simp [intOf]; omega
              | false =>
                have HE : Hid (res = .error 30) := Lib.hid (by rw [← HRS.out]; exact parse_dim HCU.out (by rw [HRE.out]; exact (vis_miss (bA rest) k hlt hv).symm))
                have hx2 : ((bA rest)[k].toNat : Int) < 33 ∨ 126 < ((bA rest)[k].toNat : Int) := by simp only [Urp.visI, Bool.and_eq_false_iff, decide_eq_false_iff_not] at hv; omega
                rcases hx2 with hx2 | hx2
                · clear hv
                  go_wp2_with fail
                  refine (rfails_any _ _).mono ?_
                  rintro e wf ⟨rfl, hbf⟩
                  have qf := q6.keep hbf
                  have bf := below_on bw6 hbf
                  clear hbf
                  have d0 := qf.c0; have d1 := qf.c1; have d2 := qf.c2; have d3 := qf.c3; have d4 := qf.c4; have d5 := qf.c5; have d6 := qf.c6; have d7 := qf.c7; have d8 := qf.c8
                  have f := qf.fr
                  go_wp2_with fail
                  exact bodyPost_ret (results_url rfl _ _ rfl (qf.set Urp.zeroU)) rfl ⟨by rw [HE.out]; rfl, below_set9 bf (Nat.le_refl _) Urp.zeroU⟩
                · have hx3 : 33 ≤ ((bA rest)[k].toNat : Int) := by omega
                  clear hv
                  go_wp2_with fail
                  refine (rfails_any _ _).mono ?_
                  rintro e wf ⟨rfl, hbf⟩
                  have qf := q6.keep hbf
                  have bf := below_on bw6 hbf
                  clear hbf
                  have d0 := qf.c0; have d1 := qf.c1; have d2 := qf.c2; have d3 := qf.c3; have d4 := qf.c4; have d5 := qf.c5; have d6 := qf.c6; have d7 := qf.c7; have d8 := qf.c8
                  have f := qf.fr
                  go_wp2_with fail
                  exact bodyPost_ret (results_url rfl _ _ rfl (qf.set Urp.zeroU)) rfl ⟨by rw [HE.out]; rfl, below_set9 bf (Nat.le_refl _) Urp.zeroU⟩
            · have HV : Hid (Urp.visB rest = true) := Lib.hid (vis_end (bA rest) k (by rw [bA_size]; omega) hin.out).symm
              have c0 := u6.c0
              unfold begun at c0
              by_cases hb1 : rest = [98, 108, 97, 110, 107]
              · have hb1' : (rest == [98, 108, 97, 110, 107]) = true := beq_iff_eq.2 hb1
                have HRB : Hid (Urp.restB n rest = true) := Lib.hid (by rw [HX.out, restB_about, hb1]; rfl)
                have HE : Hid (res = .ok ⟨n, Hst.none_, -1, [], false, [], rest⟩) := Lib.hid (by rw [← HRS.out, parse_rest HCU.out (by rw [HRE.out]; exact HV.out) HN.out (by rw [HRE.out]; exact HRB.out), HRE.out])
                clear hb1
                have c0 := u6.c0; have c1 := u6.c1; have c2 := u6.c2; have c3 := u6.c3; have c4 := u6.c4; have c5 := u6.c5; have c6 := u6.c6; have c7 := u6.c7; have c8 := u6.c8
                unfold begun at c0 c1 c2 c3 c4 c5 c6 c7 c8
                have fu := u6.fr
                have d0 := q6.c0; have d1 := q6.c1; have d2 := q6.c2; have d3 := q6.c3; have d4 := q6.c4; have d5 := q6.c5; have d6 := q6.c6; have d7 := q6.c7; have d8 := q6.c8
                have f := q6.fr
                go_wp2_with fail
                have qz := q6.ne w3.heap.size 8 (.string (bA rest)) (fun h => nn h.symm)
                exact bodyPost_ret (results_url rfl _ _ rfl (qz.set ⟨n, Hst.none_, -1, [], false, [], rest⟩)) rfl ⟨by rw [HE.out]; rfl, below_set9 (bw6.setCell (p := ⟨w3.heap.size, 8, none⟩) (Nat.le_of_lt ln) _) (Nat.le_refl _) ⟨n, Hst.none_, -1, [], false, [], rest⟩⟩
              have hb1' : (rest == [98, 108, 97, 110, 107]) = false := beq_eq_false_iff_ne.2 hb1
              by_cases hb2 : rest = [115, 114, 99, 100, 111, 99]
              · have hb2' : (rest == [115, 114, 99, 100, 111, 99]) = true := beq_iff_eq.2 hb2
                have HRB : Hid (Urp.restB n rest = true) := Lib.hid (by rw [HX.out, restB_about, hb2]; rfl)
                have HE : Hid (res = .ok ⟨n, Hst.none_, -1, [], false, [], rest⟩) := Lib.hid (by rw [← HRS.out, parse_rest HCU.out (by rw [HRE.out]; exact HV.out) HN.out (by rw [HRE.out]; exact HRB.out), HRE.out])
                clear hb1 hb2
                have c0 := u6.c0; have c1 := u6.c1; have c2 := u6.c2; have c3 := u6.c3; have c4 := u6.c4; have c5 := u6.c5; have c6 := u6.c6; have c7 := u6.c7; have c8 := u6.c8
                unfold begun at c0 c1 c2 c3 c4 c5 c6 c7 c8
                have fu := u6.fr
                have d0 := q6.c0; have d1 := q6.c1; have d2 := q6.c2; have d3 := q6.c3; have d4 := q6.c4; have d5 := q6.c5; have d6 := q6.c6; have d7 := q6.c7; have d8 := q6.c8
                have f := q6.fr
                go_wp2_with fail
                have qz := q6.ne w3.heap.size 8 (.string (bA rest)) (fun h => nn h.symm)
                exact bodyPost_ret (results_url rfl _ _ rfl (qz.set ⟨n, Hst.none_, -1, [], false, [], rest⟩)) rfl ⟨by rw [HE.out]; rfl, below_set9 (bw6.setCell (p := ⟨w3.heap.size, 8, none⟩) (Nat.le_of_lt ln) _) (Nat.le_refl _) ⟨n, Hst.none_, -1, [], false, [], rest⟩⟩
              have hb2' : (rest == [115, 114, 99, 100, 111, 99]) = false := beq_eq_false_iff_ne.2 hb2
              have HRB : Hid (Urp.restB n rest = false) := Lib.hid (by rw [HX.out, restB_about]; unfold Urp.sBlank Urp.sSrcdoc; rw [hb1', hb2']; rfl)
              have HE : Hid (res = .error 30) := Lib.hid (by rw [← HRS.out]; exact parse_bad HCU.out (by rw [HRE.out]; exact HV.out) HN.out (by rw [HRE.out]; exact HRB.out))
              clear hb1 hb2
              go_wp2_with fail
              refine (rfails_any _ _).mono ?_
              rintro e wf ⟨rfl, hbf⟩
              have qf := q6.keep hbf
              have bf := below_on bw6 hbf
              clear hbf
              have d0 := qf.c0; have d1 := qf.c1; have d2 := qf.c2; have d3 := qf.c3; have d4 := qf.c4; have d5 := qf.c5; have d6 := qf.c6; have d7 := qf.c7; have d8 := qf.c8
              have f := qf.fr
              go_wp2_with fail
              exact bodyPost_ret (results_url rfl _ _ rfl (qf.set Urp.zeroU)) rfl ⟨by rw [HE.out]; rfl, below_set9 bf (Nat.le_refl _) Urp.zeroU⟩
        · have kn : Urp.netB n = false := by rw [hx]; decide
          have HN := Lib.hid kn
          have k0 : (n == [104, 116, 116, 112]) = false := by rw [hx]; decide
          have k1 : (n == [104, 116, 116, 112, 115]) = false := by rw [hx]; decide
          have k2 : (n == [97, 98, 111, 117, 116]) = false := by rw [hx]; decide
          have k3 : (n == [100, 97, 116, 97]) = true := by rw [hx]; decide
          have k4 : (n == [98, 108, 111, 98]) = false := by rw [hx]; decide
          have HX := Lib.hid hx
          clear kn hx
          go_enter Tryz.func31, Tryz.ntmps31
          go_wp2_with fail
          refine (HTR.out _).mono ?_
          rintro e w1 ⟨rfl, rfl⟩
          go_wp2_with fail
          refine (HC1.out _).mono ?_
          rintro e w2 ⟨rfl, hb2⟩
          go_wp2_with fail
          refine (HLO.out _).mono ?_
          rintro e w3 ⟨rfl, hb3⟩
          have q3 := (HQ.out.keep hb2).keep hb3
          have bw3 := below_on (below_on HB.out hb2) hb3
          have u3 := UBox.new w3 (begun n)
          have q4 := q3.alloc (.cells (uCells (begun n)) 26)
          have bw4 := bw3.alloc (o := .cells (uCells (begun n)) 26) bw3.size
          have ln : w.heap.size < w3.heap.size := q3.lt
          have nn : w.heap.size ≠ w3.heap.size := by omega
          clear hb2 hb3 bw3
          go_wp2_with fail
          refine (HSC.out _).mono ?_
          rintro e w5 ⟨rfl, rfl⟩
          go_wp2_with fail
          rw [HDR.out]
          refine (HC2.out _).mono ?_
          rintro e w6 ⟨rfl, hb6⟩
          have q6 := q4.keep hb6
          have u6 := u3.keep hb6
          have bw6 := below_on bw4 hb6
          clear hb6 q3 q4 u3 bw4
          go_wp2_with fail
          go_loop [9] (fun i => ∃ k : Nat, k ≤ rest.length ∧ i = .int .i64 k ∧ Hid (Oct.allB Urp.visI (rest.take k) = true)) (fun i => rest.length - (intOf i).toNat)
          case atStart => exact ⟨0, Nat.zero_le _, rfl, rfl⟩
          case round =>
            obtain ⟨k, hk, rfl, hin⟩ := hrel
            by_cases hlt : k < rest.length
            · have hlb : k < (bA rest).size := hlt
              cases hv : Urp.visI (bA rest)[k].toNat with
              | true =>
                have h1 : (33 : Int) ≤ (bA rest)[k].toNat ∧ ((bA rest)[k].toNat : Int) ≤ 126 := by simp only [Urp.visI, Bool.and_eq_true, decide_eq_true_eq] at hv; omega
                obtain ⟨h1, h2⟩ := h1
                go_wp2_with fail
                go_round
                case rel => exact ⟨k + 1, by omega, by go_num, Lib.hid (Oct.allB_next _ (bA rest) k hlt hin.out hv)⟩
                case measure => simp [intOf]; omega
              | false =>
                have HE : Hid (res = .error 30) := Lib.hid (by rw [← HRS.out]; exact parse_dim HCU.out (by rw [HRE.out]; exact (vis_miss (bA rest) k hlt hv).symm))
                have hx2 : ((bA rest)[k].toNat : Int) < 33 ∨ 126 < ((bA rest)[k].toNat : Int) := by simp only [Urp.visI, Bool.and_eq_false_iff, decide_eq_false_iff_not] at hv; omega
                rcases hx2 with hx2 | hx2
                · clear hv
                  go_wp2_with fail
                  refine (rfails_any _ _).mono ?_
                  rintro e wf ⟨rfl, hbf⟩
                  have qf := q6.keep hbf
                  have bf := below_on bw6 hbf
                  clear hbf
                  have d0 := qf.c0; have d1 := qf.c1; have d2 := qf.c2; have d3 := qf.c3; have d4 := qf.c4; have d5 := qf.c5; have d6 := qf.c6; have d7 := qf.c7; have d8 := qf.c8
                  have f := qf.fr
                  go_wp2_with fail
                  exact bodyPost_ret (results_url rfl _ _ rfl (qf.set Urp.zeroU)) rfl ⟨by rw [HE.out]; rfl, below_set9 bf (Nat.le_refl _) Urp.zeroU⟩
                · have hx3 : 33 ≤ ((bA rest)[k].toNat : Int) := by omega
                  clear hv
                  go_wp2_with fail
                  refine (rfails_any _ _).mono ?_
                  rintro e wf ⟨rfl, hbf⟩
                  have qf := q6.keep hbf
                  have bf := below_on bw6 hbf
                  clear hbf
                  have d0 := qf.c0; have d1 := qf.c1; have d2 := qf.c2; have d3 := qf.c3; have d4 := qf.c4; have d5 := qf.c5; have d6 := qf.c6; have d7 := qf.c7; have d8 := qf.c8
                  have f := qf.fr
                  go_wp2_with fail
                  exact bodyPost_ret (results_url rfl _ _ rfl (qf.set Urp.zeroU)) rfl ⟨by rw [HE.out]; rfl, below_set9 bf (Nat.le_refl _) Urp.zeroU⟩
            · have HV : Hid (Urp.visB rest = true) := Lib.hid (vis_end (bA rest) k (by rw [bA_size]; omega) hin.out).symm
              have HRB : Hid (Urp.restB n rest = true) := Lib.hid (restB_else n rest (by rw [HX.out]; decide) (by rw [HX.out]; decide))
              have HE : Hid (res = .ok ⟨n, Hst.none_, -1, [], false, [], rest⟩) := Lib.hid (by rw [← HRS.out, parse_rest HCU.out (by rw [HRE.out]; exact HV.out) HN.out (by rw [HRE.out]; exact HRB.out), HRE.out])
              have c0 := u6.c0; have c1 := u6.c1; have c2 := u6.c2; have c3 := u6.c3; have c4 := u6.c4; have c5 := u6.c5; have c6 := u6.c6; have c7 := u6.c7; have c8 := u6.c8
              unfold begun at c0 c1 c2 c3 c4 c5 c6 c7 c8
              have fu := u6.fr
              have d0 := q6.c0; have d1 := q6.c1; have d2 := q6.c2; have d3 := q6.c3; have d4 := q6.c4; have d5 := q6.c5; have d6 := q6.c6; have d7 := q6.c7; have d8 := q6.c8
              have f := q6.fr
              go_wp2_with fail
              have qz := q6.ne w3.heap.size 8 (.string (bA rest)) (fun h => nn h.symm)
              exact bodyPost_ret (results_url rfl _ _ rfl (qz.set ⟨n, Hst.none_, -1, [], false, [], rest⟩)) rfl ⟨by rw [HE.out]; rfl, below_set9 (bw6.setCell (p := ⟨w3.heap.size, 8, none⟩) (Nat.le_of_lt ln) _) (Nat.le_refl _) ⟨n, Hst.none_, -1, [], false, [], rest⟩⟩
        · have kn : Urp.netB n = false := by rw [hx]; decide
          have HN := Lib.hid kn
          have k0 : (n == [104, 116, 116, 112]) = false := by rw [hx]; decide
          have k1 : (n == [104, 116, 116, 112, 115]) = false := by rw [hx]; decide
          have k2 : (n == [97, 98, 111, 117, 116]) = false := by rw [hx]; decide
          have k3 : (n == [100, 97, 116, 97]) = false := by rw [hx]; decide
          have k4 : (n == [98, 108, 111, 98]) = true := by rw [hx]; decide
          have HX := Lib.hid hx
          clear kn hx
          go_enter Tryz.func31, Tryz.ntmps31
          go_wp2_with fail
          refine (HTR.out _).mono ?_
          rintro e w1 ⟨rfl, rfl⟩
          go_wp2_with fail
          refine (HC1.out _).mono ?_
          rintro e w2 ⟨rfl, hb2⟩
          go_wp2_with fail
          refine (HLO.out _).mono ?_
          rintro e w3 ⟨rfl, hb3⟩
          have q3 := (HQ.out.keep hb2).keep hb3
          have bw3 := below_on (below_on HB.out hb2) hb3
          have u3 := UBox.new w3 (begun n)
          have q4 := q3.alloc (.cells (uCells (begun n)) 26)
          have bw4 := bw3.alloc (o := .cells (uCells (begun n)) 26) bw3.size
          have ln : w.heap.size < w3.heap.size := q3.lt
          have nn : w.heap.size ≠ w3.heap.size := by omega
          clear hb2 hb3 bw3
          go_wp2_with fail
          refine (HSC.out _).mono ?_
          rintro e w5 ⟨rfl, rfl⟩
          go_wp2_with fail
          rw [HDR.out]
          refine (HC2.out _).mono ?_
          rintro e w6 ⟨rfl, hb6⟩
          have q6 := q4.keep hb6
          have u6 := u3.keep hb6
          have bw6 := below_on bw4 hb6
          clear hb6 q3 q4 u3 bw4
          go_wp2_with fail
          go_loop [9] (fun i => ∃ k : Nat, k ≤ rest.length ∧ i = .int .i64 k ∧ Hid (Oct.allB Urp.visI (rest.take k) = true)) (fun i => rest.length - (intOf i).toNat)
          case atStart => exact ⟨0, Nat.zero_le _, rfl, rfl⟩
          case round =>
            obtain ⟨k, hk, rfl, hin⟩ := hrel
            by_cases hlt : k < rest.length
            · have hlb : k < (bA rest).size := hlt
              cases hv : Urp.visI (bA rest)[k].toNat with
              | true =>
                have h1 : (33 : Int) ≤ (bA rest)[k].toNat ∧ ((bA rest)[k].toNat : Int) ≤ 126 := by simp only [Urp.visI, Bool.and_eq_true, decide_eq_true_eq] at hv; omega
                obtain ⟨h1, h2⟩ := h1
                go_wp2_with fail
                go_round
                case rel => exact ⟨k + 1, by omega, by go_num, Lib.hid (Oct.allB_next _ (bA rest) k hlt hin.out hv)⟩
                case measure => simp [intOf]; omega
              | false =>
                have HE : Hid (res = .error 30) := Lib.hid (by rw [← HRS.out]; exact parse_dim HCU.out (by rw [HRE.out]; exact (vis_miss (bA rest) k hlt hv).symm))
                have hx2 : ((bA rest)[k].toNat : Int) < 33 ∨ 126 < ((bA rest)[k].toNat : Int) := by simp only [Urp.visI, Bool.and_eq_false_iff, decide_eq_false_iff_not] at hv; omega
                rcases hx2 with hx2 | hx2
                · clear hv
                  go_wp2_with fail
                  refine (rfails_any _ _).mono ?_
                  rintro e wf ⟨rfl, hbf⟩
                  have qf := q6.keep hbf
                  have bf := below_on bw6 hbf
                  clear hbf
                  have d0 := qf.c0; have d1 := qf.c1; have d2 := qf.c2; have d3 := qf.c3; have d4 := qf.c4; have d5 := qf.c5; have d6 := qf.c6; have d7 := qf.c7; have d8 := qf.c8
                  have f := qf.fr
                  go_wp2_with fail
                  exact bodyPost_ret (results_url rfl _ _ rfl (qf.set Urp.zeroU)) rfl ⟨by rw [HE.out]; rfl, below_set9 bf (Nat.le_refl _) Urp.zeroU⟩
                · have hx3 : 33 ≤ ((bA rest)[k].toNat : Int) := by omega
                  clear hv
                  go_wp2_with fail
                  refine (rfails_any _ _).mono ?_
                  rintro e wf ⟨rfl, hbf⟩
                  have qf := q6.keep hbf
                  have bf := below_on bw6 hbf
                  clear hbf
                  have d0 := qf.c0; have d1 := qf.c1; have d2 := qf.c2; have d3 := qf.c3; have d4 := qf.c4; have d5 := qf.c5; have d6 := qf.c6; have d7 := qf.c7; have d8 := qf.c8
                  have f := qf.fr
                  go_wp2_with fail
                  exact bodyPost_ret (results_url rfl _ _ rfl (qf.set Urp.zeroU)) rfl ⟨by rw [HE.out]; rfl, below_set9 bf (Nat.le_refl _) Urp.zeroU⟩
            · have HV : Hid (Urp.visB rest = true) := Lib.hid (vis_end (bA rest) k (by rw [bA_size]; omega) hin.out).symm
              have hpa := HIH.out
              unfold RParsesAt resV urlV uCells at hpa
              obtain ⟨x, hx⟩ : ∃ x, getU (Urp.parse rest) = x := ⟨_, rfl⟩
              obtain ⟨er, her⟩ : ∃ x, errU (Urp.parse rest) = x := ⟨_, rfl⟩
              rw [hx, her] at hpa
              have HPA := Lib.hid hpa
              have hbg : ∀ W : World, Calls Tryz.prog 52 #[.string (bA rest), .string ⟨#[110, 117, 108, 108, 47]⟩] W fun e w' => e = .returned (.bool (Urp.begB Urp.sNull rest)) ∧ W = w' := fun W => rbegins_any (bA rest) ⟨#[110, 117, 108, 108, 47]⟩ W
              obtain ⟨nb, hnb⟩ : ∃ b, Urp.netB x.scheme = b := ⟨_, rfl⟩
              have HNX := Lib.hid hnb
              have hnu : (Urp.netU rest).isSome = nb := by
                cases nb with
                | false => rw [netU_no (by rw [hx]; exact hnb)]; rfl
                | true => rw [netU_yes (by rw [hx]; exact hnb)]; rfl
              have herr : nb = true → er = 0 := by
                intro h
                rw [← her]
                cases hp : Urp.parse rest with
                | ok y => rfl
                | error e =>
                  rw [hp] at hx
                  rw [← hx, h] at hnb
                  cases hnb
              have hrb : Urp.restB n rest = (nb || Urp.begB Urp.sNull rest) := by rw [HX.out, restB_blob, hnu]
              clear hpa hnb hnu hx her
              cases hbn : Urp.begB Urp.sNull rest with
              | true =>
                rw [hbn] at hbg hrb
                have HBG := Lib.hid hbg
                have HRB : Hid (Urp.restB n rest = true) := Lib.hid (by rw [hrb]; simp)
                have HE : Hid (res = .ok ⟨n, Hst.none_, -1, [], false, [], rest⟩) := Lib.hid (by rw [← HRS.out, parse_rest HCU.out (by rw [HRE.out]; exact HV.out) HN.out (by rw [HRE.out]; exact HRB.out), HRE.out])
                clear hbg hrb hbn herr
                have c0 := u6.c0
                unfold begun at c0
                go_wp2_with fail
                refine (HBG.out _).mono ?_
                rintro e w7 ⟨rfl, rfl⟩
                clear c0
                go_wp2_with fail
                refine (HPA.out _).mono ?_
                rintro e w7 ⟨rfl, hb7⟩
                have q7 := (q6.keep hb7).alloc (.cells (uCells x) 26)
                have u7 := (u6.keep hb7).alloc (.cells (uCells x) 26)
                have bw7 := (below_on bw6 hb7).alloc (o := .cells (uCells x) 26) (below_on bw6 hb7).size
                clear hb7
                go_wp2_with fail
                refine (rnetV_any _ _ _ _ _ _ _ _ _ _).mono ?_
                rintro e w8 ⟨rfl, hb8⟩
                have q8 := q7.keep hb8
                have u8 := u7.keep hb8
                have bw8 := below_on bw7 hb8
                clear hb8 q7 u7 bw7
                have en : Urp.netB (bA x.scheme).data.toList = nb := HNX.out
                rw [en]
                clear en
                have c0 := u8.c0; have c1 := u8.c1; have c2 := u8.c2; have c3 := u8.c3; have c4 := u8.c4; have c5 := u8.c5; have c6 := u8.c6; have c7 := u8.c7; have c8 := u8.c8
                unfold begun at c0 c1 c2 c3 c4 c5 c6 c7 c8
                have fu := u8.fr
                have d0 := q8.c0; have d1 := q8.c1; have d2 := q8.c2; have d3 := q8.c3; have d4 := q8.c4; have d5 := q8.c5; have d6 := q8.c6; have d7 := q8.c7; have d8 := q8.c8
                have f := q8.fr
                go_wp2_with fail
                have qz := q8.ne w3.heap.size 8 (.string (bA rest)) (fun h => nn h.symm)
                exact bodyPost_ret (results_url rfl _ _ rfl (qz.set ⟨n, Hst.none_, -1, [], false, [], rest⟩)) rfl ⟨by rw [HE.out]; rfl, below_set9 (bw8.setCell (p := ⟨w3.heap.size, 8, none⟩) (Nat.le_of_lt ln) _) (Nat.le_refl _) ⟨n, Hst.none_, -1, [], false, [], rest⟩⟩
              | false =>
                rw [hbn] at hbg hrb
                have HBG := Lib.hid hbg
                cases nb with
                | true =>
                  have HRB : Hid (Urp.restB n rest = true) := Lib.hid (by rw [hrb]; rfl)
                  have HE : Hid (res = .ok ⟨n, Hst.none_, -1, [], false, [], rest⟩) := Lib.hid (by rw [← HRS.out, parse_rest HCU.out (by rw [HRE.out]; exact HV.out) HN.out (by rw [HRE.out]; exact HRB.out), HRE.out])
                  have he0 : er = 0 := herr rfl
                  subst he0
                  clear hbg hrb hbn herr
                  have c0 := u6.c0
                  unfold begun at c0
                  go_wp2_with fail
                  refine (HBG.out _).mono ?_
                  rintro e w7 ⟨rfl, rfl⟩
                  clear c0
                  go_wp2_with fail
                  refine (HPA.out _).mono ?_
                  rintro e w7 ⟨rfl, hb7⟩
                  have q7 := (q6.keep hb7).alloc (.cells (uCells x) 26)
                  have u7 := (u6.keep hb7).alloc (.cells (uCells x) 26)
                  have bw7 := (below_on bw6 hb7).alloc (o := .cells (uCells x) 26) (below_on bw6 hb7).size
                  clear hb7
                  go_wp2_with fail
                  refine (rnetV_any _ _ _ _ _ _ _ _ _ _).mono ?_
                  rintro e w8 ⟨rfl, hb8⟩
                  have q8 := q7.keep hb8
                  have u8 := u7.keep hb8
                  have bw8 := below_on bw7 hb8
                  clear hb8 q7 u7 bw7
                  have en : Urp.netB (bA x.scheme).data.toList = true := HNX.out
                  rw [en]
                  clear en
                  have c0 := u8.c0; have c1 := u8.c1; have c2 := u8.c2; have c3 := u8.c3; have c4 := u8.c4; have c5 := u8.c5; have c6 := u8.c6; have c7 := u8.c7; have c8 := u8.c8
                  unfold begun at c0 c1 c2 c3 c4 c5 c6 c7 c8
                  have fu := u8.fr
                  have d0 := q8.c0; have d1 := q8.c1; have d2 := q8.c2; have d3 := q8.c3; have d4 := q8.c4; have d5 := q8.c5; have d6 := q8.c6; have d7 := q8.c7; have d8 := q8.c8
                  have f := q8.fr
                  go_wp2_with fail
                  have qz := q8.ne w3.heap.size 8 (.string (bA rest)) (fun h => nn h.symm)
                  exact bodyPost_ret (results_url rfl _ _ rfl (qz.set ⟨n, Hst.none_, -1, [], false, [], rest⟩)) rfl ⟨by rw [HE.out]; rfl, below_set9 (bw8.setCell (p := ⟨w3.heap.size, 8, none⟩) (Nat.le_of_lt ln) _) (Nat.le_refl _) ⟨n, Hst.none_, -1, [], false, [], rest⟩⟩
                | false =>
                  have HRB : Hid (Urp.restB n rest = false) := Lib.hid (by rw [hrb]; rfl)
                  have HE : Hid (res = .error 30) := Lib.hid (by rw [← HRS.out]; exact parse_bad HCU.out (by rw [HRE.out]; exact HV.out) HN.out (by rw [HRE.out]; exact HRB.out))
                  clear hbg hrb hbn herr
                  rcases Bool.eq_false_or_eq_true (er != 0) with hez | hez
                  all_goals
                    have c0 := u6.c0
                    unfold begun at c0
                    go_wp2_with fail
                    refine (HBG.out _).mono ?_
                    rintro e w7 ⟨rfl, rfl⟩
                    clear c0
                    go_wp2_with fail
                    refine (HPA.out _).mono ?_
                    rintro e w7 ⟨rfl, hb7⟩
                    have q7 := (q6.keep hb7).alloc (.cells (uCells x) 26)
                    have u7 := (u6.keep hb7).alloc (.cells (uCells x) 26)
                    have bw7 := (below_on bw6 hb7).alloc (o := .cells (uCells x) 26) (below_on bw6 hb7).size
                    clear hb7
                    go_wp2_with fail
                    refine (rnetV_any _ _ _ _ _ _ _ _ _ _).mono ?_
                    rintro e w8 ⟨rfl, hb8⟩
                    have q8 := q7.keep hb8
                    have u8 := u7.keep hb8
                    have bw8 := below_on bw7 hb8
                    clear hb8 q7 u7 bw7
                    have en : Urp.netB (bA x.scheme).data.toList = false := HNX.out
                    rw [en]
                    clear en
                    go_wp2_with fail
                    refine (rfails_any _ _).mono ?_
                    rintro e wf ⟨rfl, hbf⟩
                    have qf := q8.keep hbf
                    have bf := below_on bw8 hbf
                    clear hbf
                    have d0 := qf.c0; have d1 := qf.c1; have d2 := qf.c2; have d3 := qf.c3; have d4 := qf.c4; have d5 := qf.c5; have d6 := qf.c6; have d7 := qf.c7; have d8 := qf.c8
                    have f := qf.fr
                    go_wp2_with fail
                    exact bodyPost_ret (results_url rfl _ _ rfl (qf.set Urp.zeroU)) rfl ⟨by rw [HE.out]; rfl, below_set9 bf (Nat.le_refl _) Urp.zeroU⟩
theorem ruparse_any (l : List UInt8) (w : World) (hl : l.length ≤ 4000) : Calls Tryz.prog 31 #[.string (bA l)] w fun e w' => e = .returned (resV (Urp.parse l)) ∧ Below w.heap.size w w' := by
  have key : ∀ (n : Nat) (l : List UInt8), l.length < n → l.length ≤ 4000 → RParsesAt l := by
    intro n
    induction n with
    | zero => intro l h; omega
    | succ n ih => exact fun l h hl W => rparse_step l W hl (fun l' h' => ih l' (by omega) (by omega))
  exact key (l.length + 1) l (by omega) hl w
end Go.Proofs.YtehjnidggnfbfaaGreatDoor
