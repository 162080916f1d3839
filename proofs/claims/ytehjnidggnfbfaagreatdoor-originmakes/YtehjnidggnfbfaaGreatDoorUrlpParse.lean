/- The contract of urlp.Parse (it calls itself at the text within a blob), and of Inner. -/
import Derived.Test.YtehjnidggnfbfaaGreatDoorUrlpNet
namespace Go.Proofs.YtehjnidggnfbfaaGreatDoor
open Go.RowKit

/-- What Parse is, in steps. -/
theorem parse_err {l : List UInt8} {e : Int} (h : Urp.cutS (Urp.trimU l) = .error e) : Urp.parse l = .error e := by unfold Urp.parse; rw [h]
theorem parse_dim {l s a : List UInt8} (h : Urp.cutS (Urp.trimU l) = .ok (s, a)) (hv : Urp.visB (Urp.bef 35 a) = false) : Urp.parse l = .error 30 := by unfold Urp.parse; rw [h]; simp [hv]
theorem parse_net {l s a : List UInt8} (h : Urp.cutS (Urp.trimU l) = .ok (s, a)) (hv : Urp.visB (Urp.bef 35 a) = true) (hn : Urp.netB s = true) : Urp.parse l = Urp.web s (Urp.bef 35 a) := by unfold Urp.parse; rw [h]; simp [hv, hn]
theorem parse_bad {l s a : List UInt8} (h : Urp.cutS (Urp.trimU l) = .ok (s, a)) (hv : Urp.visB (Urp.bef 35 a) = true) (hn : Urp.netB s = false) (hr : Urp.restB s (Urp.bef 35 a) = false) : Urp.parse l = .error 30 := by unfold Urp.parse; rw [h]; simp [hv, hn, hr]
theorem parse_rest {l s a : List UInt8} (h : Urp.cutS (Urp.trimU l) = .ok (s, a)) (hv : Urp.visB (Urp.bef 35 a) = true) (hn : Urp.netB s = false) (hr : Urp.restB s (Urp.bef 35 a) = true) : Urp.parse l = .ok ⟨s, Hst.none_, -1, [], false, [], Urp.bef 35 a⟩ := by unfold Urp.parse; rw [h]; simp [hv, hn, hr]

set_option maxHeartbeats 4000000 in
set_option maxRecDepth 100000 in
theorem parse_step (l : List UInt8) (w : World) (hl : l.length ≤ 4000) (hT : Tab8 w) (ih : ∀ l' : List UInt8, l'.length < l.length → ParsesAt l') : Calls Tryz.prog 30 #[.string (bA l)] w fun e w' => e = .returned (resV (Urp.parse l)) ∧ Below w.heap.size w w' := by
  have hb0 : Below w.heap.size w (w.alloc (.cells (uCells Urp.zeroU) 26)) := (Below.refl _ w).alloc (Nat.le_refl _) _
  have q0 := UBox.new w Urp.zeroU
  have htl := Urp.trimU_len l
  have HTR := Lib.hid (fun W h => trimU_any (bA l) W (by rw [bA_size]; unfold maxLen; omega) h)
  have HCU := Lib.hid (fun W => cutScheme_any (bA (Urp.trimU l)) W (by rw [bA_size]; unfold maxLen; omega))
  have hT0 := hT.below hb0
  have e0 : (bA l).data.toList = l := rfl
  have e1 : (bA (Urp.trimU l)).data.toList = Urp.trimU l := rfl
  rw [e0] at HTR
  rw [e1] at HCU
  clear e0 e1
  cases hc : Urp.cutS (Urp.trimU l) with
  | error er =>
    have HE := Lib.hid (parse_err hc)
    rw [hc] at HCU
    have her : (er != 0) = true := by
      unfold Urp.cutS at hc
      split at hc
      · cases hc; decide
      · split at hc
        · cases hc
        · cases hc; decide
    unfold cutV at HCU
    simp only at HCU
    have HB := Lib.hid hb0
    have HQ := Lib.hid q0
    have HT := Lib.hid hT0
    clear hc ih hb0 q0 hT0
    go_enter Tryz.func30, Tryz.ntmps30
    go_wp2_with fail
    refine (HTR.out _ HT.out).mono ?_
    rintro e w1 ⟨rfl, hb1⟩
    go_wp2_with fail
    refine (HCU.out _).mono ?_
    rintro e w2 ⟨rfl, hb2⟩
    have q2 := (HQ.out.keep hb1).keep hb2
    have hbw := below_on (below_on HB.out hb1) hb2
    have d0 := q2.c0; have d1 := q2.c1; have d2 := q2.c2; have d3 := q2.c3; have d4 := q2.c4; have d5 := q2.c5; have d6 := q2.c6; have d7 := q2.c7; have d8 := q2.c8
    have f := q2.fr
    go_wp2_with fail
    exact bodyPost_ret (results_url rfl _ _ rfl (q2.set Urp.zeroU)) rfl ⟨by rw [HE.out]; rfl, below_set9 hbw (Nat.le_refl _) Urp.zeroU⟩
  | ok x =>
    obtain ⟨s, a⟩ := x
    have hcol := (Urp.cutS_ok hc).2.1
    have hae := (Urp.cutS_ok hc).2.2.2.2.2
    have hal : a.length < l.length := by
      have := Urp.aft_lt hcol
      rw [← hae] at this; omega
    have hrl : (Urp.bef 35 a).length < l.length := Nat.lt_of_le_of_lt (Urp.bef_len 35 a) hal
    rw [hc] at HCU
    unfold cutV at HCU
    simp only at HCU
    have HCT := Lib.hid (fun W => cut_at a 35 W (by omega))
    obtain ⟨h35, hh35⟩ : ∃ b, Urp.hasB 35 a = b := ⟨_, rfl⟩
    obtain ⟨a35, ha35⟩ : ∃ b, Urp.aft 35 a = b := ⟨_, rfl⟩
    rw [hh35, ha35] at HCT
    have HC := Lib.hid hc
    obtain ⟨rest, hrest⟩ : ∃ r, Urp.bef 35 a = r := ⟨_, rfl⟩
    have HRS := Lib.hid hrest
    rw [hrest] at HCT hrl
    have HVI := Lib.hid (fun W => isVisible_any (bA rest) W (by rw [bA_size]; unfold maxLen; omega))
    have evi : (bA rest).data.toList = rest := rfl
    rw [evi] at HVI
    have HIH := Lib.hid (ih rest hrl)
    have HB := Lib.hid hb0
    have HQ := Lib.hid q0
    have HT := Lib.hid hT0
    clear hc ih hb0 q0 hT0 hh35 ha35 hrest evi hcol hae
    cases hv : Urp.visB rest with
    | false =>
      have HE := Lib.hid (parse_dim HC.out (by rw [HRS.out]; exact hv))
      rw [hv] at HVI
      clear hv
      go_enter Tryz.func30, Tryz.ntmps30
      go_wp2_with fail
      refine (HTR.out _ HT.out).mono ?_
      rintro e w1 ⟨rfl, hb1⟩
      go_wp2_with fail
      refine (HCU.out _).mono ?_
      rintro e w2 ⟨rfl, hb2⟩
      go_wp2_with fail
      refine (HCT.out _).mono ?_
      rintro e w3 ⟨rfl, hb3⟩
      go_wp2_with fail
      refine (HVI.out _).mono ?_
      rintro e w4 ⟨rfl, rfl⟩
      have q2 := ((HQ.out.keep hb1).keep hb2).keep hb3
      have hbw := below_on (below_on (below_on HB.out hb1) hb2) hb3
      have d0 := q2.c0; have d1 := q2.c1; have d2 := q2.c2; have d3 := q2.c3; have d4 := q2.c4; have d5 := q2.c5; have d6 := q2.c6; have d7 := q2.c7; have d8 := q2.c8
      have f := q2.fr
      go_wp2_with fail
      exact bodyPost_ret (results_url rfl _ _ rfl (q2.set Urp.zeroU)) rfl ⟨by rw [HE.out]; rfl, below_set9 hbw (Nat.le_refl _) Urp.zeroU⟩
    | true =>
      have HV := Lib.hid hv
      rw [hv] at HVI
      clear hv
      cases hn : Urp.netB s with
      | true =>
        have HE := Lib.hid (parse_net HC.out (by rw [HRS.out]; exact HV.out) hn)
        rw [HRS.out] at HE
        have HN := Lib.hid hn
        have HPN := Lib.hid (fun W => parseNet_any s rest W hn (by omega))
        clear hn
        obtain ⟨res, hres⟩ : ∃ r, Urp.web s rest = r := ⟨_, rfl⟩
        rw [hres] at HE HPN
        clear hres
        unfold resV urlV uCells begun at HPN
        obtain ⟨x, hx⟩ : ∃ x, getU res = x := ⟨_, rfl⟩
        obtain ⟨er, her⟩ : ∃ x, errU res = x := ⟨_, rfl⟩
        rw [hx, her] at HPN
        have HX := Lib.hid hx
        have HER := Lib.hid her
        clear hx her
        go_enter Tryz.func30, Tryz.ntmps30
        go_wp2_with fail
        refine (HTR.out _ HT.out).mono ?_
        rintro e w1 ⟨rfl, hb1⟩
        go_wp2_with fail
        refine (HCU.out _).mono ?_
        rintro e w2 ⟨rfl, hb2⟩
        go_wp2_with fail
        refine (HCT.out _).mono ?_
        rintro e w3 ⟨rfl, hb3⟩
        go_wp2_with fail
        refine (HVI.out _).mono ?_
        rintro e w4 ⟨rfl, rfl⟩
        have q3 := ((HQ.out.keep hb1).keep hb2).keep hb3
        have hbw := below_on (below_on (below_on HB.out hb1) hb2) hb3
        go_wp2_with fail
        refine (netV_any _ _ _ _ _ _ _ _ _ _).mono ?_
        rintro e w5 ⟨rfl, hb5⟩
        have q5 := (q3.alloc _).keep hb5
        have u5 := (UBox.new w3 (begun s)).keep hb5
        have hbw5 := below_on (hbw.alloc hbw.size _) hb5
        have en : Urp.netB (bA s).data.toList = Urp.netB s := rfl
        rw [en, HN.out]
        clear en hb5 hb1 hb2 hb3 q3 hbw
        have c0 := u5.c0; have c1 := u5.c1; have c2 := u5.c2; have c3 := u5.c3; have c4 := u5.c4; have c5 := u5.c5; have c6 := u5.c6; have c7 := u5.c7; have c8 := u5.c8
        unfold begun at c0 c1 c2 c3 c4 c5 c6 c7 c8
        go_wp2_with fail
        refine (HPN.out _).mono ?_
        rintro e w6 ⟨rfl, hb6⟩
        have q6 := q5.keep hb6
        have hbw6 := below_on hbw5 hb6
        clear hb6 q5 u5 c0 c1 c2 c3 c4 c5 c6 c7 c8 hbw5
        have d0 := q6.c0; have d1 := q6.c1; have d2 := q6.c2; have d3 := q6.c3; have d4 := q6.c4; have d5 := q6.c5; have d6 := q6.c6; have d7 := q6.c7; have d8 := q6.c8
        have f := q6.fr
        go_wp2_with fail
        exact bodyPost_ret (results_url rfl _ _ rfl (q6.set x)) rfl ⟨by rw [HE.out]; unfold resV; rw [HX.out, HER.out]; rfl, below_set9 hbw6 (Nat.le_refl _) x⟩
      | false =>
        have HN := Lib.hid hn
        have HR := Lib.hid (fun W h => isRest_of s rest W h HIH.out)
        clear hn
        cases hr : Urp.restB s rest with
        | false =>
          have HE := Lib.hid (parse_bad HC.out (by rw [HRS.out]; exact HV.out) HN.out (by rw [HRS.out]; exact hr))
          rw [hr] at HR
          clear hr
          go_enter Tryz.func30, Tryz.ntmps30
          go_wp2_with fail
          refine (HTR.out _ HT.out).mono ?_
          rintro e w1 ⟨rfl, hb1⟩
          go_wp2_with fail
          refine (HCU.out _).mono ?_
          rintro e w2 ⟨rfl, hb2⟩
          go_wp2_with fail
          refine (HCT.out _).mono ?_
          rintro e w3 ⟨rfl, hb3⟩
          go_wp2_with fail
          refine (HVI.out _).mono ?_
          rintro e w4 ⟨rfl, rfl⟩
          have q3 := ((HQ.out.keep hb1).keep hb2).keep hb3
          have hbw := below_on (below_on (below_on HB.out hb1) hb2) hb3
          go_wp2_with fail
          refine (netV_any _ _ _ _ _ _ _ _ _ _).mono ?_
          rintro e w5 ⟨rfl, hb5⟩
          have q5 := (q3.alloc _).keep hb5
          have hbw5 := below_on (hbw.alloc hbw.size _) hb5
          have en : Urp.netB (bA s).data.toList = Urp.netB s := rfl
          rw [en, HN.out]
          clear en hb5 hb1 hb2 hb3 q3 hbw
          have HT5 := Lib.hid (hT.below hbw5)
          go_wp2_with fail
          refine (HR.out _ HT5.out).mono ?_
          rintro e w6 ⟨rfl, hb6⟩
          have q6 := q5.keep hb6
          have hbw6 := below_on hbw5 hb6
          clear hb6 q5 hbw5
          have d0 := q6.c0; have d1 := q6.c1; have d2 := q6.c2; have d3 := q6.c3; have d4 := q6.c4; have d5 := q6.c5; have d6 := q6.c6; have d7 := q6.c7; have d8 := q6.c8
          have f := q6.fr
          go_wp2_with fail
          exact bodyPost_ret (results_url rfl _ _ rfl (q6.set Urp.zeroU)) rfl ⟨by rw [HE.out]; rfl, below_set9 hbw6 (Nat.le_refl _) Urp.zeroU⟩
        | true =>
          have HE := Lib.hid (parse_rest HC.out (by rw [HRS.out]; exact HV.out) HN.out (by rw [HRS.out]; exact hr))
          rw [HRS.out] at HE
          rw [hr] at HR
          clear hr
          go_enter Tryz.func30, Tryz.ntmps30
          go_wp2_with fail
          refine (HTR.out _ HT.out).mono ?_
          rintro e w1 ⟨rfl, hb1⟩
          go_wp2_with fail
          refine (HCU.out _).mono ?_
          rintro e w2 ⟨rfl, hb2⟩
          go_wp2_with fail
          refine (HCT.out _).mono ?_
          rintro e w3 ⟨rfl, hb3⟩
          go_wp2_with fail
          refine (HVI.out _).mono ?_
          rintro e w4 ⟨rfl, rfl⟩
          have q3 := ((HQ.out.keep hb1).keep hb2).keep hb3
          have hbw := below_on (below_on (below_on HB.out hb1) hb2) hb3
          have hne : w3.heap.size ≠ w.heap.size := by have := q3.lt; omega
          go_wp2_with fail
          refine (netV_any _ _ _ _ _ _ _ _ _ _).mono ?_
          rintro e w5 ⟨rfl, hb5⟩
          have q5 := (q3.alloc _).keep hb5
          have u5 := (UBox.new w3 (begun s)).keep hb5
          have hbw5 := below_on (hbw.alloc hbw.size _) hb5
          have hsz : w.heap.size ≤ w3.heap.size := hbw.size
          have en : Urp.netB (bA s).data.toList = Urp.netB s := rfl
          rw [en, HN.out]
          clear en hb5 hb1 hb2 hb3 q3 hbw
          have HT5 := Lib.hid (hT.below hbw5)
          go_wp2_with fail
          refine (HR.out _ HT5.out).mono ?_
          rintro e w6 ⟨rfl, hb6⟩
          have q6 := q5.keep hb6
          have u6 := u5.keep hb6
          have hbw6 := below_on hbw5 hb6
          clear hb6 q5 u5 hbw5
          have c0 := u6.c0; have c1 := u6.c1; have c2 := u6.c2; have c3 := u6.c3; have c4 := u6.c4; have c5 := u6.c5; have c6 := u6.c6; have c7 := u6.c7; have c8 := u6.c8
          unfold begun at c0 c1 c2 c3 c4 c5 c6 c7 c8
          have fu := u6.fr
          have d0 := q6.c0; have d1 := q6.c1; have d2 := q6.c2; have d3 := q6.c3; have d4 := q6.c4; have d5 := q6.c5; have d6 := q6.c6; have d7 := q6.c7; have d8 := q6.c8
          have f := q6.fr
          go_wp2_with fail
          have q7 := q6.ne w3.heap.size 8 (.string (bA rest)) hne
          exact bodyPost_ret (results_url rfl _ _ rfl (q7.set ⟨s, Hst.none_, -1, [], false, [], rest⟩)) rfl ⟨by rw [HE.out]; rfl, below_set9 (hbw6.setCell (p := ⟨w3.heap.size, 8, none⟩) hsz _) (Nat.le_refl _) ⟨s, Hst.none_, -1, [], false, [], rest⟩⟩
theorem uparse_any (l : List UInt8) (w : World) (hl : l.length ≤ 4000) (hT : Tab8 w) : Calls Tryz.prog 30 #[.string (bA l)] w fun e w' => e = .returned (resV (Urp.parse l)) ∧ Below w.heap.size w w' := by
  have key : ∀ (n : Nat) (l : List UInt8), l.length < n → l.length ≤ 4000 → ParsesAt l := by
    intro n
    induction n with
    | zero => intro l h; omega
    | succ n ih => exact fun l h hl W hW => parse_step l W hl hW (fun l' h' => ih l' (by omega) (by omega))
  exact key (l.length + 1) l (by omega) hl w hT
theorem inner_any (u : Urp.URL) (w : World) (hl : u.rest.length ≤ 4000) (hT : Tab8 w) : Calls Tryz.prog 18 #[urlV u] w fun e w' => e = .returned (inV (Urp.innerU u)) ∧ Below w.heap.size w w' :=
  inner_of u w hT (fun W hW => uparse_any u.rest W hl hW)
end Go.Proofs.YtehjnidggnfbfaaGreatDoor
