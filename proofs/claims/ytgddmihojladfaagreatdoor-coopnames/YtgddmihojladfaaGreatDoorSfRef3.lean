/- The contract of the document's number. (Written by mkn.py.) -/
import Derived.Test.YtgddmihojladfaaGreatDoorSfRef3a
namespace Go.Proofs.YtgddmihojladfaaGreatDoor
open Go.RowKit

set_option maxHeartbeats 4000000 in
set_option maxRecDepth 20000 in
theorem rnumber_pos (T : ByteArray) (w : World) (hs : T.size ≤ 1000000) (hp : 0 < T.size) (hq : ((T[0].toNat : Int) == 45) = false) : Calls Tryz.prog 88 #[.string T] w fun e w' => e = .returned (rvalV (Sf.num 1 T.data.toList)) ∧ Below w.heap.size w w' := by
  obtain ⟨d, hd⟩ : ∃ d, Sf.tw Oct.digitI T.data.toList = d := ⟨_, rfl⟩
  obtain ⟨r, hr⟩ : ∃ r, Sf.dw Oct.digitI T.data.toList = r := ⟨_, rfl⟩
  have hdr : d ++ r = T.data.toList := by rw [← hd, ← hr]; exact tw_dw _ _
  have had : Oct.allB Oct.digitI d = true := by rw [← hd]; exact Sf.tw_all _ _
  have H1 : Hid (∀ W : World, Calls Tryz.prog 104 #[.string T] W fun e w' => e = .returned (.int .i64 d.length) ∧ W = w') := Lib.hid (fun W => by have := rdigits_of T W (by unfold maxLen; omega); rw [hd] at this; exact this)
  have hnum : Sf.num 1 T.data.toList = if d.length = 0 ∨ 15 < d.length then none else if r.headD 0 = 46 then (if 12 < d.length ∨ (Sf.tw Oct.digitI (r.drop 1)).length < 1 ∨ 3 < (Sf.tw Oct.digitI (r.drop 1)).length then none else some (Sf.kv 2 (1 * (Oct.val (d ++ Sf.tw Oct.digitI (r.drop 1)) * 10 ^ (3 - (Sf.tw Oct.digitI (r.drop 1)).length))) [], Sf.dw Oct.digitI (r.drop 1))) else some (Sf.kv 1 (1 * Oct.val d) [], r) := by unfold Sf.num; rw [hd, hr]
  have HSZ := Lib.hid (size_of hdr)
  clear hd hr
  by_cases hz : d.length = 0 ∨ 15 < d.length
  · rw [hnum, if_pos hz]
    clear hnum had hdr
    go_enter Tryz.func88, Tryz.ntmps88
    go_wp2_with fail
    refine (H1.out _).mono ?_
    rintro e w1 ⟨rfl, rfl⟩
    rcases hz with hz | hz
    · rw [hz]
      go_wp2_with fail
      refine bodyPost_ret (results_pv (x := ⟨[], 0, 0, []⟩) rfl _ _ rfl (CBox.new _ _ _)) rfl ?_
      exact ⟨rfl, below_one _ _⟩
    · have hz' : (15 : Int) < (d.length : Int) := by omega
      have hz2 : ((d.length : Int) == 0) = false := by simp; intro h; rw [h] at hz; simp at hz
      go_wp2_with fail
      refine bodyPost_ret (results_pv (x := ⟨[], 0, 0, []⟩) rfl _ _ rfl (CBox.new _ _ _)) rfl ?_
      exact ⟨rfl, below_one _ _⟩
  · rw [hnum, if_neg hz]
    have hz1 : ((d.length : Int) == 0) = false := by simp; intro h; rw [h] at hz; simp at hz
    have hz2 : (d.length : Int) ≤ 15 := by omega
    have hv0 := Oct.val_nonneg _ had
    have hv1 : Oct.val d ≤ 999999999999999 := by have := Sf.val_bound had 15 (by omega); omega
    by_cases hr46 : r.headD 0 = 46
    · rw [if_pos hr46]
      obtain ⟨q, rfl⟩ : ∃ q, r = 46 :: q := by
        cases r with
        | nil => cases hr46
        | cons c q => exact ⟨q, by rw [show c = 46 from hr46]⟩
      rw [show (46 :: q : List UInt8).drop 1 = q from rfl]
      obtain ⟨d2, hd2⟩ : ∃ d2, Sf.tw Oct.digitI q = d2 := ⟨_, rfl⟩
      obtain ⟨r2, hr2⟩ : ∃ r2, Sf.dw Oct.digitI q = r2 := ⟨_, rfl⟩
      have had2 : Oct.allB Oct.digitI d2 = true := by rw [← hd2]; exact Sf.tw_all _ _
      have hdr2 : d2 ++ r2 = q := by rw [← hd2, ← hr2]; exact tw_dw _ _
      have hql : q.length ≤ 1000000 := by have := HSZ.out; simp at this; omega
      have H3 : Hid (∀ W : World, Calls Tryz.prog 104 #[.string (bA q)] W fun e w' => e = .returned (.int .i64 d2.length) ∧ W = w') := Lib.hid (fun W => by have := rdigits_of (bA q) W (by rw [bA_size]; unfold maxLen; omega); rw [show (bA q).data.toList = q from rfl, hd2] at this; exact this)
      rw [hd2, hr2]
      have hlt : d.length < T.size := by rw [HSZ.out]; simp
      have hdl' : ((d.length : Int) == (T.size : Int)) = false := by simp; omega
      have hat : (((T[d.length]'hlt).toNat : Int) != 46) = false := by rw [at_r' hdr hlt]; rfl
      have hx1 := ext_l' hdr
      have hx3 := ext_s' hdr
      clear hnum hr46 hd2 hr2
      by_cases hb : 12 < d.length ∨ d2.length < 1 ∨ 3 < d2.length
      · rw [if_pos hb]
        clear had had2 hdr hdr2 hz
        by_cases b1 : 12 < d.length
        · have b1' : (12 : Int) < (d.length : Int) := by omega
          clear hb
          go_enter Tryz.func88, Tryz.ntmps88
          go_wp2_with fail
          refine (H1.out _).mono ?_
          rintro e w1 ⟨rfl, rfl⟩
          go_wp2_with fail
          refine (H3.out _).mono ?_
          rintro e w2 ⟨rfl, rfl⟩
          go_wp2_with fail
          refine bodyPost_ret (results_pv (x := ⟨[], 0, 0, []⟩) rfl _ _ rfl (CBox.new _ _ _)) rfl ?_
          exact ⟨rfl, below_one _ _⟩
        · have b1' : (d.length : Int) ≤ 12 := by omega
          by_cases b2 : d2.length < 1
          · have b2' : (d2.length : Int) < 1 := by omega
            clear hb
            go_enter Tryz.func88, Tryz.ntmps88
            go_wp2_with fail
            refine (H1.out _).mono ?_
            rintro e w1 ⟨rfl, rfl⟩
            go_wp2_with fail
            refine (H3.out _).mono ?_
            rintro e w2 ⟨rfl, rfl⟩
            go_wp2_with fail
            refine bodyPost_ret (results_pv (x := ⟨[], 0, 0, []⟩) rfl _ _ rfl (CBox.new _ _ _)) rfl ?_
            exact ⟨rfl, below_one _ _⟩
          · have b2' : (1 : Int) ≤ (d2.length : Int) := by omega
            have b3' : (3 : Int) < (d2.length : Int) := by omega
            clear hb
            go_enter Tryz.func88, Tryz.ntmps88
            go_wp2_with fail
            refine (H1.out _).mono ?_
            rintro e w1 ⟨rfl, rfl⟩
            go_wp2_with fail
            refine (H3.out _).mono ?_
            rintro e w2 ⟨rfl, rfl⟩
            go_wp2_with fail
            refine bodyPost_ret (results_pv (x := ⟨[], 0, 0, []⟩) rfl _ _ rfl (CBox.new _ _ _)) rfl ?_
            exact ⟨rfl, below_one _ _⟩
      · rw [if_neg hb]
        exact rdec_pos T w hs hp hq d q d2 r2 hdr hdr2 had had2 (by omega) (by omega) (by omega) (by omega) H1 H3
    · rw [if_neg hr46]
      have H2 : Hid (∀ W : World, Calls Tryz.prog 105 #[.string (bA d)] W fun e w' => e = .returned (.int .i64 (Oct.val d)) ∧ W = w') := Lib.hid (fun W => rtold_any (bA d) W had (by rw [bA_size]; omega))
      obtain ⟨V, hV⟩ : ∃ V, Oct.val d = V := ⟨_, rfl⟩
      rw [hV] at H2 hv0 hv1 ⊢
      rw [show (1 : Int) * V = V by omega]
      have hw1 : IntKind.i64.wrap V = V := IntWalk.i64_in _ (by omega)
      have hw2 : IntKind.i64.wrap (-V) = -V := IntWalk.i64_in _ (by omega)
      clear hnum had hV
      cases r with
      | nil =>
        have hx1 := ext_l' hdr
        have hx2 := ext_r' hdr
        have hdl' : ((d.length : Int) == (T.size : Int)) = true := by rw [HSZ.out]; simp
        have hle : d.length ≤ T.size := by rw [HSZ.out]; simp
        clear hdr hr46 hz
        go_enter Tryz.func88, Tryz.ntmps88
        go_wp2_with fail
        refine (H1.out _).mono ?_
        rintro e w1 ⟨rfl, rfl⟩
        go_wp2_with fail
        go_region_with (first | (go_at_call 105; refine (H2.out _).mono ?_; rintro e w' ⟨rfl, rfl⟩))
        all_goals
          go_wp2_with fail
          refine bodyPost_ret (results_pv (x := Sf.kv 1 V []) rfl _ _ rfl ((CBox.new _ _ _).drew)) rfl ?_
          exact ⟨rfl, (below_one _ _).drew⟩
      | cons c r =>
        have hx1 := ext_l' hdr
        have hx2 := ext_r' hdr
        have hlt : d.length < T.size := by rw [HSZ.out]; simp
        have hdl' : ((d.length : Int) == (T.size : Int)) = false := by simp; omega
        have hat : (((T[d.length]'hlt).toNat : Int) != 46) = true := by rw [at_r' hdr hlt]; simpa using byte_off (d := 46) hr46
        clear hdr hr46 hz
        go_enter Tryz.func88, Tryz.ntmps88
        go_wp2_with fail
        refine (H1.out _).mono ?_
        rintro e w1 ⟨rfl, rfl⟩
        go_wp2_with fail
        go_region_with (first | (go_at_call 105; refine (H2.out _).mono ?_; rintro e w' ⟨rfl, rfl⟩))
        all_goals
          go_wp2_with fail
          refine bodyPost_ret (results_pv (x := Sf.kv 1 V []) rfl _ _ rfl ((CBox.new _ _ _).drew)) rfl ?_
          exact ⟨rfl, (below_one _ _).drew⟩
set_option maxHeartbeats 4000000 in
set_option maxRecDepth 20000 in
theorem rnumber_neg (S T : ByteArray) (w : World) (hS : S.size ≤ 1000000) (hp : 0 < S.size) (hq : ((S[0].toNat : Int) == 45) = true) (hT : S.extract 1 S.size = T) (hs : T.size ≤ 1000000) : Calls Tryz.prog 88 #[.string S] w fun e w' => e = .returned (rvalV (Sf.num (-1) T.data.toList)) ∧ Below w.heap.size w w' := by
  obtain ⟨d, hd⟩ : ∃ d, Sf.tw Oct.digitI T.data.toList = d := ⟨_, rfl⟩
  obtain ⟨r, hr⟩ : ∃ r, Sf.dw Oct.digitI T.data.toList = r := ⟨_, rfl⟩
  have hdr : d ++ r = T.data.toList := by rw [← hd, ← hr]; exact tw_dw _ _
  have had : Oct.allB Oct.digitI d = true := by rw [← hd]; exact Sf.tw_all _ _
  have H1 : Hid (∀ W : World, Calls Tryz.prog 104 #[.string T] W fun e w' => e = .returned (.int .i64 d.length) ∧ W = w') := Lib.hid (fun W => by have := rdigits_of T W (by unfold maxLen; omega); rw [hd] at this; exact this)
  have hnum : Sf.num (-1) T.data.toList = if d.length = 0 ∨ 15 < d.length then none else if r.headD 0 = 46 then (if 12 < d.length ∨ (Sf.tw Oct.digitI (r.drop 1)).length < 1 ∨ 3 < (Sf.tw Oct.digitI (r.drop 1)).length then none else some (Sf.kv 2 ((-1) * (Oct.val (d ++ Sf.tw Oct.digitI (r.drop 1)) * 10 ^ (3 - (Sf.tw Oct.digitI (r.drop 1)).length))) [], Sf.dw Oct.digitI (r.drop 1))) else some (Sf.kv 1 ((-1) * Oct.val d) [], r) := by unfold Sf.num; rw [hd, hr]
  have HSZ := Lib.hid (size_of hdr)
  clear hd hr
  by_cases hz : d.length = 0 ∨ 15 < d.length
  · rw [hnum, if_pos hz]
    clear hnum had hdr
    go_enter Tryz.func88, Tryz.ntmps88
    go_wp2_with fail
    refine (H1.out _).mono ?_
    rintro e w1 ⟨rfl, rfl⟩
    rcases hz with hz | hz
    · rw [hz]
      go_wp2_with fail
      refine bodyPost_ret (results_pv (x := ⟨[], 0, 0, []⟩) rfl _ _ rfl (CBox.new _ _ _)) rfl ?_
      exact ⟨rfl, below_one _ _⟩
    · have hz' : (15 : Int) < (d.length : Int) := by omega
      have hz2 : ((d.length : Int) == 0) = false := by simp; intro h; rw [h] at hz; simp at hz
      go_wp2_with fail
      refine bodyPost_ret (results_pv (x := ⟨[], 0, 0, []⟩) rfl _ _ rfl (CBox.new _ _ _)) rfl ?_
      exact ⟨rfl, below_one _ _⟩
  · rw [hnum, if_neg hz]
    have hz1 : ((d.length : Int) == 0) = false := by simp; intro h; rw [h] at hz; simp at hz
    have hz2 : (d.length : Int) ≤ 15 := by omega
    have hv0 := Oct.val_nonneg _ had
    have hv1 : Oct.val d ≤ 999999999999999 := by have := Sf.val_bound had 15 (by omega); omega
    by_cases hr46 : r.headD 0 = 46
    · rw [if_pos hr46]
      obtain ⟨q, rfl⟩ : ∃ q, r = 46 :: q := by
        cases r with
        | nil => cases hr46
        | cons c q => exact ⟨q, by rw [show c = 46 from hr46]⟩
      rw [show (46 :: q : List UInt8).drop 1 = q from rfl]
      obtain ⟨d2, hd2⟩ : ∃ d2, Sf.tw Oct.digitI q = d2 := ⟨_, rfl⟩
      obtain ⟨r2, hr2⟩ : ∃ r2, Sf.dw Oct.digitI q = r2 := ⟨_, rfl⟩
      have had2 : Oct.allB Oct.digitI d2 = true := by rw [← hd2]; exact Sf.tw_all _ _
      have hdr2 : d2 ++ r2 = q := by rw [← hd2, ← hr2]; exact tw_dw _ _
      have hql : q.length ≤ 1000000 := by have := HSZ.out; simp at this; omega
      have H3 : Hid (∀ W : World, Calls Tryz.prog 104 #[.string (bA q)] W fun e w' => e = .returned (.int .i64 d2.length) ∧ W = w') := Lib.hid (fun W => by have := rdigits_of (bA q) W (by rw [bA_size]; unfold maxLen; omega); rw [show (bA q).data.toList = q from rfl, hd2] at this; exact this)
      rw [hd2, hr2]
      have hlt : d.length < T.size := by rw [HSZ.out]; simp
      have hdl' : ((d.length : Int) == (T.size : Int)) = false := by simp; omega
      have hat : (((T[d.length]'hlt).toNat : Int) != 46) = false := by rw [at_r' hdr hlt]; rfl
      have hx1 := ext_l' hdr
      have hx3 := ext_s' hdr
      clear hnum hr46 hd2 hr2
      by_cases hb : 12 < d.length ∨ d2.length < 1 ∨ 3 < d2.length
      · rw [if_pos hb]
        clear had had2 hdr hdr2 hz
        by_cases b1 : 12 < d.length
        · have b1' : (12 : Int) < (d.length : Int) := by omega
          clear hb
          go_enter Tryz.func88, Tryz.ntmps88
          go_wp2_with fail
          refine (H1.out _).mono ?_
          rintro e w1 ⟨rfl, rfl⟩
          go_wp2_with fail
          refine (H3.out _).mono ?_
          rintro e w2 ⟨rfl, rfl⟩
          go_wp2_with fail
          refine bodyPost_ret (results_pv (x := ⟨[], 0, 0, []⟩) rfl _ _ rfl (CBox.new _ _ _)) rfl ?_
          exact ⟨rfl, below_one _ _⟩
        · have b1' : (d.length : Int) ≤ 12 := by omega
          by_cases b2 : d2.length < 1
          · have b2' : (d2.length : Int) < 1 := by omega
            clear hb
            go_enter Tryz.func88, Tryz.ntmps88
            go_wp2_with fail
            refine (H1.out _).mono ?_
            rintro e w1 ⟨rfl, rfl⟩
            go_wp2_with fail
            refine (H3.out _).mono ?_
            rintro e w2 ⟨rfl, rfl⟩
            go_wp2_with fail
            refine bodyPost_ret (results_pv (x := ⟨[], 0, 0, []⟩) rfl _ _ rfl (CBox.new _ _ _)) rfl ?_
            exact ⟨rfl, below_one _ _⟩
          · have b2' : (1 : Int) ≤ (d2.length : Int) := by omega
            have b3' : (3 : Int) < (d2.length : Int) := by omega
            clear hb
            go_enter Tryz.func88, Tryz.ntmps88
            go_wp2_with fail
            refine (H1.out _).mono ?_
            rintro e w1 ⟨rfl, rfl⟩
            go_wp2_with fail
            refine (H3.out _).mono ?_
            rintro e w2 ⟨rfl, rfl⟩
            go_wp2_with fail
            refine bodyPost_ret (results_pv (x := ⟨[], 0, 0, []⟩) rfl _ _ rfl (CBox.new _ _ _)) rfl ?_
            exact ⟨rfl, below_one _ _⟩
      · rw [if_neg hb]
        exact rdec_neg S T w hS hp hq hT hs d q d2 r2 hdr hdr2 had had2 (by omega) (by omega) (by omega) (by omega) H1 H3
    · rw [if_neg hr46]
      have H2 : Hid (∀ W : World, Calls Tryz.prog 105 #[.string (bA d)] W fun e w' => e = .returned (.int .i64 (Oct.val d)) ∧ W = w') := Lib.hid (fun W => rtold_any (bA d) W had (by rw [bA_size]; omega))
      obtain ⟨V, hV⟩ : ∃ V, Oct.val d = V := ⟨_, rfl⟩
      rw [hV] at H2 hv0 hv1 ⊢
      rw [show (-1 : Int) * V = -V by omega]
      have hw1 : IntKind.i64.wrap V = V := IntWalk.i64_in _ (by omega)
      have hw2 : IntKind.i64.wrap (-V) = -V := IntWalk.i64_in _ (by omega)
      clear hnum had hV
      cases r with
      | nil =>
        have hx1 := ext_l' hdr
        have hx2 := ext_r' hdr
        have hdl' : ((d.length : Int) == (T.size : Int)) = true := by rw [HSZ.out]; simp
        have hle : d.length ≤ T.size := by rw [HSZ.out]; simp
        clear hdr hr46 hz
        go_enter Tryz.func88, Tryz.ntmps88
        go_wp2_with fail
        refine (H1.out _).mono ?_
        rintro e w1 ⟨rfl, rfl⟩
        go_wp2_with fail
        go_region_with (first | (go_at_call 105; refine (H2.out _).mono ?_; rintro e w' ⟨rfl, rfl⟩))
        all_goals
          go_wp2_with fail
          refine bodyPost_ret (results_pv (x := Sf.kv 1 (-V) []) rfl _ _ rfl ((CBox.new _ _ _).drew)) rfl ?_
          exact ⟨rfl, (below_one _ _).drew⟩
      | cons c r =>
        have hx1 := ext_l' hdr
        have hx2 := ext_r' hdr
        have hlt : d.length < T.size := by rw [HSZ.out]; simp
        have hdl' : ((d.length : Int) == (T.size : Int)) = false := by simp; omega
        have hat : (((T[d.length]'hlt).toNat : Int) != 46) = true := by rw [at_r' hdr hlt]; simpa using byte_off (d := 46) hr46
        clear hdr hr46 hz
        go_enter Tryz.func88, Tryz.ntmps88
        go_wp2_with fail
        refine (H1.out _).mono ?_
        rintro e w1 ⟨rfl, rfl⟩
        go_wp2_with fail
        go_region_with (first | (go_at_call 105; refine (H2.out _).mono ?_; rintro e w' ⟨rfl, rfl⟩))
        all_goals
          go_wp2_with fail
          refine bodyPost_ret (results_pv (x := Sf.kv 1 (-V) []) rfl _ _ rfl ((CBox.new _ _ _).drew)) rfl ?_
          exact ⟨rfl, (below_one _ _).drew⟩
end Go.Proofs.YtgddmihojladfaaGreatDoor
