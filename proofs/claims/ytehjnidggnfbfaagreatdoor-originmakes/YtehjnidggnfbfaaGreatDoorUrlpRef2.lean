/- The contract of the document's clean. -/
import Derived.Test.YtehjnidggnfbfaaGreatDoorUrlpRef1
import Derived.Test.YtehjnidggnfbfaaGreatDoorUrlpText
import Derived.Test.YtehjnidggnfbfaaGreatDoorOctAll
namespace Go.Proofs.YtehjnidggnfbfaaGreatDoor
open Go.RowKit

theorem segs_cons (p : List UInt8) : Urp.segs (47 :: p) = [] :: Urp.segs p := by
  have := Oct.split_glue (fun x => x == 47) [] p 47 (by rfl)
  exact this
theorem segs_nil : Urp.segs [] = [[]] := rfl
/-- Texts, each behind a stroke. -/
def flat (ks : List (List UInt8)) : List UInt8 := (ks.map fun k => 47 :: k).flatten
theorem flat_snoc (ks : List (List UInt8)) (x : List UInt8) : flat (ks ++ [x]) = flat ks ++ 47 :: x := by simp [flat]
theorem flat_join : ∀ ks : List (List UInt8), ks ≠ [] → flat ks = 47 :: Oct.join 47 ks
  | [], h => absurd rfl h
  | [p], _ => by simp [flat, Oct.join]
  | p :: q :: r, _ => by
    have := flat_join (q :: r) (by simp)
    have e : flat (p :: q :: r) = 47 :: p ++ flat (q :: r) := by simp [flat]
    rw [e, this]
    simp [Oct.join]
theorem flat_take (ks : List (List UInt8)) (i : Nat) (h : i < ks.length) : flat (ks.take (i + 1)) = flat (ks.take i) ++ [47] ++ ks[i] := by
  rw [List.take_succ_eq_append_getElem h, flat_snoc]; simp
theorem flat_len (ks : List (List UInt8)) : (flat ks).length = Urp.wt ks := by
  induction ks with
  | nil => rfl
  | cons x r ih => rw [Urp.wt_cons, ← ih]; simp [flat]; omega
theorem wt_take (ks : List (List UInt8)) (i : Nat) : Urp.wt (ks.take i) ≤ Urp.wt ks := by
  have := Urp.wt_append (ks.take i) (ks.drop i)
  rw [List.take_append_drop] at this; omega
theorem wt_mem (ks : List (List UInt8)) (i : Nat) (h : i < ks.length) : ks[i].length ≤ Urp.wt ks := by
  have e : ks = ks.take i ++ ks[i] :: ks.drop (i + 1) := by
    have := List.take_append_drop i ks
    rw [List.drop_eq_getElem_cons h] at this
    exact this.symm
  have := Urp.wt_append (ks.take i) (ks[i] :: ks.drop (i + 1))
  rw [← e, Urp.wt_cons] at this; omega

set_option maxHeartbeats 8000000 in
set_option maxRecDepth 100000 in
theorem rclean_any (pth p : List UInt8) (w : World) (hp : pth.length ≤ 4000) (hc : (pth = [] ∧ p = []) ∨ pth = 47 :: p) : Calls Tryz.prog 78 #[.string (bA pth)] w fun e w' => e = .returned (.string (bA (Urp.pathOf p))) ∧ Below w.heap.size w w' := by
  have hsp : Calls Tryz.prog 37 #[.string (bA pth), .int .u8 47] w (RetTexts w (Urp.segs pth)) := rsplit_any (bA pth) 47 w (by rw [bA_size]; omega)
  have hpl : p.length ≤ 4000 := by rcases hc with ⟨_, rfl⟩ | rfl <;> simp at hp ⊢ <;> omega
  have hwt : Urp.wt (Urp.walk [] (Urp.segs p)) ≤ 4001 := by
    have h := Urp.wt_walk (Urp.segs p) []
    rw [Urp.wt_segs, Urp.wt_nil] at h; omega
  have hne := Urp.walk_segs_ne p
  have hpa : Urp.pathOf p = flat (Urp.walk [] (Urp.segs p)) := by rw [flat_join _ hne]; rfl
  rw [hpa]
  have HSP := Lib.hid hsp
  have HWT := Lib.hid hwt
  clear hsp hne hpa hwt
  obtain ⟨i0, hi, hz0, hz1, hz2⟩ := info_parts info_string
  have HI := Lib.hid hi; have HZ0 := Lib.hid hz0; have HZ1 := Lib.hid hz1; have HZ2 := Lib.hid hz2
  clear hi hz0 hz1 hz2
  go_enter Tryz.func78, Tryz.ntmps78
  go_wp2_with fail
  refine HSP.out.mono ?_
  rintro e w1 ⟨v1, rfl, hb1, hown1⟩
  rcases hc with ⟨rfl, rfl⟩ | rfl
  · rw [segs_nil] at hown1
    rcases owns_view2 hown1 with ⟨rfl, h0⟩ | ⟨g0, cap0, rfl, hcap0, _, _, _⟩
    · cases h0
    have hsz1 := hb1.size
    go_wp2_with (at_builtin; refine wpList_append_own _ rfl _ _ 33 rfl w.heap.size 9 i0 (.string ⟨#[]⟩) 1 16 Tryz.underlying33 HI.out HZ0.out HZ1.out HZ2.out rfl (by decide) _ _ _ rfl (hown1.alloc _) ⟨w1.heap.size, 0, none⟩ 1 1 [.string (bA ([] : List UInt8))] rfl rfl ?_ ?_ ?_ ?_ ?_ ?_)
    all_goals first
      | exact one_cell _ _ _
      | exact one_ok _
      | rfl
      | (unfold maxLen; simp; done)
      | (simp; done)
      | (simp; omega)
      | skip
    intro v2 W1 hown2 hgrow _
    have hbW : Below w.heap.size w W1 := (hb1.alloc hb1.size _).grown hgrow (by simp; omega) (fun g hg => (hown1.lt g hg).1)
    have hownQ : W1.ownsRow w.heap.size 9 1 v2 ([[], []] : List (List UInt8)).length (([[], []] : List (List UInt8)).map Oct.strV) := hown2
    obtain ⟨qs, hqs⟩ : ∃ qs : List (List UInt8), qs = [[], []] := ⟨_, rfl⟩
    have HQ : Hid (qs.drop 1 = Urp.segs []) := Lib.hid (by rw [hqs]; rfl)
    have hq1 : 1 ≤ qs.length := by rw [hqs]; decide
    have hq2 : qs.length ≤ 4002 := by rw [hqs]; decide
    rw [← hqs] at hownQ
    clear hqs hown2 hgrow hown1 hcap0
    rcases owns_view2 hownQ with ⟨rfl, h0⟩ | ⟨g, cap, rfl, hcap, hg, _, hcells⟩
    · exfalso; rw [h0] at hq1; simp at hq1
    have HCE := Lib.hid hcells
    clear hownQ hcells
    go_wp2_with fail
    go_loopw [4, 5] (fun v i wr => ∃ (k : Nat) (ks : List (List UInt8)), 1 ≤ k ∧ k ≤ qs.length ∧ i = .int .i64 k ∧ RvInv W1 wr qs (Urp.walk [] (qs.drop 1)) ks k v) (fun _ i _ => qs.length - (intOf i).toNat)
    case atStart => exact ⟨1, [], by omega, hq1, rfl, Below.refl _ _, World.ownsRow_nil _ _ _ _, by simp, rfl⟩
    case round =>
      obtain ⟨k, ks, hk1, hk, rfl, hin⟩ := hrel
      by_cases hlt : k < qs.length
      · obtain ⟨hbel, hown, hle, hgo⟩ := hin
        have hsz := hbel.size
        have hce : wr.cell? ⟨g, k, none⟩ = some (.string (bA qs[k])) := by
          rw [hbel.cell (p := ⟨g, k, none⟩) hg]; exact HCE.out k hlt
        obtain ⟨x, hx⟩ : ∃ x, qs[k] = x := ⟨_, rfl⟩
        rw [hx] at hce
        have HX := Lib.hid hx
        have HGO := Lib.hid hgo
        clear hx hgo
        by_cases hd2 : x = [46, 46]
        · have hd2' : (x == [46, 46]) = true := beq_iff_eq.2 hd2
          obtain ⟨kd, hkd⟩ : ∃ kd, ks.dropLast = kd := ⟨_, rfl⟩
          have hkl : kd.length ≤ k := by rw [← hkd, List.length_dropLast]; omega
          by_cases hl : k + 1 = qs.length
          · have hl' : ((k : Int) == (qs.length : Int) - 1) = true := by rw [beq_iff_eq]; omega
            have hst : Urp.stepC (decide (k + 1 = qs.length)) ks qs[k] = kd ++ [[]] := by rw [HX.out, dec_t hl, hd2, ← hkd]; rfl
            have HST := Lib.hid hst
            have hps := owns_pops hown
            rw [hkd] at hps
            clear hst hkd hd2
            rcases hps with ⟨rfl, _, hp⟩ | ⟨g2, cap2, rfl, _, hp⟩ | ⟨g2, cap2, m, rfl, hm, hc2, hp⟩
            · clear hown
              go_wp2_with (at_builtin; refine wpList_append_own _ rfl _ _ 33 rfl W1.heap.size 9 i0 (.string ⟨#[]⟩) 1 16 Tryz.underlying33 HI.out HZ0.out HZ1.out HZ2.out rfl (by decide) _ _ _ rfl (hp.alloc _) ⟨wr.heap.size, 0, none⟩ 1 1 [.string (bA ([] : List UInt8))] rfl rfl ?_ ?_ ?_ ?_ ?_ ?_)
              all_goals first
                | exact one_cell _ _ _
                | exact one_ok _
                | rfl
                | (unfold maxLen; omega)
                | omega
                | (simp; done)
                | (simp; omega)
                | (intro v' w2 hown' hgrow _
                   have hD := rv_push (ks := ks) (ks' := kd) (x := ([] : List UInt8)) hbel hlt HGO.out HST.out hkl hp hown' hgrow
                   clear hown' hgrow
                   go_wp2_with fail
                   go_roundw
                   case rel => exact ⟨k + 1, _, by omega, by omega, by go_num, hD⟩
                   case measure => simp [intOf]; omega)
            · clear hown
              go_wp2_with (at_builtin; refine wpList_append_own _ rfl _ _ 33 rfl W1.heap.size 9 i0 (.string ⟨#[]⟩) 1 16 Tryz.underlying33 HI.out HZ0.out HZ1.out HZ2.out rfl (by decide) _ _ _ rfl (hp.alloc _) ⟨wr.heap.size, 0, none⟩ 1 1 [.string (bA ([] : List UInt8))] rfl rfl ?_ ?_ ?_ ?_ ?_ ?_)
              all_goals first
                | exact one_cell _ _ _
                | exact one_ok _
                | rfl
                | (unfold maxLen; omega)
                | omega
                | (simp; done)
                | (simp; omega)
                | (intro v' w2 hown' hgrow _
                   have hD := rv_push (ks := ks) (ks' := kd) (x := ([] : List UInt8)) hbel hlt HGO.out HST.out hkl hp hown' hgrow
                   clear hown' hgrow
                   go_wp2_with fail
                   go_roundw
                   case rel => exact ⟨k + 1, _, by omega, by omega, by go_num, hD⟩
                   case measure => simp [intOf]; omega)
            · clear hown
              obtain ⟨vp, hvp, hpo⟩ := pop_slice g2 cap2 (m + 1) m (by omega)
              rw [← hvp] at hp
              clear hvp
              go_wp2_with (at_builtin; refine wpList_append_own _ rfl _ _ 33 rfl W1.heap.size 9 i0 (.string ⟨#[]⟩) 1 16 Tryz.underlying33 HI.out HZ0.out HZ1.out HZ2.out rfl (by decide) _ _ _ rfl (hp.alloc _) ⟨wr.heap.size, 0, none⟩ 1 1 [.string (bA ([] : List UInt8))] rfl rfl ?_ ?_ ?_ ?_ ?_ ?_)
              all_goals first
                | exact one_cell _ _ _
                | exact one_ok _
                | rfl
                | (unfold maxLen; omega)
                | omega
                | (simp; done)
                | (simp; omega)
                | (intro v' w2 hown' hgrow _
                   have hD := rv_push (ks := ks) (ks' := kd) (x := ([] : List UInt8)) hbel hlt HGO.out HST.out hkl hp hown' hgrow
                   clear hown' hgrow
                   go_wp2_with fail
                   go_roundw
                   case rel => exact ⟨k + 1, _, by omega, by omega, by go_num, hD⟩
                   case measure => simp [intOf]; omega)
          · have hl' : ((k : Int) == (qs.length : Int) - 1) = false := by rw [beq_eq_false_iff_ne]; omega
            have hst : Urp.stepC (decide (k + 1 = qs.length)) ks qs[k] = ks.dropLast := by rw [HX.out, dec_f hl, hd2]; rfl
            have HST := Lib.hid hst
            clear hst hkl hkd
            rcases owns_pops hown with ⟨rfl, _, hp⟩ | ⟨g2, cap2, rfl, _, hp⟩ | ⟨g2, cap2, m, rfl, hm, hc2, hp⟩
            all_goals
              clear hd2 hown
              have hD := rv_pop hbel hlt HGO.out HST.out hle hp
              go_wp2_with fail
              go_roundw
              case rel => exact ⟨k + 1, _, by omega, by omega, by go_num, hD⟩
              case measure => simp [intOf]; omega
        · have hd2' : (x == [46, 46]) = false := beq_eq_false_iff_ne.2 hd2
          by_cases hd1 : x = [46]
          · have hd1' : (x == [46]) = true := beq_iff_eq.2 hd1
            by_cases hl : k + 1 = qs.length
            · have hl' : ((k : Int) == (qs.length : Int) - 1) = true := by rw [beq_iff_eq]; omega
              have hst : Urp.stepC (decide (k + 1 = qs.length)) ks qs[k] = ks ++ [[]] := by rw [HX.out, dec_t hl, hd1]; rfl
              have HST := Lib.hid hst
              clear hst hd1 hd2
              go_wp2_with (at_builtin; refine wpList_append_own _ rfl _ _ 33 rfl W1.heap.size 9 i0 (.string ⟨#[]⟩) 1 16 Tryz.underlying33 HI.out HZ0.out HZ1.out HZ2.out rfl (by decide) _ _ _ rfl (hown.alloc _) ⟨wr.heap.size, 0, none⟩ 1 1 [.string (bA ([] : List UInt8))] rfl rfl ?_ ?_ ?_ ?_ ?_ ?_)
              all_goals first
                | exact one_cell _ _ _
                | exact one_ok _
                | rfl
                | (unfold maxLen; omega)
                | omega
                | (simp; done)
                | (simp; omega)
                | (intro v' w2 hown' hgrow _
                   have hD := rv_push (ks := ks) (ks' := ks) (x := ([] : List UInt8)) hbel hlt HGO.out HST.out hle hown hown' hgrow
                   clear hown' hgrow
                   go_wp2_with fail
                   go_roundw
                   case rel => exact ⟨k + 1, _, by omega, by omega, by go_num, hD⟩
                   case measure => simp [intOf]; omega)
            · have hl' : ((k : Int) == (qs.length : Int) - 1) = false := by rw [beq_eq_false_iff_ne]; omega
              have hst : Urp.stepC (decide (k + 1 = qs.length)) ks qs[k] = ks := by rw [HX.out, dec_f hl, hd1]; rfl
              have hD := RvInv.keep ⟨hbel, hown, hle, HGO.out⟩ hlt hst
              clear hst hd1 hd2
              go_wp2_with fail
              go_roundw
              case rel => exact ⟨k + 1, _, by omega, by omega, by go_num, hD⟩
              case measure => simp [intOf]; omega
          · have hd1' : (x == [46]) = false := beq_eq_false_iff_ne.2 hd1
            have hst : Urp.stepC (decide (k + 1 = qs.length)) ks qs[k] = ks ++ [x] := by rw [HX.out]; exact Urp.step_x _ ks x hd2 hd1
            have HST := Lib.hid hst
            clear hst hd1 hd2
            go_wp2_with (at_builtin; refine wpList_append_own _ rfl _ _ 33 rfl W1.heap.size 9 i0 (.string ⟨#[]⟩) 1 16 Tryz.underlying33 HI.out HZ0.out HZ1.out HZ2.out rfl (by decide) _ _ _ rfl (hown.alloc _) ⟨wr.heap.size, 0, none⟩ 1 1 [.string (bA x)] rfl rfl ?_ ?_ ?_ ?_ ?_ ?_)
            all_goals first
              | exact one_cell _ _ _
              | exact one_ok _
              | rfl
              | (unfold maxLen; omega)
              | omega
              | (simp; done)
              | (simp; omega)
              | (intro v' w2 hown' hgrow _
                 have hD := rv_push (ks := ks) (ks' := ks) (x := x) hbel hlt HGO.out HST.out hle hown hown' hgrow
                 clear hown' hgrow
                 go_wp2_with fail
                 go_roundw
                 case rel => exact ⟨k + 1, _, by omega, by omega, by go_num, hD⟩
                 case measure => simp [intOf]; omega)
      · obtain rfl : k = qs.length := by omega
        obtain ⟨hbel, hown, hle, hgo⟩ := hin
        rw [Urp.walk_end qs ks qs.length (Nat.le_refl _), HQ.out] at hgo
        have HGO := Lib.hid hgo
        have HW : Hid (Urp.wt ks ≤ 4001) := Lib.hid (by rw [hgo]; exact HWT.out)
        have hkn : ks ≠ [] := by rw [hgo]; exact Urp.walk_segs_ne _
        rcases owns_view2 hown with ⟨rfl, h0⟩ | ⟨g2, cap2, rfl, hcap2, hg2, _, hcells2⟩
        · exact absurd h0 hkn
        have HC2 := Lib.hid hcells2
        clear hcells2 hown hgo hkn
        have hkl : ks.length ≤ 4002 := by omega
        go_wp2_with fail
        go_loop [6, 7] (fun t i => ∃ j : Nat, j ≤ ks.length ∧ i = .int .i64 j ∧ t = .string (bA (flat (ks.take j)))) (fun _ i => ks.length - (intOf i).toNat)
        case atStart => exact ⟨0, by omega, rfl, rfl⟩
        case round =>
          obtain ⟨j, hj, rfl, rfl⟩ := hrel
          by_cases hjl : j < ks.length
          · have hce := HC2.out j hjl
            unfold Oct.strV at hce
            have hft := flat_take ks j hjl
            have hl1 : (flat (ks.take j)).length ≤ 4001 := by have h1 := wt_take ks j; have h2 := HW.out; rw [flat_len]; omega
            have hl2 : ks[j].length ≤ 4001 := by have h1 := wt_mem ks j hjl; have h2 := HW.out; omega
            obtain ⟨x, hx⟩ : ∃ x, ks[j] = x := ⟨_, rfl⟩
            obtain ⟨t, ht⟩ : ∃ t, flat (ks.take j) = t := ⟨_, rfl⟩
            rw [hx] at hce hft hl2
            rw [ht] at hft hl1 ⊢
            have HF := Lib.hid hft
            clear hx ht hft
            go_wp2_with fail
            go_round
            case rel => exact ⟨j + 1, by omega, by go_num, by rw [HF.out, ← bA_app, ← bA_app]⟩
            case measure => simp [intOf]; omega
          · obtain rfl : j = ks.length := by omega
            go_wp2_with fail
            go_ret
            exact ⟨by rw [← HGO.out]; rfl, below_on hbW hbel⟩
  · rw [segs_cons] at hown1
    have hqlen : ([] :: Urp.segs p).length = (Urp.segs p).length + 1 := rfl
    have hsp0 : 0 < (Urp.segs p).length := Oct.split_pos _ p
    have hsl : (Urp.segs p).length ≤ 4001 := by have := Oct.split_len (fun x => x == 47) p; unfold Urp.segs; omega
    obtain ⟨qs, hqs⟩ : ∃ qs : List (List UInt8), qs = [] :: Urp.segs p := ⟨_, rfl⟩
    have HQ : Hid (qs.drop 1 = Urp.segs p) := Lib.hid (by rw [hqs]; rfl)
    have hq1 : 1 ≤ qs.length := by rw [hqs]; simp
    have hq2 : qs.length ≤ 4002 := by rw [hqs]; simp; omega
    have hq3 : ((qs.length : Int) == 1) = false := by rw [hqs, hqlen, beq_eq_false_iff_ne]; omega
    rw [← hqs] at hown1
    clear hqs hqlen hsp0 hsl
    obtain ⟨W1, hW1⟩ : ∃ W1, w1 = W1 := ⟨_, rfl⟩
    rw [hW1] at hb1 hown1 ⊢
    clear hW1
    have hbW := hb1
    have hownQ := hown1
    clear hb1 hown1
    rcases owns_view2 hownQ with ⟨rfl, h0⟩ | ⟨g, cap, rfl, hcap, hg, _, hcells⟩
    · exfalso; rw [h0] at hq1; simp at hq1
    have HCE := Lib.hid hcells
    clear hownQ hcells
    go_wp2_with fail
    go_loopw [4, 5] (fun v i wr => ∃ (k : Nat) (ks : List (List UInt8)), 1 ≤ k ∧ k ≤ qs.length ∧ i = .int .i64 k ∧ RvInv W1 wr qs (Urp.walk [] (qs.drop 1)) ks k v) (fun _ i _ => qs.length - (intOf i).toNat)
    case atStart => exact ⟨1, [], by omega, hq1, rfl, Below.refl _ _, World.ownsRow_nil _ _ _ _, by simp, rfl⟩
    case round =>
      obtain ⟨k, ks, hk1, hk, rfl, hin⟩ := hrel
      by_cases hlt : k < qs.length
      · obtain ⟨hbel, hown, hle, hgo⟩ := hin
        have hsz := hbel.size
        have hce : wr.cell? ⟨g, k, none⟩ = some (.string (bA qs[k])) := by
          rw [hbel.cell (p := ⟨g, k, none⟩) hg]; exact HCE.out k hlt
        obtain ⟨x, hx⟩ : ∃ x, qs[k] = x := ⟨_, rfl⟩
        rw [hx] at hce
        have HX := Lib.hid hx
        have HGO := Lib.hid hgo
        clear hx hgo
        by_cases hd2 : x = [46, 46]
        · have hd2' : (x == [46, 46]) = true := beq_iff_eq.2 hd2
          obtain ⟨kd, hkd⟩ : ∃ kd, ks.dropLast = kd := ⟨_, rfl⟩
          have hkl : kd.length ≤ k := by rw [← hkd, List.length_dropLast]; omega
          by_cases hl : k + 1 = qs.length
          · have hl' : ((k : Int) == (qs.length : Int) - 1) = true := by rw [beq_iff_eq]; omega
            have hst : Urp.stepC (decide (k + 1 = qs.length)) ks qs[k] = kd ++ [[]] := by rw [HX.out, dec_t hl, hd2, ← hkd]; rfl
            have HST := Lib.hid hst
            have hps := owns_pops hown
            rw [hkd] at hps
            clear hst hkd hd2
            rcases hps with ⟨rfl, _, hp⟩ | ⟨g2, cap2, rfl, _, hp⟩ | ⟨g2, cap2, m, rfl, hm, hc2, hp⟩
            · clear hown
              go_wp2_with (at_builtin; refine wpList_append_own _ rfl _ _ 33 rfl W1.heap.size 9 i0 (.string ⟨#[]⟩) 1 16 Tryz.underlying33 HI.out HZ0.out HZ1.out HZ2.out rfl (by decide) _ _ _ rfl (hp.alloc _) ⟨wr.heap.size, 0, none⟩ 1 1 [.string (bA ([] : List UInt8))] rfl rfl ?_ ?_ ?_ ?_ ?_ ?_)
              all_goals first
                | exact one_cell _ _ _
                | exact one_ok _
                | rfl
                | (unfold maxLen; omega)
                | omega
                | (simp; done)
                | (simp; omega)
                | (intro v' w2 hown' hgrow _
                   have hD := rv_push (ks := ks) (ks' := kd) (x := ([] : List UInt8)) hbel hlt HGO.out HST.out hkl hp hown' hgrow
                   clear hown' hgrow
                   go_wp2_with fail
                   go_roundw
                   case rel => exact ⟨k + 1, _, by omega, by omega, by go_num, hD⟩
                   case measure => simp [intOf]; omega)
            · clear hown
              go_wp2_with (at_builtin; refine wpList_append_own _ rfl _ _ 33 rfl W1.heap.size 9 i0 (.string ⟨#[]⟩) 1 16 Tryz.underlying33 HI.out HZ0.out HZ1.out HZ2.out rfl (by decide) _ _ _ rfl (hp.alloc _) ⟨wr.heap.size, 0, none⟩ 1 1 [.string (bA ([] : List UInt8))] rfl rfl ?_ ?_ ?_ ?_ ?_ ?_)
              all_goals first
                | exact one_cell _ _ _
                | exact one_ok _
                | rfl
                | (unfold maxLen; omega)
                | omega
                | (simp; done)
                | (simp; omega)
                | (intro v' w2 hown' hgrow _
                   have hD := rv_push (ks := ks) (ks' := kd) (x := ([] : List UInt8)) hbel hlt HGO.out HST.out hkl hp hown' hgrow
                   clear hown' hgrow
                   go_wp2_with fail
                   go_roundw
                   case rel => exact ⟨k + 1, _, by omega, by omega, by go_num, hD⟩
                   case measure => simp [intOf]; omega)
            · clear hown
              obtain ⟨vp, hvp, hpo⟩ := pop_slice g2 cap2 (m + 1) m (by omega)
              rw [← hvp] at hp
              clear hvp
              go_wp2_with (at_builtin; refine wpList_append_own _ rfl _ _ 33 rfl W1.heap.size 9 i0 (.string ⟨#[]⟩) 1 16 Tryz.underlying33 HI.out HZ0.out HZ1.out HZ2.out rfl (by decide) _ _ _ rfl (hp.alloc _) ⟨wr.heap.size, 0, none⟩ 1 1 [.string (bA ([] : List UInt8))] rfl rfl ?_ ?_ ?_ ?_ ?_ ?_)
              all_goals first
                | exact one_cell _ _ _
                | exact one_ok _
                | rfl
                | (unfold maxLen; omega)
                | omega
                | (simp; done)
                | (simp; omega)
                | (intro v' w2 hown' hgrow _
                   have hD := rv_push (ks := ks) (ks' := kd) (x := ([] : List UInt8)) hbel hlt HGO.out HST.out hkl hp hown' hgrow
                   clear hown' hgrow
                   go_wp2_with fail
                   go_roundw
                   case rel => exact ⟨k + 1, _, by omega, by omega, by go_num, hD⟩
                   case measure => simp [intOf]; omega)
          · have hl' : ((k : Int) == (qs.length : Int) - 1) = false := by rw [beq_eq_false_iff_ne]; omega
            have hst : Urp.stepC (decide (k + 1 = qs.length)) ks qs[k] = ks.dropLast := by rw [HX.out, dec_f hl, hd2]; rfl
            have HST := Lib.hid hst
            clear hst hkl hkd
            rcases owns_pops hown with ⟨rfl, _, hp⟩ | ⟨g2, cap2, rfl, _, hp⟩ | ⟨g2, cap2, m, rfl, hm, hc2, hp⟩
            all_goals
              clear hd2 hown
              have hD := rv_pop hbel hlt HGO.out HST.out hle hp
              go_wp2_with fail
              go_roundw
              case rel => exact ⟨k + 1, _, by omega, by omega, by go_num, hD⟩
              case measure => simp [intOf]; omega
        · have hd2' : (x == [46, 46]) = false := beq_eq_false_iff_ne.2 hd2
          by_cases hd1 : x = [46]
          · have hd1' : (x == [46]) = true := beq_iff_eq.2 hd1
            by_cases hl : k + 1 = qs.length
            · have hl' : ((k : Int) == (qs.length : Int) - 1) = true := by rw [beq_iff_eq]; omega
              have hst : Urp.stepC (decide (k + 1 = qs.length)) ks qs[k] = ks ++ [[]] := by rw [HX.out, dec_t hl, hd1]; rfl
              have HST := Lib.hid hst
              clear hst hd1 hd2
              go_wp2_with (at_builtin; refine wpList_append_own _ rfl _ _ 33 rfl W1.heap.size 9 i0 (.string ⟨#[]⟩) 1 16 Tryz.underlying33 HI.out HZ0.out HZ1.out HZ2.out rfl (by decide) _ _ _ rfl (hown.alloc _) ⟨wr.heap.size, 0, none⟩ 1 1 [.string (bA ([] : List UInt8))] rfl rfl ?_ ?_ ?_ ?_ ?_ ?_)
              all_goals first
                | exact one_cell _ _ _
                | exact one_ok _
                | rfl
                | (unfold maxLen; omega)
                | omega
                | (simp; done)
                | (simp; omega)
                | (intro v' w2 hown' hgrow _
                   have hD := rv_push (ks := ks) (ks' := ks) (x := ([] : List UInt8)) hbel hlt HGO.out HST.out hle hown hown' hgrow
                   clear hown' hgrow
                   go_wp2_with fail
                   go_roundw
                   case rel => exact ⟨k + 1, _, by omega, by omega, by go_num, hD⟩
                   case measure => simp [intOf]; omega)
            · have hl' : ((k : Int) == (qs.length : Int) - 1) = false := by rw [beq_eq_false_iff_ne]; omega
              have hst : Urp.stepC (decide (k + 1 = qs.length)) ks qs[k] = ks := by rw [HX.out, dec_f hl, hd1]; rfl
              have hD := RvInv.keep ⟨hbel, hown, hle, HGO.out⟩ hlt hst
              clear hst hd1 hd2
              go_wp2_with fail
              go_roundw
              case rel => exact ⟨k + 1, _, by omega, by omega, by go_num, hD⟩
              case measure => simp [intOf]; omega
          · have hd1' : (x == [46]) = false := beq_eq_false_iff_ne.2 hd1
            have hst : Urp.stepC (decide (k + 1 = qs.length)) ks qs[k] = ks ++ [x] := by rw [HX.out]; exact Urp.step_x _ ks x hd2 hd1
            have HST := Lib.hid hst
            clear hst hd1 hd2
            go_wp2_with (at_builtin; refine wpList_append_own _ rfl _ _ 33 rfl W1.heap.size 9 i0 (.string ⟨#[]⟩) 1 16 Tryz.underlying33 HI.out HZ0.out HZ1.out HZ2.out rfl (by decide) _ _ _ rfl (hown.alloc _) ⟨wr.heap.size, 0, none⟩ 1 1 [.string (bA x)] rfl rfl ?_ ?_ ?_ ?_ ?_ ?_)
            all_goals first
              | exact one_cell _ _ _
              | exact one_ok _
              | rfl
              | (unfold maxLen; omega)
              | omega
              | (simp; done)
              | (simp; omega)
              | (intro v' w2 hown' hgrow _
                 have hD := rv_push (ks := ks) (ks' := ks) (x := x) hbel hlt HGO.out HST.out hle hown hown' hgrow
                 clear hown' hgrow
                 go_wp2_with fail
                 go_roundw
                 case rel => exact ⟨k + 1, _, by omega, by omega, by go_num, hD⟩
                 case measure => simp [intOf]; omega)
      · obtain rfl : k = qs.length := by omega
        obtain ⟨hbel, hown, hle, hgo⟩ := hin
        rw [Urp.walk_end qs ks qs.length (Nat.le_refl _), HQ.out] at hgo
        have HGO := Lib.hid hgo
        have HW : Hid (Urp.wt ks ≤ 4001) := Lib.hid (by rw [hgo]; exact HWT.out)
        have hkn : ks ≠ [] := by rw [hgo]; exact Urp.walk_segs_ne _
        rcases owns_view2 hown with ⟨rfl, h0⟩ | ⟨g2, cap2, rfl, hcap2, hg2, _, hcells2⟩
        · exact absurd h0 hkn
        have HC2 := Lib.hid hcells2
        clear hcells2 hown hgo hkn
        have hkl : ks.length ≤ 4002 := by omega
        go_wp2_with fail
        go_loop [6, 7] (fun t i => ∃ j : Nat, j ≤ ks.length ∧ i = .int .i64 j ∧ t = .string (bA (flat (ks.take j)))) (fun _ i => ks.length - (intOf i).toNat)
        case atStart => exact ⟨0, by omega, rfl, rfl⟩
        case round =>
          obtain ⟨j, hj, rfl, rfl⟩ := hrel
          by_cases hjl : j < ks.length
          · have hce := HC2.out j hjl
            unfold Oct.strV at hce
            have hft := flat_take ks j hjl
            have hl1 : (flat (ks.take j)).length ≤ 4001 := by have h1 := wt_take ks j; have h2 := HW.out; rw [flat_len]; omega
            have hl2 : ks[j].length ≤ 4001 := by have h1 := wt_mem ks j hjl; have h2 := HW.out; omega
            obtain ⟨x, hx⟩ : ∃ x, ks[j] = x := ⟨_, rfl⟩
            obtain ⟨t, ht⟩ : ∃ t, flat (ks.take j) = t := ⟨_, rfl⟩
            rw [hx] at hce hft hl2
            rw [ht] at hft hl1 ⊢
            have HF := Lib.hid hft
            clear hx ht hft
            go_wp2_with fail
            go_round
            case rel => exact ⟨j + 1, by omega, by go_num, by rw [HF.out, ← bA_app, ← bA_app]⟩
            case measure => simp [intOf]; omega
          · obtain rfl : j = ks.length := by omega
            go_wp2_with fail
            go_ret
            exact ⟨by rw [← HGO.out]; rfl, below_on hbW hbel⟩
end Go.Proofs.YtehjnidggnfbfaaGreatDoor
