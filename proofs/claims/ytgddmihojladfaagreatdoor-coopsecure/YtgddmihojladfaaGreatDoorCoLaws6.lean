/- The walk of CoopSecure (written by mkcs.py). -/
import Derived.Test.YtgddmihojladfaaGreatDoorCoApp
namespace Go.Proofs.YtgddmihojladfaaGreatDoor
open Go.RowKit Go.Deep

set_option maxHeartbeats 8000000 in
set_option maxRecDepth 100000 in
theorem walk_CoopSecure (A : Option Addr) (c : Nat) (l : List Hd.Hdr) (h : Hd.Hdr) (at' : Int) (w : World) (hw : WideHs w A c l) (_hwh : WideH h) (hat : (Lit.int .i64 at').wf = true) (hrs : l.length * 32 ≤ 140737488351232) :
    Calls Tryz.prog 9 #[.slice A l.length c, .agg #[.string (bA h.name), .string (bA h.value)], .int .i64 at'] w fun e w' => e = .returned (.bool true) ∧ Below w.heap.size w w' := by
  have hl63 : l.length ≤ maxLen := hw.len
  have hm63 : l.length + 1 ≤ maxLen := by unfold maxLen; omega
  have hby1 : l.length * 32 ≤ 140737488355328 := by omega
  have hby2 : (l.length + 1) * 32 ≤ 140737488355328 := by omega
  have hnl := hw.nl
  have hcap := hw.cap
  have hln : (l ++ [h]).length = l.length + 1 := by simp
  have HB0 := Lib.hid (below_one w (.cells #[.string (bA h.name), .string (bA h.value)] 35))
  have HBX0 := Lib.hid (HBox.new w h)
  have HS0 := Lib.hid (hw.seen.below HB0.out)
  clear hw
  obtain ⟨bf, hbf⟩ : ∃ bf, lowB (l ++ [h]) = bf := ⟨_, rfl⟩
  have HBF := Lib.hid hbf
  clear hbf
  go_enter Tryz.func9, Tryz.ntmps9
  go_wp2_with fail
  refine (awake8_any _).mono ?_
  rintro e w1 ⟨rfl, hb1⟩
  have HB1 := Lib.hid (Below.onto HB0.out hb1); have HBX1 := Lib.hid (HBX0.out.below hb1); have HS1 := Lib.hid (HS0.out.below hb1)
  clear hb1
  have hb0 : Below w1.heap.size w1 w1 := Below.refl _ _
  have hse : ∀ W, Below w1.heap.size w1 W → SeenH W A l := fun W hb => HS1.out.below hb
  go_wp2_with fail
  go_region_held_law (fun w' => w'.cell? ⟨w.heap.size, 0, none⟩ = some (.string (bA h.name)) ∧ w'.cell? ⟨w.heap.size, 1, none⟩ = some (.string (bA h.value)) ∧ Below w1.heap.size w1 w')
    (first
      | exact rdy_h HBX1.out hb6
      | exact rdy_h HBX1.out (below_al hb4 _)
      | exact rdy_h HBX1.out hb4
      | exact rdy_h HBX1.out (below_al (below_al hb0.drew _) _)
      | exact rdy_h HBX1.out (below_al hb0.drew _)
      | exact rdy_h HBX1.out hb0.drew)
    (first
      | (refine step_app rfl _ _ rfl w1.heap.size _ [] l rfl (own_none (World.alloc_heap_new w1 _) (Nat.le_refl _)) A l.length c l.length rfl rfl hnl (hse _ (below_al hb0 _).drew) (Nat.zero_add _) hl63 hby1 (below_al hb0 _).drew.size ?_; intro A4 c4 w4 hown4 hg4 hs4 hbb4; have hb4 := (below_al hb0 _).drew.trans hbb4)
      | (refine step_app rfl _ _ rfl w1.heap.size _ [] l rfl (own_none (heap_first w1 _ _) (Nat.le_refl _)) A l.length c l.length rfl rfl hnl (hse _ (below_al (below_al hb0 _) _).drew) (Nat.zero_add _) hl63 hby1 (below_al (below_al hb0 _) _).drew.size ?_; intro A4 c4 w4 hown4 hg4 hs4 hbb4; have hb4 := (below_al (below_al hb0 _) _).drew.trans hbb4)
      | (refine step_app rfl _ _ rfl w1.heap.size _ [] l rfl (own_none (heap_second w1 _ _) (Nat.le_succ _)) A l.length c l.length rfl rfl hnl (hse _ (below_al (below_al hb0 _) _).drew) (Nat.zero_add _) hl63 hby1 (below_al (below_al hb0 _) _).drew.size ?_; intro A4 c4 w4 hown4 hg4 hs4 hbb4; have hb4 := (below_al (below_al hb0 _) _).drew.trans hbb4)
      | (refine step_app rfl _ _ rfl w1.heap.size _ l [h] rfl (hown4.alloc _) _ 1 _ (l.length + 1) rfl rfl (fun e => by cases e) (seen_block (World.alloc_heap_new w4 _) rfl) rfl hm63 hby2 (below_al hb4 _).size ?_; intro A6 c6 w6 hown6 hg6 hs6 hbb6; have hb6 := (below_al hb4 _).trans hbb6)
      | (refine step_app rfl _ _ rfl w1.heap.size _ l [h] rfl hown4 _ 1 _ (l.length + 1) rfl rfl (fun e => by cases e) (one_kept (heap_second w1 _ _) hg4 (fun e => Nat.succ_ne_self _ (Option.some.inj e))) rfl hm63 hby2 hb4.size ?_; intro A6 c6 w6 hown6 hg6 hs6 hbb6; have hb6 := hb4.trans hbb6)
      | (refine step_app rfl _ _ rfl w1.heap.size _ l [h] rfl hown4 _ 1 _ (l.length + 1) rfl rfl (fun e => by cases e) (one_kept (heap_first w1 _ _) hg4 (fun e => Nat.succ_ne_self _ (Option.some.inj e).symm)) rfl hm63 hby2 hb4.size ?_; intro A6 c6 w6 hown6 hg6 hs6 hbb6; have hb6 := hb4.trans hbb6)
      | (go_at_call 11; refine (low_any A6 c6 (l.length + 1) (l ++ [h]) _ hln hs6).mono ?_; rintro e w' ⟨rfl, hw'⟩; rw [hw'])
      | fail)
  all_goals
    have HB6 := Lib.hid (Below.onto HB1.out hb6)
    have HBX6 := Lib.hid (HBX1.out.below hb6)
    have HS6 := Lib.hid (hse _ hb6)
    rename_i hHeld
    have d0 := HBX6.out.c0
    clear hHeld hown4 hg4 hs4 hbb4 hb4 hown6 hg6 hs6 hbb6 hb6 hb0 hse
    rw [HBF.out]
    cases bf with
    | false =>
      go_wp2_with fail
      go_ret
      exact ⟨rfl, HB6.out⟩
    | true =>
      by_cases hl90 : l.length ≤ 90
      · have hl90z : ¬ ((90 : Int) < (l.length : Int)) := by omega
        have hsm := low_small HBF.out
        have hhn : h.name.length ≤ 10000 := (hsm.each h (by simp)).1
        have HSM := Lib.hid hsm
        have HSL : Hid (SmallH l) := Lib.hid ⟨by have := hsm.len; simp at this; omega, fun x hx => hsm.each x (by simp [hx])⟩
        have n1 := fun W (x : SeenH W A l) => coop_any A c l.length l false W rfl HSL.out x
        have n2 := fun W (x : SeenH W A l) => coep_any A c l.length l false W rfl HSL.out x
        rw [show Co.coopL l false = ⟨0, [], 0, []⟩ from rfl] at n1
        rw [show Co.coepL l false = ⟨0, [], 0, []⟩ from rfl] at n2
        unfold plV plC at n1 n2
        dsimp only at n1 n2
        have N1 := Lib.hid n1; have N2 := Lib.hid n2
        clear hsm hl90 n1 n2
        go_wp2_with fail
        refine (N1.out _ HS6.out).mono ?_
        rintro e wa ⟨rfl, hba⟩
        have HBa := Lib.hid (Below.onto HB6.out hba)
        have HBXa := Lib.hid (HBX6.out.below hba)
        have HSa := Lib.hid (HS6.out.below hba)
        clear hba d0
        go_wp2_with fail
        refine (N2.out _ HSa.out).mono ?_
        rintro e wb ⟨rfl, hbb⟩
        have HBb := Lib.hid (Below.onto HBa.out hbb)
        have HBXb := Lib.hid (HBXa.out.below hbb)
        have HSb := Lib.hid (HSa.out.below hbb)
        have d0 := HBXb.out.c0
        clear hbb
        go_wp2_with fail
        have hlw := lower_any (bA h.name) wb (by rw [bA_size]; unfold maxLen; omega)
        obtain ⟨y, hy⟩ : ∃ y, Oct.lower h.name = y := ⟨_, rfl⟩
        have hlw' : Calls Tryz.prog 25 #[.string (bA h.name)] wb fun e w' => e = .returned (.string (bA y)) ∧ Below wb.heap.size wb w' := by rw [← hy]; exact hlw
        have HY := Lib.hid hy
        clear hy hlw
        refine hlw'.mono ?_
        rintro e w7 ⟨rfl, hb7⟩
        have HB7 := Lib.hid (Below.onto HBb.out hb7)
        have HBX7 := Lib.hid (HBXb.out.below hb7)
        have HS7 := Lib.hid (HSb.out.below hb7)
        clear hb7 d0 hlw'
        cases h0 : y == Co.nO with
        | true =>
          have e0 := h0
          unfold Co.nO at e0
          clear h0
          go_wp2_with fail
          go_ret
          exact ⟨rfl, HB7.out⟩
        | false =>
          have e0 := h0
          unfold Co.nO at e0
          cases h1 : y == Co.nE with
          | true =>
            have e1 := h1
            unfold Co.nE at e1
            clear h1
            go_wp2_with fail
            go_ret
            exact ⟨rfl, HB7.out⟩
          | false =>
            have e1 := h1
            unfold Co.nE at e1
            cases h2 : y == Co.nOR with
            | true =>
              have e2 := h2
              unfold Co.nOR at e2
              clear h2
              go_wp2_with fail
              go_ret
              exact ⟨rfl, HB7.out⟩
            | false =>
              have e2 := h2
              unfold Co.nOR at e2
              cases h3 : y == Co.nER with
              | true =>
                have e3 := h3
                unfold Co.nER at e3
                clear h3
                go_wp2_with fail
                go_ret
                exact ⟨rfl, HB7.out⟩
              | false =>
                have e3 := h3
                unfold Co.nER at e3
                have HQ : Hid (y ≠ Co.nO ∧ y ≠ Co.nE ∧ y ≠ Co.nOR ∧ y ≠ Co.nER) := Lib.hid ⟨beq_eq_false_iff_ne.1 h0, beq_eq_false_iff_ne.1 h1, beq_eq_false_iff_ne.1 h2, beq_eq_false_iff_ne.1 h3⟩
                clear h0 h1 h2 h3
                have hfin : ∃ k : Nat, k ≤ l.length ∧ (at' < 0 → (wrap64 (-wrap64 (at' + 1))).tmod ((l.length : Int) + 1) = (k : Int)) ∧ (0 ≤ at' → at' % ((l.length : Int) + 1) = (k : Int)) := by
                  by_cases hneg : at' < 0
                  · obtain ⟨k, hk, hkl⟩ := tmod_neg at' l.length (bounds_i64 hat).1 hneg
                    exact ⟨k, hkl, fun _ => hk, fun h => by omega⟩
                  · obtain ⟨k, hk, hkl⟩ := emod_nat at' l.length
                    exact ⟨k, hkl, fun h => absurd h hneg, fun _ => hk⟩
                obtain ⟨k, hkl, hkn, hkp⟩ := hfin
                obtain ⟨X1, hX1, hn1', hX1s⟩ := slice_to A l.length c k hkl hcap
                obtain ⟨X2, hX2, hn2', hX2s⟩ := slice_from A l.length c k hkl hcap
                have hn1 := hn1' hnl
                have hn2 := hn2' hnl
                have htk : (l.take k).length = k := by rw [List.length_take]; omega
                have htk1 : (l.take k).length + 1 = k + 1 := by omega
                have hdk : (l.drop k).length = l.length - k := List.length_drop
                have hdk1 : (l.take k ++ [h]).length + (l.length - k) = l.length + 1 := by simp; omega
                have hk63 : k ≤ maxLen := Nat.le_trans hkl hl63
                have hk163 : k + 1 ≤ maxLen := Nat.le_trans (Nat.succ_le_succ hkl) hm63
                have hkby : k * 32 ≤ 140737488355328 := by omega
                have hk1by : (k + 1) * 32 ≤ 140737488355328 := by omega
                have hb0 : Below w7.heap.size w7 w7 := Below.refl _ _
                have hse1 : ∀ W, Below w7.heap.size w7 W → SeenH W X1 (l.take k) := fun W hb => hX1s W l (HS7.out.below hb)
                have hse2 : ∀ W, Below w7.heap.size w7 W → SeenH W X2 (l.drop k) := fun W hb => hX2s W l rfl (HS7.out.below hb)
                have hml : (l.take k ++ [h] ++ l.drop k).length = l.length + 1 := by simp; omega
                have hsmm : SmallH (l.take k ++ [h] ++ l.drop k) := ⟨by rw [hml]; have := HSL.out.len; omega, fun x hx => HSM.out.each x (by
                  rcases List.mem_append.1 hx with hx | hx
                  · rcases List.mem_append.1 hx with hx | hx
                    · exact List.mem_append_left _ (List.mem_of_mem_take hx)
                    · exact List.mem_append_right _ hx
                  · exact List.mem_append_left _ (List.mem_of_mem_drop hx))⟩
                have hmore := Co.coop_more (l := l) (h := h) k (fun e => by rw [HY.out] at e; exact HQ.out.1 e) (fun e => by rw [HY.out] at e; exact HQ.out.2.1 e) (fun e => by rw [HY.out] at e; exact HQ.out.2.2.1 e) (fun e => by rw [HY.out] at e; exact HQ.out.2.2.2 e)
                have c1 := fun W (x : SeenH W A l) => coop_any A c l.length l true W rfl HSL.out x
                have c2 := fun A' c' W (x : SeenH W A' (l.take k ++ [h] ++ l.drop k)) => coop_any A' c' (l.length + 1) (l.take k ++ [h] ++ l.drop k) true W hml hsmm x
                have c3 := fun W (x : SeenH W A l) => coep_any A c l.length l true W rfl HSL.out x
                have c4 := fun A' c' W (x : SeenH W A' (l.take k ++ [h] ++ l.drop k)) => coep_any A' c' (l.length + 1) (l.take k ++ [h] ++ l.drop k) true W hml hsmm x
                rw [hmore.1] at c2
                rw [hmore.2] at c4
                obtain ⟨⟨x1, x2, x3, x4⟩, hX⟩ : ∃ X, Co.coopL l true = X := ⟨_, rfl⟩
                obtain ⟨⟨y1, y2, y3, y4⟩, hY⟩ : ∃ Y, Co.coepL l true = Y := ⟨_, rfl⟩
                rw [hX] at c1 c2
                rw [hY] at c3 c4
                unfold plV plC at c1 c2 c3 c4
                dsimp only at c1 c2 c3 c4
                have C1 := Lib.hid c1; have C2 := Lib.hid c2; have C3 := Lib.hid c3; have C4 := Lib.hid c4
                clear c1 c2 c3 c4 hX hY hmore hml hsmm hn1' hn2' hX1s hX2s
                by_cases hneg : at' < 0
                · skip
                  have hmod := hkn hneg
                  clear hkn hkp
                  go_wp2_with fail
                  go_region_held_law (fun w' => w'.cell? ⟨w.heap.size, 0, none⟩ = some (.string (bA h.name)) ∧ w'.cell? ⟨w.heap.size, 1, none⟩ = some (.string (bA h.value)) ∧ Below w7.heap.size w7 w')
                    (first
                      | exact rdy_h HBX7.out hb8
                      | exact rdy_h HBX7.out hb6
                      | exact rdy_h HBX7.out (below_al hb4 _)
                      | exact rdy_h HBX7.out hb4
                      | exact rdy_h HBX7.out (below_al (below_al hb0.drew _) _)
                      | exact rdy_h HBX7.out (below_al hb0.drew _)
                      | exact rdy_h HBX7.out hb0.drew)
                    (first
                      | (refine step_app rfl _ _ rfl w7.heap.size _ [] (l.take k) rfl (own_none (World.alloc_heap_new w7 _) (Nat.le_refl _)) X1 k c k rfl htk hn1 (hse1 _ (below_al hb0 _).drew) (Nat.zero_add _) hk63 hkby (below_al hb0 _).drew.size ?_; intro A4 c4 w4 hown4 hg4 hs4 hbb4; have hb4 := (below_al hb0 _).drew.trans hbb4)
                      | (refine step_app rfl _ _ rfl w7.heap.size _ [] (l.take k) rfl (own_none (heap_first w7 _ _) (Nat.le_refl _)) X1 k c k rfl htk hn1 (hse1 _ (below_al (below_al hb0 _) _).drew) (Nat.zero_add _) hk63 hkby (below_al (below_al hb0 _) _).drew.size ?_; intro A4 c4 w4 hown4 hg4 hs4 hbb4; have hb4 := (below_al (below_al hb0 _) _).drew.trans hbb4)
                      | (refine step_app rfl _ _ rfl w7.heap.size _ [] (l.take k) rfl (own_none (heap_second w7 _ _) (Nat.le_succ _)) X1 k c k rfl htk hn1 (hse1 _ (below_al (below_al hb0 _) _).drew) (Nat.zero_add _) hk63 hkby (below_al (below_al hb0 _) _).drew.size ?_; intro A4 c4 w4 hown4 hg4 hs4 hbb4; have hb4 := (below_al (below_al hb0 _) _).drew.trans hbb4)
                      | (refine step_app rfl _ _ rfl w7.heap.size _ (l.take k) [h] rfl (hown4.alloc _) _ 1 _ (k + 1) rfl rfl (fun e => by cases e) (seen_block (World.alloc_heap_new w4 _) rfl) htk1 hk163 hk1by (below_al hb4 _).size ?_; intro A6 c6 w6' hown6 hg6 hs6 hbb6; have hb6 := (below_al hb4 _).trans hbb6)
                      | (refine step_app rfl _ _ rfl w7.heap.size _ (l.take k) [h] rfl hown4 _ 1 _ (k + 1) rfl rfl (fun e => by cases e) (one_kept (heap_second w7 _ _) hg4 (fun e => Nat.succ_ne_self _ (Option.some.inj e))) htk1 hk163 hk1by hb4.size ?_; intro A6 c6 w6' hown6 hg6 hs6 hbb6; have hb6 := hb4.trans hbb6)
                      | (refine step_app rfl _ _ rfl w7.heap.size _ (l.take k) [h] rfl hown4 _ 1 _ (k + 1) rfl rfl (fun e => by cases e) (one_kept (heap_first w7 _ _) hg4 (fun e => Nat.succ_ne_self _ (Option.some.inj e).symm)) htk1 hk163 hk1by hb4.size ?_; intro A6 c6 w6' hown6 hg6 hs6 hbb6; have hb6 := hb4.trans hbb6)
                      | (refine step_app rfl _ _ rfl w7.heap.size _ (l.take k ++ [h]) (l.drop k) rfl hown6 X2 (l.length - k) (c - k) (l.length + 1) rfl hdk hn2 (hse2 _ hb6) hdk1 hm63 hby2 hb6.size ?_; intro A8 c8 w8 hown8 hg8 hs8 hbb8; have hb8 := hb6.trans hbb8)
                      | fail)
                  all_goals
                    have HB8 := Lib.hid (Below.onto HB7.out hb8)
                    have HS8 := Lib.hid (HS7.out.below hb8)
                    have HM8 := Lib.hid hs8
                    rename_i hHeld
                    clear hHeld hown4 hg4 hs4 hbb4 hb4 hown6 hg6 hs6 hbb6 hb6 hown8 hg8 hs8 hbb8 hb8 hb0 hse1 hse2 hX1 hX2 hn1 hn2
                    go_wp2_with fail
                    refine (C1.out _ HS8.out).mono ?_
                    rintro e w9 ⟨rfl, hb9⟩
                    have HS9 := Lib.hid (HS8.out.below hb9); have HM9 := Lib.hid (HM8.out.below hb9); have HB9 := Lib.hid (Below.onto HB8.out hb9)
                    clear hb9
                    go_wp2_with fail
                    refine (C2.out _ _ _ HM9.out).mono ?_
                    rintro e w10 ⟨rfl, hb10⟩
                    have HS10 := Lib.hid (HS9.out.below hb10); have HM10 := Lib.hid (HM9.out.below hb10); have HB10 := Lib.hid (Below.onto HB9.out hb10)
                    clear hb10
                    go_wp2_with fail
                    refine (C3.out _ HS10.out).mono ?_
                    rintro e w11 ⟨rfl, hb11⟩
                    have HM11 := Lib.hid (HM10.out.below hb11); have HB11 := Lib.hid (Below.onto HB10.out hb11)
                    clear hb11
                    go_wp2_with fail
                    refine (C4.out _ _ _ HM11.out).mono ?_
                    rintro e w12 ⟨rfl, hb12⟩
                    have HB12 := Lib.hid (Below.onto HB11.out hb12)
                    clear hb12
                    go_wp2_with fail
                    all_goals
                      go_ret
                      exact ⟨by simp, HB12.out⟩
                · have hneg2 : 0 ≤ at' := by omega
                  clear hneg
                  have hmod := hkp hneg2
                  clear hkn hkp
                  go_wp2_with fail
                  go_region_held_law (fun w' => w'.cell? ⟨w.heap.size, 0, none⟩ = some (.string (bA h.name)) ∧ w'.cell? ⟨w.heap.size, 1, none⟩ = some (.string (bA h.value)) ∧ Below w7.heap.size w7 w')
                    (first
                      | exact rdy_h HBX7.out hb8
                      | exact rdy_h HBX7.out hb6
                      | exact rdy_h HBX7.out (below_al hb4 _)
                      | exact rdy_h HBX7.out hb4
                      | exact rdy_h HBX7.out (below_al (below_al hb0.drew _) _)
                      | exact rdy_h HBX7.out (below_al hb0.drew _)
                      | exact rdy_h HBX7.out hb0.drew)
                    (first
                      | (refine step_app rfl _ _ rfl w7.heap.size _ [] (l.take k) rfl (own_none (World.alloc_heap_new w7 _) (Nat.le_refl _)) X1 k c k rfl htk hn1 (hse1 _ (below_al hb0 _).drew) (Nat.zero_add _) hk63 hkby (below_al hb0 _).drew.size ?_; intro A4 c4 w4 hown4 hg4 hs4 hbb4; have hb4 := (below_al hb0 _).drew.trans hbb4)
                      | (refine step_app rfl _ _ rfl w7.heap.size _ [] (l.take k) rfl (own_none (heap_first w7 _ _) (Nat.le_refl _)) X1 k c k rfl htk hn1 (hse1 _ (below_al (below_al hb0 _) _).drew) (Nat.zero_add _) hk63 hkby (below_al (below_al hb0 _) _).drew.size ?_; intro A4 c4 w4 hown4 hg4 hs4 hbb4; have hb4 := (below_al (below_al hb0 _) _).drew.trans hbb4)
                      | (refine step_app rfl _ _ rfl w7.heap.size _ [] (l.take k) rfl (own_none (heap_second w7 _ _) (Nat.le_succ _)) X1 k c k rfl htk hn1 (hse1 _ (below_al (below_al hb0 _) _).drew) (Nat.zero_add _) hk63 hkby (below_al (below_al hb0 _) _).drew.size ?_; intro A4 c4 w4 hown4 hg4 hs4 hbb4; have hb4 := (below_al (below_al hb0 _) _).drew.trans hbb4)
                      | (refine step_app rfl _ _ rfl w7.heap.size _ (l.take k) [h] rfl (hown4.alloc _) _ 1 _ (k + 1) rfl rfl (fun e => by cases e) (seen_block (World.alloc_heap_new w4 _) rfl) htk1 hk163 hk1by (below_al hb4 _).size ?_; intro A6 c6 w6' hown6 hg6 hs6 hbb6; have hb6 := (below_al hb4 _).trans hbb6)
                      | (refine step_app rfl _ _ rfl w7.heap.size _ (l.take k) [h] rfl hown4 _ 1 _ (k + 1) rfl rfl (fun e => by cases e) (one_kept (heap_second w7 _ _) hg4 (fun e => Nat.succ_ne_self _ (Option.some.inj e))) htk1 hk163 hk1by hb4.size ?_; intro A6 c6 w6' hown6 hg6 hs6 hbb6; have hb6 := hb4.trans hbb6)
                      | (refine step_app rfl _ _ rfl w7.heap.size _ (l.take k) [h] rfl hown4 _ 1 _ (k + 1) rfl rfl (fun e => by cases e) (one_kept (heap_first w7 _ _) hg4 (fun e => Nat.succ_ne_self _ (Option.some.inj e).symm)) htk1 hk163 hk1by hb4.size ?_; intro A6 c6 w6' hown6 hg6 hs6 hbb6; have hb6 := hb4.trans hbb6)
                      | (refine step_app rfl _ _ rfl w7.heap.size _ (l.take k ++ [h]) (l.drop k) rfl hown6 X2 (l.length - k) (c - k) (l.length + 1) rfl hdk hn2 (hse2 _ hb6) hdk1 hm63 hby2 hb6.size ?_; intro A8 c8 w8 hown8 hg8 hs8 hbb8; have hb8 := hb6.trans hbb8)
                      | fail)
                  all_goals
                    have HB8 := Lib.hid (Below.onto HB7.out hb8)
                    have HS8 := Lib.hid (HS7.out.below hb8)
                    have HM8 := Lib.hid hs8
                    rename_i hHeld
                    clear hHeld hown4 hg4 hs4 hbb4 hb4 hown6 hg6 hs6 hbb6 hb6 hown8 hg8 hs8 hbb8 hb8 hb0 hse1 hse2 hX1 hX2 hn1 hn2
                    go_wp2_with fail
                    refine (C1.out _ HS8.out).mono ?_
                    rintro e w9 ⟨rfl, hb9⟩
                    have HS9 := Lib.hid (HS8.out.below hb9); have HM9 := Lib.hid (HM8.out.below hb9); have HB9 := Lib.hid (Below.onto HB8.out hb9)
                    clear hb9
                    go_wp2_with fail
                    refine (C2.out _ _ _ HM9.out).mono ?_
                    rintro e w10 ⟨rfl, hb10⟩
                    have HS10 := Lib.hid (HS9.out.below hb10); have HM10 := Lib.hid (HM9.out.below hb10); have HB10 := Lib.hid (Below.onto HB9.out hb10)
                    clear hb10
                    go_wp2_with fail
                    refine (C3.out _ HS10.out).mono ?_
                    rintro e w11 ⟨rfl, hb11⟩
                    have HM11 := Lib.hid (HM10.out.below hb11); have HB11 := Lib.hid (Below.onto HB10.out hb11)
                    clear hb11
                    go_wp2_with fail
                    refine (C4.out _ _ _ HM11.out).mono ?_
                    rintro e w12 ⟨rfl, hb12⟩
                    have HB12 := Lib.hid (Below.onto HB11.out hb12)
                    clear hb12
                    go_wp2_with fail
                    all_goals
                      go_ret
                      exact ⟨by simp, HB12.out⟩
      · have hl90z : (90 : Int) < (l.length : Int) := by omega
        clear hl90
        go_wp2_with fail
        go_ret
        exact ⟨rfl, HB6.out⟩
end Go.Proofs.YtgddmihojladfaaGreatDoor
