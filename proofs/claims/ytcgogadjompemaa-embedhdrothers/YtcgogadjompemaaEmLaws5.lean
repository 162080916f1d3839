/- The walk of the statement EmbedhdrOthers (written by mkot.py). -/
import Derived.Test.YtcgogadjompemaaEmAwake
import Derived.Test.YtcgogadjompemaaHdCat
namespace Go.Proofs.Ytcgogadjompemaa
open Go.RowKit Go.Deep

theorem below_al {a b : World} (h : Below a.heap.size a b) (o : Obj) : Below a.heap.size a (b.alloc o) := h.alloc h.size o
/-- The list that the statement makes of the first lines. -/
def othL (h : Hd.Hdr) (l : List Hd.Hdr) (k : Nat) : List Hd.Hdr := (l.take k).flatMap fun x => [h, Em.low x]
theorem othL_succ {h : Hd.Hdr} {l : List Hd.Hdr} {k : Nat} (hk : k < l.length) : othL h l (k + 1) = othL h l k ++ [h, Em.low l[k]] := by
  unfold othL
  rw [List.take_succ_eq_append_getElem hk, List.flatMap_append]
  simp
theorem othL_len {h : Hd.Hdr} {l : List Hd.Hdr} {k : Nat} (hk : k ≤ l.length) : (othL h l k).length = 2 * k := by
  induction k with
  | zero => rfl
  | succ k ih => rw [othL_succ (by omega), List.length_append, ih (by omega)]; simp; omega
theorem othL_all {h : Hd.Hdr} {l : List Hd.Hdr} (h1 : Hd.foldB h.name Em.nX = false) (h2 : Hd.foldB h.name Em.nC = false) : Em.corpL (othL h l l.length) = Em.corpL l ∧ Em.xfoL (othL h l l.length) = Em.xfoL l := by
  unfold othL
  rw [List.take_of_length_le (Nat.le_refl _)]
  exact Em.others h1 h2 l
theorem othL_small {h : Hd.Hdr} {l : List Hd.Hdr} (hs : lowB (l ++ [h]) = true) : SmallH (othL h l l.length) := by
  have h1 := low_small hs
  have h2 := low_len hs
  refine ⟨by rw [othL_len (Nat.le_refl _)]; simp at h2; omega, fun x hx => ?_⟩
  unfold othL at hx
  rw [List.take_of_length_le (Nat.le_refl _)] at hx
  obtain ⟨y, hy, hx⟩ := List.mem_flatMap.1 hx
  have hy2 := h1.each y (by simp [hy])
  have hh2 := h1.each h (by simp)
  have e := lower_len y.name
  rcases List.mem_cons.1 hx with rfl | hx
  · exact hh2
  · rw [List.mem_singleton.1 hx]
    exact ⟨by show (Oct.lower y.name).length ≤ 10000; omega, hy2.2⟩
theorem low_each {l : List Hd.Hdr} (h : lowB l = true) : ∀ x ∈ l, x.name.length ≤ 200 := fun x hx => by
  unfold lowB at h
  rw [Bool.and_eq_true] at h
  have := List.all_eq_true.1 h.2 x hx
  unfold lowH at this
  rw [Bool.and_eq_true, decide_eq_true_eq] at this
  exact this.1
theorem rdy_o {w1 W : World} {B g o : Nat} {h x : Hd.Hdr} (hx : HBox w1 B h) (hc : Cells2 w1 g o x) (hg : g < w1.heap.size) (hb : Below w1.heap.size w1 W) :
    W.cell? ⟨B, 0, none⟩ = some (.string (bA h.name)) ∧ W.cell? ⟨B, 1, none⟩ = some (.string (bA h.value)) ∧ W.cell? ⟨g, o, none⟩ = some (.string (bA x.name)) ∧ W.cell? ⟨g, o + 1, none⟩ = some (.string (bA x.value)) ∧ Below w1.heap.size w1 W :=
  ⟨(hx.below hb).c0, (hx.below hb).c1, (hc.below hg hb).1, (hc.below hg hb).2, hb⟩
set_option maxHeartbeats 2000000 in
set_option maxRecDepth 100000 in
theorem walk_EmbedhdrOthers (A : Option Addr) (c : Nat) (l : List Hd.Hdr) (h : Hd.Hdr) (w : World) (hw : WideHs w A c l) (_hwh : WideH h) (hrs : l.length * 32 ≤ 140737488351232) :
    Calls Try.prog 8 #[.slice A l.length c, .agg #[.string (bA h.name), .string (bA h.value)]] w fun e w' => e = .returned (.bool true) ∧ Below w.heap.size w w' := by
  have hl63 : l.length ≤ maxLen := hw.len
  have hm63 : l.length + 1 ≤ maxLen := by unfold maxLen; omega
  have hby1 : l.length * 32 ≤ 140737488355328 := by omega
  have hby2 : (l.length + 1) * 32 ≤ 140737488355328 := by omega
  have hnl := hw.nl
  have hln : (l ++ [h]).length = l.length + 1 := by simp
  have HB0 := Lib.hid (below_one w (.cells #[.string (bA h.name), .string (bA h.value)] 28))
  have HBX0 := Lib.hid (HBox.new w h)
  have HS0 := Lib.hid (hw.seen.below HB0.out)
  have hname := _hwh.1
  clear hw
  obtain ⟨bf, hbf⟩ : ∃ bf, lowB (l ++ [h]) = bf := ⟨_, rfl⟩
  have HBF := Lib.hid hbf
  clear hbf
  go_enter Try.func8, Try.ntmps8
  go_wp2_with fail
  refine (awake9_any _).mono ?_
  rintro e w1 ⟨rfl, hb1⟩
  have HB1 := Lib.hid (Below.onto HB0.out hb1); have HBX1 := Lib.hid (HBX0.out.below hb1); have HS1 := Lib.hid (HS0.out.below hb1)
  clear hb1
  have hb0 : Below w1.heap.size w1 w1 := Below.refl _ _
  have hse : ∀ W, Below w1.heap.size w1 W → SeenH W A l := fun W hb => HS1.out.below hb
  go_wp2_with fail
  go_region_held_law (fun w' => w'.cell? ⟨w.heap.size, 0, none⟩ = some (.string (bA h.name)) ∧ w'.cell? ⟨w.heap.size, 1, none⟩ = some (.string (bA h.value)) ∧ Below w1.heap.size w1 w')
    (first
      | exact rdy_h HBX1.out hb6
      | exact rdy_h HBX1.out (below_al hb4 _)
      | exact rdy_h HBX1.out hb4
      | exact rdy_h HBX1.out (below_al (below_al hb0.drew _) _)
      | exact rdy_h HBX1.out (below_al hb0.drew _)
      | exact rdy_h HBX1.out hb0.drew)
    (first
      | (refine step_app rfl _ _ rfl w1.heap.size _ [] l rfl (own_none (World.alloc_heap_new w1 _) (Nat.le_refl _)) A l.length c l.length rfl rfl hnl (hse _ (below_al hb0 _).drew) (Nat.zero_add _) hl63 hby1 (below_al hb0 _).drew.size ?_; intro A4 c4 w4 hown4 hg4 hs4 hbb4; have hb4 := (below_al hb0 _).drew.trans hbb4)
      | (refine step_app rfl _ _ rfl w1.heap.size _ [] l rfl (own_none (heap_first w1 _ _) (Nat.le_refl _)) A l.length c l.length rfl rfl hnl (hse _ (below_al (below_al hb0 _) _).drew) (Nat.zero_add _) hl63 hby1 (below_al (below_al hb0 _) _).drew.size ?_; intro A4 c4 w4 hown4 hg4 hs4 hbb4; have hb4 := (below_al (below_al hb0 _) _).drew.trans hbb4)
      | (refine step_app rfl _ _ rfl w1.heap.size _ [] l rfl (own_none (heap_second w1 _ _) (Nat.le_succ _)) A l.length c l.length rfl rfl hnl (hse _ (below_al (below_al hb0 _) _).drew) (Nat.zero_add _) hl63 hby1 (below_al (below_al hb0 _) _).drew.size ?_; intro A4 c4 w4 hown4 hg4 hs4 hbb4; have hb4 := (below_al (below_al hb0 _) _).drew.trans hbb4)
      | (refine step_app rfl _ _ rfl w1.heap.size _ l [h] rfl (hown4.alloc _) _ 1 _ (l.length + 1) rfl rfl (fun e => by cases e) (seen_block (World.alloc_heap_new w4 _) rfl) rfl hm63 hby2 (below_al hb4 _).size ?_; intro A6 c6 w6 hown6 hg6 hs6 hbb6; have hb6 := (below_al hb4 _).trans hbb6)
      | (refine step_app rfl _ _ rfl w1.heap.size _ l [h] rfl hown4 _ 1 _ (l.length + 1) rfl rfl (fun e => by cases e) (one_kept (heap_second w1 _ _) hg4 (fun e => Nat.succ_ne_self _ (Option.some.inj e))) rfl hm63 hby2 hb4.size ?_; intro A6 c6 w6 hown6 hg6 hs6 hbb6; have hb6 := hb4.trans hbb6)
      | (refine step_app rfl _ _ rfl w1.heap.size _ l [h] rfl hown4 _ 1 _ (l.length + 1) rfl rfl (fun e => by cases e) (one_kept (heap_first w1 _ _) hg4 (fun e => Nat.succ_ne_self _ (Option.some.inj e).symm)) rfl hm63 hby2 hb4.size ?_; intro A6 c6 w6 hown6 hg6 hs6 hbb6; have hb6 := hb4.trans hbb6)
      | (go_at_call 10; refine (low_any A6 c6 (l.length + 1) (l ++ [h]) _ hln hs6).mono ?_; rintro e w' ⟨rfl, hw'⟩; rw [hw'])
      | fail)
  all_goals
    have HB6 := Lib.hid (Below.onto HB1.out hb6)
    have HBX6 := Lib.hid (HBX1.out.below hb6)
    have HS6 := Lib.hid (hse _ hb6)
    rename_i hHeld
    have d0 := HBX6.out.c0
    clear hHeld hown4 hg4 hs4 hbb4 hb4 hown6 hg6 hs6 hbb6 hb6 hb0 hse
    rw [HBF.out]
    have hcall := fun W => lower_any (bA h.name) W (by rw [bA_size]; exact hname)
    obtain ⟨y, hy⟩ : ∃ y, Oct.lower h.name = y := ⟨_, rfl⟩
    have HY := Lib.hid hy
    have hcall2 : ∀ W, Calls Try.prog 16 #[.string (bA h.name)] W fun e w' => e = .returned (.string (bA y)) ∧ Below W.heap.size W w' := fun W => (hcall W).mono fun e w' ⟨e1, e2⟩ => ⟨by rw [e1, ← hy], e2⟩
    clear hcall hy
    go_wp2_with fail
    refine (hcall2 _).mono ?_
    rintro e w7 ⟨rfl, hb7⟩
    have HB7 := Lib.hid (Below.onto HB6.out hb7); have HBX7 := Lib.hid (HBX6.out.below hb7); have HS7 := Lib.hid (HS6.out.below hb7)
    clear hcall2 hb7 d0
    cases bf with
    | false =>
      go_wp2_with fail
      go_ret
      exact ⟨rfl, HB7.out⟩
    | true =>
      have HLOW : Hid (lowB (l ++ [h]) = true) := HBF
      have HSL : Hid (SmallH l) := Lib.hid ⟨by have := low_len HBF.out; simp at this; omega, fun x hx => (low_small HBF.out).each x (by simp [hx])⟩
      have HEACH : Hid (∀ x ∈ l, x.name.length ≤ 200) := Lib.hid fun x hx => low_each HBF.out x (by simp [hx])
      by_cases h90 : l.length ≤ 90
      · have h90z : ¬ ((90 : Int) < (l.length : Int)) := by omega
        cases q1 : y == Em.nX with
        | true =>
          have e1 := q1
          unfold Em.nX at e1
          clear q1
          go_wp2_with fail
          go_ret
          exact ⟨rfl, HB7.out⟩
        | false =>
          have e1 := q1
          unfold Em.nX at e1
          cases q2 : y == Em.nC with
          | true =>
            have e2 := q2
            unfold Em.nC at e2
            clear q2 q1
            go_wp2_with fail
            go_ret
            exact ⟨rfl, HB7.out⟩
          | false =>
            have e2 := q2
            unfold Em.nC at e2
            have HQ : Hid (Hd.foldB h.name Em.nX = false ∧ Hd.foldB h.name Em.nC = false) := Lib.hid ⟨by unfold Hd.foldB; rw [HY.out, Em.low_X]; exact q1, by unfold Hd.foldB; rw [HY.out, Em.low_C]; exact q2⟩
            clear q1 q2
            go_wp2
            go_loopw [8, 9] (fun lv i wr => ∃ k : Nat, k ≤ l.length ∧ i = .int .i64 k ∧ Hid (OwnH wr w7.heap.size lv (othL h l k)) ∧ Hid (Below w7.heap.size w7 wr)) (fun _ i _ => l.length - (intOf i).toNat)
            case atStart => exact ⟨0, by omega, rfl, Lib.hid (World.ownsRow_nil _ _ _ _), Lib.hid (Below.refl _ _)⟩
            case round =>
              obtain ⟨k, hk, rfl, hrow, hbel⟩ := hrel
              by_cases hlt : k < l.length
              · obtain ⟨g, o, rfl, hg, hc⟩ := HS7.out (by omega)
                have hgr : g < wr.heap.size := Nat.lt_of_lt_of_le hg hbel.out.size
                have hce7 := hc k hlt
                have hce := hce7.below hg hbel.out
                have hoth := othL_succ (h := h) hlt
                have hxs := HEACH.out l[k] (List.getElem_mem hlt)
                obtain ⟨x, hx⟩ : ∃ x, l[k] = x := ⟨_, rfl⟩
                rw [hx] at hce hce7 hoth hxs
                have hoN := othL_len (h := h) hk
                obtain ⟨OL, hOL⟩ : ∃ OL, othL h l k = OL := ⟨_, rfl⟩
                rw [hOL] at hoth hrow hoN
                have hcall := fun W => low_bA x.name W (by omega)
                obtain ⟨y2, hy2⟩ : ∃ y2, Oct.lower x.name = y2 := ⟨_, rfl⟩
                have hlowx : Em.low x = ⟨y2, x.value⟩ := by unfold Em.low; rw [hy2]
                rw [hlowx] at hoth
                simp only [hy2] at hcall
                obtain ⟨N, hN⟩ : ∃ N, OL.length = N := ⟨_, rfl⟩
                have hN2 : OL.length + 2 = N + 2 := by rw [hN]
                have hN63 : N + 2 ≤ maxLen := by unfold maxLen; omega
                have hNby : (N + 2) * 32 ≤ 140737488355328 := by omega
                have hwr : w7.heap.size ≤ wr.heap.size := hbel.out.size
                have hown : OwnH wr w7.heap.size _ OL := hrow.out
                have hb0 : Below wr.heap.size wr wr := Below.refl _ _
                have HBXr := Lib.hid (HBX7.out.below (hbel.out)); have HCE := Lib.hid hce7
                have HOTH := Lib.hid hoth
                have d0 := HBXr.out.c0; have d1 := HBXr.out.c1; have e0 := hce.1; have e1 := hce.2
                clear hc hx hOL hy2 hlowx hce hce7 hoth hrow hoN hN hxs
                go_wp2_with fail
                go_region_held_law (fun w' => w'.cell? ⟨w.heap.size, 0, none⟩ = some (.string (bA h.name)) ∧ w'.cell? ⟨w.heap.size, 1, none⟩ = some (.string (bA h.value)) ∧ w'.cell? ⟨g, o + k * 2, none⟩ = some (.string (bA x.name)) ∧ w'.cell? ⟨g, o + k * 2 + 1, none⟩ = some (.string (bA x.value)) ∧ Below w7.heap.size w7 w')
                  (first
                    | exact rdy_o HBX7.out HCE.out hg hb6
                    | exact rdy_o HBX7.out HCE.out hg (hbW.alloc hbW.size _)
                    | exact rdy_o HBX7.out HCE.out hg (hbW.drew.alloc hbW.size _)
                    | exact rdy_o HBX7.out HCE.out hg hbW
                    | exact rdy_o HBX7.out HCE.out hg hbW.drew
                    | exact rdy_o HBX7.out HCE.out hg hbel.out.drew
                    | exact rdy_o HBX7.out HCE.out hg hbel.out)
                  (first
                    | (go_at_call 16; refine (hcall _).mono ?_; rintro e wl ⟨rfl, hbl⟩; have hbw : Below wr.heap.size wr wl := by first | exact hbl | exact hb0.drew.trans hbl
                       have hbW := hbel.out.trans (hbw.mono hwr))
                    | (refine step_app rfl _ _ rfl w7.heap.size _ OL [h, ⟨y2, x.value⟩] rfl ((OwnH.below hown hbw).alloc _) _ 2 _ (N + 2) rfl rfl (fun e => by cases e) (seen_block (World.alloc_heap_new wl _) rfl) hN2 hN63 hNby (Nat.le_trans hwr (below_al hbw _).size) ?_; intro A6 c6 w6 hown6 hg6 hs6 hbb6; have hb6 := hbel.out.trans ((below_al hbw _).mono hwr |>.trans hbb6))
                    | fail)
                all_goals
                  have HB6 := Lib.hid hb6
                  have HO6 : Hid (OwnH w6 w7.heap.size (.slice A6 (N + 2) c6) (OL ++ [h, ⟨y2, x.value⟩])) := Lib.hid hown6
                  rename_i hHeld
                  clear hHeld hown hown6 hg6 hs6 hbb6 hb6 hbw hbW hb0
                  go_wp2_with fail
                  exact ⟨⟨k + 1, by omega, by go_num, Lib.hid (by rw [HOTH.out]; exact HO6.out), HB6⟩, by simp [intOf]; omega⟩
              · obtain rfl : k = l.length := by omega
                obtain ⟨A8, c8, e8, hs8, _⟩ := hrow.out.slice
                have hoN := othL_len (h := h) (Nat.le_refl l.length)
                have hoth := othL_all (h := h) (l := l) HQ.out.1 HQ.out.2
                have hosm := othL_small HLOW.out
                have hHSL := HSL.out
                obtain ⟨OL, hOL⟩ : ∃ OL, othL h l l.length = OL := ⟨_, rfl⟩
                rw [hOL] at e8 hs8 hoN hoth hosm
                have c1 := fun W (z : SeenH W A l) => corp_any A c l.length l W rfl hHSL z
                have c2 := fun A' c' W (z : SeenH W A' OL) => corp_any A' c' OL.length OL W rfl hosm z
                have c3 := fun W (z : SeenH W A l) => xfo_any A c l.length l W rfl hHSL z
                have c4 := fun A' c' W (z : SeenH W A' OL) => xfo_any A' c' OL.length OL W rfl hosm z
                rw [hoth.1] at c2
                rw [hoth.2] at c4
                obtain ⟨x1, hx1⟩ : ∃ x1, Em.corpL l = x1 := ⟨_, rfl⟩
                obtain ⟨x2, hx2⟩ : ∃ x2, Em.xfoL l = x2 := ⟨_, rfl⟩
                rw [hx1] at c1 c2
                rw [hx2] at c3 c4
                obtain ⟨N, hN⟩ : ∃ N, OL.length = N := ⟨_, rfl⟩
                rw [hN] at e8 c2 c4
                subst e8
                have C1 := Lib.hid c1; have C2 := Lib.hid c2; have C3 := Lib.hid c3; have C4 := Lib.hid c4
                have HS9 := Lib.hid (HS7.out.below hbel.out); have HM9 := Lib.hid hs8; have HB9 := Lib.hid (Below.onto HB7.out hbel.out)
                clear c1 c2 c3 c4 hx1 hx2 hN hOL hoN hoth hosm hHSL hs8 hrow hbel hk hlt
                by_cases h100 : N ≤ 100
                · have h100z : ¬ ((100 : Int) < (N : Int)) := by omega
                  go_wp2_with fail
                  refine (C1.out _ HS9.out).mono ?_
                  rintro e w9 ⟨rfl, hb9⟩
                  have HS10 := Lib.hid (HS9.out.below hb9); have HM10 := Lib.hid (HM9.out.below hb9); have HB10 := Lib.hid (Below.onto HB9.out hb9)
                  clear hb9
                  go_wp2_with fail
                  refine (C2.out _ _ _ HM10.out).mono ?_
                  rintro e w10 ⟨rfl, hb10⟩
                  have HS11 := Lib.hid (HS10.out.below hb10); have HM11 := Lib.hid (HM10.out.below hb10); have HB11 := Lib.hid (Below.onto HB10.out hb10)
                  clear hb10
                  go_wp2_with fail
                  refine (C3.out _ HS11.out).mono ?_
                  rintro e w11 ⟨rfl, hb11⟩
                  have HM12 := Lib.hid (HM11.out.below hb11); have HB12 := Lib.hid (Below.onto HB11.out hb11)
                  clear hb11
                  go_wp2_with fail
                  refine (C4.out _ _ _ HM12.out).mono ?_
                  rintro e w12 ⟨rfl, hb12⟩
                  have HB13 := Lib.hid (Below.onto HB12.out hb12)
                  clear hb12
                  go_wp2_with fail
                  go_ret
                  exact ⟨rfl, HB13.out⟩
                · have h100z : (100 : Int) < (N : Int) := by omega
                  go_wp2_with fail
                  go_ret
                  exact ⟨rfl, HB9.out⟩
      · have h90z : (90 : Int) < (l.length : Int) := by omega
        go_wp2_with fail
        go_ret
        exact ⟨rfl, HB7.out⟩
end Go.Proofs.Ytcgogadjompemaa
