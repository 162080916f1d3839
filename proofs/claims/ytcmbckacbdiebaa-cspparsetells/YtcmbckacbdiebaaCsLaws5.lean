/- The walk of the statement CspparseTells. -/
import Derived.Test.YtcmbckacbdiebaaCsAwake
import Derived.Test.YtcmbckacbdiebaaCsOpen
namespace Go.Proofs.Ytcmbckacbdiebaa
open Go.RowKit Go.Deep

theorem below_al {a b : World} (h : Below a.heap.size a b) (o : Obj) : Below a.heap.size a (b.alloc o) := h.alloc h.size o
theorem rdy_q {w1 W : World} {B : Nat} {x y : Bool} {u v : Value} (hx : CBox w1 B 26 #[.bool x, u, .bool y, v]) (hb : Below w1.heap.size w1 W) :
    W.cell? ⟨B, 0, none⟩ = some (.bool x) ∧ W.cell? ⟨B, 1, none⟩ = some u ∧ W.cell? ⟨B, 2, none⟩ = some (.bool y) ∧ W.cell? ⟨B, 3, none⟩ = some v ∧ Below w1.heap.size w1 W :=
  ⟨(hx.keep hb).c 0, (hx.keep hb).c 1, (hx.keep hb).c 2, (hx.keep hb).c 3, hb⟩
theorem short200 {l : List (List UInt8)} {k : Nat} (h : k < l.length) (h1 : ∀ v ∈ l.take k, v.length ≤ 200) (h2 : l[k].length ≤ 200) : ∀ v ∈ l.take (k + 1), v.length ≤ 200 := fun v hv => by
  rw [List.take_succ_eq_append_getElem h] at hv
  rcases List.mem_append.1 hv with hv | hv
  · exact h1 v hv
  · rw [List.mem_singleton.1 hv]; exact h2
set_option maxHeartbeats 4000000 in
set_option maxRecDepth 100000 in
theorem walk_CspparseTells (p : Cs.Pol) (A : Option Addr) (c : Nat) (B : Option Addr) (d : Nat) (w : World) (hw : WidePol w p A c B d) :
    Calls Try.prog 5 #[.agg (polC p A c B d)] w fun e w' => e = .returned (.bool true) ∧ Below w.heap.size w w' := by
  obtain ⟨xa, la, xb, lb⟩ := p
  obtain ⟨hwa, hwb⟩ := hw
  dsimp only at hwa hwb
  have hbx := (Below.refl w.heap.size w).alloc (Nat.le_refl _) (.cells (polC ⟨xa, la, xb, lb⟩ A c B d) 26)
  have HX0 := Lib.hid (CBox.new w 26 (polC ⟨xa, la, xb, lb⟩ A c B d))
  have HB0 := Lib.hid hbx
  have HA0 := Lib.hid (hwa.seen.below hbx); have HBB0 := Lib.hid (hwb.seen.below hbx)
  have hnl1 := hwa.nl; have hnl2 := hwb.nl
  have hl1 := hwa.len; have hl2 := hwb.len
  clear hwa hwb hbx
  unfold polC at *
  dsimp only at *
  go_enter Try.func5, Try.ntmps5
  go_wp2_with fail
  refine (awake10_any _).mono ?_
  rintro e w1 ⟨rfl, hb1⟩
  have HX1 := Lib.hid (HX0.out.keep hb1); have HB1 := Lib.hid (Below.onto HB0.out hb1); have HA1 := Lib.hid (HA0.out.below hb1); have HBB1 := Lib.hid (HBB0.out.below hb1)
  clear hb1 HX0 HB0 HA0 HBB0
  have x0 := HX1.out.c 0; have x1 := HX1.out.c 1; have x2 := HX1.out.c 2; have x3 := HX1.out.c 3
  by_cases h1 : la.length ≤ 100
  · have h1z : ¬ ((100 : Int) < (la.length : Int)) := by omega
    by_cases h2 : lb.length ≤ 100
    · have h2z : ¬ ((100 : Int) < (lb.length : Int)) := by omega
      have hb0 : Below w1.heap.size w1 w1 := Below.refl _ _
      have hse1 : ∀ W, Below w1.heap.size w1 W → SeenT W A la := fun W hb => HA1.out.below hb
      have hse2 : ∀ W, Below w1.heap.size w1 W → SeenT W B lb := fun W hb => HBB1.out.below hb
      have hm1 : la.length ≤ maxLen := hl1
      have hm2 : la.length + lb.length ≤ maxLen := by unfold maxLen; omega
      have hy1 : la.length * 16 ≤ 140737488355328 := by omega
      have hy2 : (la.length + lb.length) * 16 ≤ 140737488355328 := by omega
      go_wp2_with fail
      go_region_held_law (fun W => W.cell? ⟨w.heap.size, 0, none⟩ = some (.bool xa) ∧ W.cell? ⟨w.heap.size, 1, none⟩ = some (.slice A la.length c) ∧ W.cell? ⟨w.heap.size, 2, none⟩ = some (.bool xb) ∧ W.cell? ⟨w.heap.size, 3, none⟩ = some (.slice B lb.length d) ∧ Below w1.heap.size w1 W)
        (first
          | exact rdy_q HX1.out hb6
          | exact rdy_q HX1.out hb4
          | exact rdy_q HX1.out (below_al hb0 _).drew
          | exact rdy_q HX1.out (below_al hb0.drew _)
          | exact rdy_q HX1.out (below_al hb0 _)
          | exact rdy_q HX1.out hb0.drew
          | exact rdy_q HX1.out hb0)
        (first
          | (refine step_appT rfl _ _ rfl w1.heap.size _ [] la rfl (OwnT.none (World.alloc_heap_new w1 _) (Nat.le_refl _)) A la.length c la.length rfl rfl hnl1 (hse1 _ (below_al hb0 _).drew) (Nat.zero_add _) hm1 hy1 (below_al hb0 _).drew.size ?_; intro A4 c4 w4 hown4 hbb4; have hb4 := (below_al hb0 _).drew.trans hbb4)
          | (refine step_appT rfl _ _ rfl w1.heap.size _ [] la rfl (OwnT.none (World.alloc_heap_new w1 _) (Nat.le_refl _)) A la.length c la.length rfl rfl hnl1 (hse1 _ (below_al hb0 _)) (Nat.zero_add _) hm1 hy1 (below_al hb0 _).size ?_; intro A4 c4 w4 hown4 hbb4; have hb4 := (below_al hb0 _).trans hbb4)
          | (refine step_appT rfl _ _ rfl w1.heap.size _ la lb rfl hown4 B lb.length d (la.length + lb.length) rfl rfl hnl2 (hse2 _ hb4) rfl hm2 hy2 hb4.size ?_; intro A6 c6 w6 hown6 hbb6; have hb6 := hb4.trans hbb6)
          | fail)
      all_goals
        have HB6 := Lib.hid (Below.onto HB1.out hb6)
        have HX6 := Lib.hid (HX1.out.keep hb6)
        have HA6 := Lib.hid (hse1 _ hb6); have HBB6 := Lib.hid (hse2 _ hb6)
        obtain ⟨L, hL⟩ : ∃ L, la ++ lb = L := ⟨_, rfl⟩
        have hLn : la.length + lb.length = L.length := by rw [← hL, List.length_append]
        rw [hL] at hown6
        rw [hLn] at hown6 ⊢
        have hLl : L.length ≤ 200 := by omega
        have HO6 := Lib.hid hown6; have HL := Lib.hid hL
        rename_i hHeld
        clear hHeld hown4 hbb4 hb4 hown6 hbb6 hb6 hb0 hse1 hse2 x0 x1 x2 x3 hLn hL hm1 hm2 hy1 hy2 hnl1 hnl2
        go_wp2
        go_loopw [5] (fun i wr => ∃ k : Nat, k ≤ L.length ∧ i = .int .i64 k ∧ Hid (∀ s ∈ L.take k, s.length ≤ 200) ∧ wr = w6) (fun i _ => L.length - (intOf i).toNat)
        case atStart => exact ⟨0, by omega, rfl, Lib.hid (by simp), rfl⟩
        case round =>
          obtain ⟨k, hk, rfl, hsh, rfl⟩ := hrel
          by_cases hlt : k < L.length
          · rcases owns_view HO6.out with ⟨e1, h0⟩ | ⟨g, cap, e1, _, hg, hgb, hc⟩
            · exfalso; rw [h0] at hlt; simp at hlt
            · cases e1
              have hce := hc k hlt
              have hnx := fun h => short200 hlt hsh.out h
              obtain ⟨x, hx⟩ : ∃ x, L[k] = x := ⟨_, rfl⟩
              rw [hx] at hce hnx
              unfold Oct.strV at hce
              have HN := Lib.hid hnx
              clear hc hnx hx
              by_cases h200 : x.length ≤ 200
              · have h200z : ¬ ((200 : Int) < (x.length : Int)) := by omega
                go_wp2_with fail
                exact ⟨⟨k + 1, by omega, by go_num, Lib.hid (HN.out h200), trivial⟩, by simp [intOf]; omega⟩
              · have h200z : (200 : Int) < (x.length : Int) := by omega
                go_wp2_with fail
                go_ret
                exact ⟨rfl, HB6.out⟩
          · obtain rfl : k = L.length := by omega
            have hsh2 := hsh.out
            rw [List.take_of_length_le (Nat.le_refl _), ← HL.out] at hsh2
            have ha : ∀ s ∈ la, s.length ≤ 200 := fun s hs => hsh2 s (List.mem_append_left _ hs)
            have hb : ∀ s ∈ lb, s.length ≤ 200 := fun s hs => hsh2 s (List.mem_append_right _ hs)
            have d1 := Cs.dirT_len (m := 200) la Cs.nA ha
            have d2 := Cs.dirT_len (m := 200) lb Cs.nB hb
            have m1 : la.length * (200 + 1) ≤ 100 * 201 := Nat.mul_le_mul h1 (Nat.le_refl _)
            have m2 : lb.length * (200 + 1) ≤ 100 * 201 := Nat.mul_le_mul h2 (Nat.le_refl _)
            have e1 : Cs.nA.length = 15 := rfl
            have e2 : Cs.nB.length = 7 := rfl
            have t1 := fun W (hb : Below wr.heap.size wr W) => csText_any ⟨xa, la, xb, lb⟩ (.agg (polC ⟨xa, la, xb, lb⟩ A c B d)) W ⟨by show la.length ≤ _; omega, by show lb.length ≤ _; omega⟩ (by show (Cs.dirT Cs.nA la).length ≤ _; omega) (by show (Cs.dirT Cs.nB lb).length ≤ _; omega) ⟨A, c, B, d, rfl, HA6.out.below hb, HBB6.out.below hb⟩
            have t2 := fun W (hb : Below wr.heap.size wr W) => rcsText_any ⟨xa, la, xb, lb⟩ (.agg (polC ⟨xa, la, xb, lb⟩ A c B d)) W ⟨by show la.length ≤ _; omega, by show lb.length ≤ _; omega⟩ (by show (Cs.dirT Cs.nA la).length ≤ _; omega) (by show (Cs.dirT Cs.nB lb).length ≤ _; omega) ⟨A, c, B, d, rfl, HA6.out.below hb, HBB6.out.below hb⟩
            obtain ⟨T, hT⟩ : ∃ T, Cs.text ⟨xa, la, xb, lb⟩ = T := ⟨_, rfl⟩
            simp only [hT] at t1 t2
            unfold polC at t1 t2
            dsimp only at t1 t2
            have T1 := Lib.hid t1; have T2 := Lib.hid t2
            have hb0 : Below wr.heap.size wr wr := Below.refl _ _
            clear hsh hsh2 ha hb d1 d2 m1 m2 e1 e2 t1 t2 hT hlt hk
            go_wp2_with fail
            go_region_held_law (fun W => W.cell? ⟨w.heap.size, 0, none⟩ = some (.bool xa) ∧ W.cell? ⟨w.heap.size, 1, none⟩ = some (.slice A la.length c) ∧ W.cell? ⟨w.heap.size, 2, none⟩ = some (.bool xb) ∧ W.cell? ⟨w.heap.size, 3, none⟩ = some (.slice B lb.length d) ∧ Below wr.heap.size wr W)
              (first
                | exact rdy_q HX6.out hbV
                | exact rdy_q HX6.out hbU
                | exact rdy_q HX6.out hb0.drew
                | exact rdy_q HX6.out hb0)
              (first
                | (go_at_call 17; refine (T1.out _ (by first | exact hb0 | exact hb0.drew)).mono ?_; rintro e wU ⟨rfl, hbU'⟩; have hbU : Below wr.heap.size wr wU := by first | exact hbU' | exact hb0.drew.trans hbU')
                | (go_at_call 18; refine (T2.out _ hbU).mono ?_; rintro e wV ⟨rfl, hbV'⟩; have hbV : Below wr.heap.size wr wV := Below.onto hbU hbV')
                | fail)
            all_goals
              have HBV := Lib.hid (Below.onto HB6.out hbV)
              rename_i hHeld2
              clear hHeld2 hbV hbV' hbU hbU' hb0
              go_wp2_with fail
              go_ret
              exact ⟨by simp, HBV.out⟩
    · have h2z : (100 : Int) < (lb.length : Int) := by omega
      go_wp2_with fail
      go_ret
      exact ⟨rfl, HB1.out⟩
  · have h1z : (100 : Int) < (la.length : Int) := by omega
    go_wp2_with fail
    go_ret
    exact ⟨rfl, HB1.out⟩
end Go.Proofs.Ytcmbckacbdiebaa
