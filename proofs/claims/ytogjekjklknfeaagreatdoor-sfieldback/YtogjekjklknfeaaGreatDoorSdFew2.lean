/- The contract of the statements' few: are members few, with few short parts? -/
import Derived.Test.YtogjekjklknfeaaGreatDoorSdFew
namespace Go.Proofs.YtogjekjklknfeaaGreatDoor
open Go.RowKit Go.Shelf Go.Maps Go.Deep

theorem rdy_all {wr W : World} {g o : Nat} {m : Sf.Mem} {v1 v2 v3 : Value} (hg : g < wr.heap.size) (h : Cells8 wr g o m v1 v2 v3) (hb : Below wr.heap.size wr W) : W.cell? ⟨g, o + 2, none⟩ = some (.int .i64 m.item.kind) ∧ W.cell? ⟨g, o + 3, none⟩ = some (.int .i64 m.item.n) ∧ W.cell? ⟨g, o + 4, none⟩ = some (.string (bA m.item.text)) ∧ W.cell? ⟨g, o + 5, none⟩ = some v1 ∧ W.cell? ⟨g, o + 6, none⟩ = some v2 ∧ W.cell? ⟨g, o + 7, none⟩ = some v3 ∧ Below wr.heap.size wr W := by
  obtain ⟨a, b, c, d, e, f, k, l⟩ := h
  exact ⟨(hb.cell hg).trans c, (hb.cell hg).trans d, (hb.cell hg).trans e, (hb.cell hg).trans f, (hb.cell hg).trans k, (hb.cell hg).trans l, hb⟩
section
variable {α : Type} {l : List α} {k : Nat} {q : α → Bool}
theorem all_next (h : k < l.length) {x : α} (hx : l[k] = x) (hq : q x = true) (ht : (l.take k).all q = true) : (l.take (k + 1)).all q = true := by
  rw [List.take_succ_eq_append_getElem h, List.all_append, ht, hx]; simp [hq]
theorem all_miss (h : k < l.length) {x : α} (hx : l[k] = x) (hq : q x = false) : l.all q = false := by
  rw [List.all_eq_false]; exact ⟨l[k], List.getElem_mem h, by rw [hx, hq]; simp⟩
theorem all_end (h : l.length ≤ k) (ht : (l.take k).all q = true) : l.all q = true := by
  rwa [List.take_of_length_le h] at ht
end
theorem fewO_no {m : Sf.Mem} (h : ¬ (m.items.length ≤ 50 ∧ m.params.length ≤ 50 ∧ m.key.length ≤ 200)) : fewO m = false := by
  unfold fewO
  by_cases h1 : m.items.length ≤ 50 <;> by_cases h2 : m.params.length ≤ 50 <;> by_cases h3 : m.key.length ≤ 200 <;> simp [h1, h2, h3] <;> exact absurd ⟨h1, h2, h3⟩ h
theorem fewO_all {m : Sf.Mem} (h1 : m.items.length ≤ 50) (h2 : m.params.length ≤ 50) (h3 : m.key.length ≤ 200) : fewO m = (allI m).all fewI := by
  unfold fewO; simp [h1, h2, h3]
theorem heap_first (w : World) (a b : Obj) : ((w.alloc a).alloc b).drew.heap[w.heap.size]? = some a := ((below_one (w.alloc a) b).block w.heap.size (by simp)).trans (World.alloc_heap_new w a)
theorem heap_second (w : World) (a b : Obj) : ((w.alloc a).alloc b).drew.heap[w.heap.size + 1]? = some b := by
  have h : ((w.alloc a).alloc b).heap[(w.alloc a).heap.size]? = some b := World.alloc_heap_new (w.alloc a) b
  rw [show (w.alloc a).heap.size = w.heap.size + 1 by simp] at h
  exact h
theorem heap_lt1 (w : World) (a b : Obj) : w.heap.size + 1 < ((w.alloc a).alloc b).drew.heap.size := by
  have h : ((w.alloc a).alloc b).drew.heap.size = ((w.alloc a).alloc b).heap.size := rfl
  rw [h]; simp
theorem heap_lt0 (w : World) (a b : Obj) : w.heap.size < ((w.alloc a).alloc b).drew.heap.size := Nat.lt_of_lt_of_le (Nat.lt_succ_self _) (Nat.le_of_lt (heap_lt1 w a b))
set_option maxHeartbeats 4000000 in
set_option maxRecDepth 100000 in
theorem few_sf (A : Option Addr) (c : Nat) (l : List Sf.Mem) (w : World) (hA : SeenM w A l) (hl : l.length ≤ maxLen) :
    Calls Tryz.prog 15 #[.slice A l.length c] w fun e w' => e = .returned (.bool (fewM l)) ∧ Below w.heap.size w w' := by
  unfold maxLen at hl
  have HA := Lib.hid hA
  clear hA
  by_cases h50 : l.length ≤ 50
  · have h50' : (l.length : Int) ≤ 50 := by omega
    obtain ⟨B, hB⟩ : ∃ B, fewM l = B := ⟨_, rfl⟩
    have HB : Hid (l.all fewO = B) := Lib.hid (by rw [← hB]; unfold fewM; rw [decide_eq_true h50]; simp)
    rw [hB]
    clear hB
    go_enter Tryz.func15, Tryz.ntmps15
    go_wp2_with fail
    go_loopg [3] l.length (fun k i wr => ∃ j : Nat, l.length - j = k ∧ j ≤ l.length ∧ i = .int .i64 j ∧ Below w.heap.size w wr ∧ Hid ((l.take j).all fewO = true))
    case atStart => exact ⟨0, rfl, Nat.zero_le _, rfl, Below.refl _ _, rfl⟩
    case round =>
      obtain ⟨j, hk, hj, rfl, hb, hin⟩ := hrel
      have HW := Lib.hid hb
      clear hb
      by_cases hjl : j < l.length
      · obtain ⟨g, of, rfl, hg, hc⟩ := HA.out.below HW.out (by omega)
        obtain ⟨v1, v2, v3, hsm, hc8⟩ := hc j hjl
        obtain ⟨m, hm⟩ : ∃ m, l[j] = m := ⟨_, rfl⟩
        rw [hm] at hsm hc8
        obtain ⟨A1, p1, rfl, hs1⟩ := hsm.item.is
        obtain ⟨A2, p2, rfl, hs2⟩ := hsm.items.is
        obtain ⟨A3, p3, rfl, hs3⟩ := hsm.params.is
        have HC := Lib.hid hc8
        obtain ⟨d0, d1, d2, d3, d4, d5, d6, d7⟩ := hc8
        have HM := Lib.hid hm
        have HS := Lib.hid hsm
        clear hm hc hsm hs1 hs2 hs3
        by_cases q1 : m.items.length ≤ 50
        · by_cases q2 : m.params.length ≤ 50
          · by_cases q3 : m.key.length ≤ 200
            · have q1' : (m.items.length : Int) ≤ 50 := by omega
              have q2' : (m.params.length : Int) ≤ 50 := by omega
              have q3' : (m.key.length : Int) ≤ 200 := by omega
              have hb0 : Below wr.heap.size wr wr := Below.refl _ _
              go_wp2_with fail
              go_region_held_law (fun w' => w'.cell? ⟨g, of + j * 8 + 2, none⟩ = some (.int .i64 m.item.kind) ∧ w'.cell? ⟨g, of + j * 8 + 3, none⟩ = some (.int .i64 m.item.n) ∧ w'.cell? ⟨g, of + j * 8 + 4, none⟩ = some (.string (bA m.item.text)) ∧ w'.cell? ⟨g, of + j * 8 + 5, none⟩ = some (.slice A1 m.item.params.length p1) ∧ w'.cell? ⟨g, of + j * 8 + 6, none⟩ = some (.slice A2 m.items.length p2) ∧ w'.cell? ⟨g, of + j * 8 + 7, none⟩ = some (.slice A3 m.params.length p3) ∧ Below wr.heap.size wr w')
                  (first
                    | exact rdy_all hg HC.out hb6
                    | exact rdy_all hg HC.out (below_al hb4 _)
                    | exact rdy_all hg HC.out hb4
                    | exact rdy_all hg HC.out (below_al (below_al hb0.drew _) _)
                    | exact rdy_all hg HC.out (below_al hb0.drew _)
                    | exact rdy_all hg HC.out hb0.drew)
                  (first
                    | (refine step_first rfl _ _ rfl m.items A2 p2 _ _ rfl rfl (World.alloc_heap_new wr _) (Nat.le_refl _) (below_al hb0 _).drew rfl HS.out.items q1 ?_; intro A4 c4 w4 xs4 hown4 hrow4 hb4 hfar4 hsz4)
                    | (refine step_first rfl _ _ rfl m.items A2 p2 _ _ rfl rfl (heap_first wr _ _) (Nat.le_refl _) (below_al (below_al hb0 _) _).drew rfl HS.out.items q1 ?_; intro A4 c4 w4 xs4 hown4 hrow4 hb4 hfar4 hsz4)
                    | (refine step_first rfl _ _ rfl m.items A2 p2 _ _ rfl rfl (heap_second wr _ _) (Nat.le_succ _) (below_al (below_al hb0 _) _).drew rfl HS.out.items q1 ?_; intro A4 c4 w4 xs4 hown4 hrow4 hb4 hfar4 hsz4)
                    | (refine step_second rfl _ _ rfl m A4 _ c4 _ _ _ xs4 rfl rfl (owns_keptT hown4 (KeptT.alloc _ _ _)) hrow4 (below_al hb4 _) rfl (World.alloc_heap_new w4 _) HS.out.item HS.out.params q1 ?_; intro A6 c6 w6 hsi6 hb6)
                    | (refine step_second rfl _ _ rfl m A4 _ c4 _ _ _ xs4 rfl rfl hown4 hrow4 hb4 rfl ((hfar4 _ (heap_lt1 wr _ _) (Nat.succ_ne_self _)).trans (heap_second wr _ _)) HS.out.item HS.out.params q1 ?_; intro A6 c6 w6 hsi6 hb6)
                    | (refine step_second rfl _ _ rfl m A4 _ c4 _ _ _ xs4 rfl rfl hown4 hrow4 hb4 rfl ((hfar4 _ (heap_lt0 wr _ _) (Nat.ne_of_lt (Nat.lt_succ_self _))).trans (heap_first wr _ _)) HS.out.item HS.out.params q1 ?_; intro A6 c6 w6 hsi6 hb6)
                    | fail)
              all_goals
                rename_i hHeld
                have HS6 := Lib.hid hsi6
                have HB6 := Lib.hid (onto HW.out hb6)
                clear hHeld hsi6 hb6 hown4 hrow4 hb4 hfar4 hsz4 hb0 d0 d1 d2 d3 d4 d5 d6 d7 HC HS
                have hln : (allI m).length = m.items.length + 2 := by simp [allI]
                have HO := Lib.hid (fewO_all q1 q2 q3)
                obtain ⟨L, hL⟩ : ∃ L, allI m = L := ⟨_, rfl⟩
                rw [hL] at HS6 hln HO
                obtain ⟨nl, hnl⟩ : ∃ nl, m.items.length + 2 = nl := ⟨_, rfl⟩
                have hx : ((m.items.length : Int) + 2) = (nl : Int) := by omega
                rw [hnl] at HS6 hln ⊢
                have hL52 : nl ≤ 52 := by omega
                clear hL hnl hx q1 q2 q3 q1' q2' q3'
                subst hln
                go_wp2_with fail
                go_loopg [5] L.length (fun k i w7 => ∃ q : Nat, L.length - q = k ∧ q ≤ L.length ∧ i = .int .i64 q ∧ w7 = w6 ∧ Hid ((L.take q).all fewI = true))
                case atStart => exact ⟨0, rfl, Nat.zero_le _, rfl, rfl, rfl⟩
                case round =>
                  obtain ⟨q, hk6, hq, rfl, rfl, hin6⟩ := hrel
                  by_cases hql : q < L.length
                  · obtain ⟨B6, d6, e6, hs6⟩ := HS6.out.is
                    injection e6 with e61 e62 e63
                    subst e61
                    clear e62 e63 d6
                    obtain ⟨gi, oi, rfl, hgi, hci⟩ := hs6 (by omega)
                    obtain ⟨vi, hvi, f0, f1, f2, f3⟩ := hci q hql
                    obtain ⟨x, hxe⟩ : ∃ x, L[q] = x := ⟨_, rfl⟩
                    rw [hxe] at hvi f2
                    obtain ⟨Ai, pi, rfl, hsi⟩ := hvi.is
                    have HI := Lib.hid hsi; have HXE := Lib.hid hxe
                    clear f0 f1 hci hs6 hvi hxe hsi
                    by_cases r1 : x.params.length ≤ 50
                    · by_cases r2 : x.text.length ≤ 200
                      · have r1' : (x.params.length : Int) ≤ 50 := by omega
                        have r2' : (x.text.length : Int) ≤ 200 := by omega
                        have HF : Hid (fewI x = x.params.all fewP) := Lib.hid (by unfold fewI; simp [r1, r2])
                        clear r1 r2
                        go_wp2_with fail
                        go_loopg [6] x.params.length (fun k i w8 => ∃ p : Nat, x.params.length - p = k ∧ p ≤ x.params.length ∧ i = .int .i64 p ∧ w8 = wr ∧ Hid ((x.params.take p).all fewP = true))
                        case atStart => exact ⟨0, rfl, Nat.zero_le _, rfl, rfl, rfl⟩
                        case round =>
                          obtain ⟨p, hk8, hp, rfl, rfl, hin8⟩ := hrel
                          by_cases hpl : p < x.params.length
                          · obtain ⟨gp, op, rfl, hgp, hcp⟩ := HI.out (by omega)
                            obtain ⟨y0, _, _, y3⟩ := hcp p hpl
                            obtain ⟨y, hye⟩ : ∃ y, x.params[p] = y := ⟨_, rfl⟩
                            rw [hye] at y0 y3
                            have HYE := Lib.hid hye
                            clear hcp hye
                            by_cases t1 : y.key.length ≤ 200
                            · by_cases t2 : y.text.length ≤ 200
                              · have t1' : (y.key.length : Int) ≤ 200 := by omega
                                have t2' : (y.text.length : Int) ≤ 200 := by omega
                                have HP : Hid (fewP y = true) := Lib.hid (by unfold fewP; simp [t1, t2])
                                clear t1 t2
                                go_wp2_with fail
                                go_roundg (x.params.length - (p + 1))
                                case measure => omega
                                case rel => exact ⟨p + 1, rfl, by omega, by go_num, rfl, all_next hpl HYE.out HP.out hin8.out⟩
                              · have t1' : (y.key.length : Int) ≤ 200 := by omega
                                have t2' : (200 : Int) < (y.text.length : Int) := by omega
                                have HP : Hid (fewP y = false) := Lib.hid (by unfold fewP; simp [t2])
                                clear t1 t2
                                go_wp2_with fail
                                go_ret
                                exact ⟨Oct.ret_bool (HB.out.symm.trans (all_miss hjl HM.out (HO.out.trans (all_miss hql HXE.out (HF.out.trans (all_miss hpl HYE.out HP.out)))))).symm, HB6.out⟩
                            · have t1' : (200 : Int) < (y.key.length : Int) := by omega
                              have HP : Hid (fewP y = false) := Lib.hid (by unfold fewP; simp [t1])
                              clear t1
                              go_wp2_with fail
                              go_ret
                              exact ⟨Oct.ret_bool (HB.out.symm.trans (all_miss hjl HM.out (HO.out.trans (all_miss hql HXE.out (HF.out.trans (all_miss hpl HYE.out HP.out)))))).symm, HB6.out⟩
                          · go_wp2_with fail
                            go_roundg (L.length - (q + 1))
                            case measure => omega
                            case rel => exact ⟨q + 1, rfl, by omega, by go_num, rfl, all_next hql HXE.out (HF.out.trans (all_end (by omega) hin8.out)) hin6.out⟩
                      · have r1' : (x.params.length : Int) ≤ 50 := by omega
                        have r2' : (200 : Int) < (x.text.length : Int) := by omega
                        have HF : Hid (fewI x = false) := Lib.hid (by unfold fewI; simp [r2])
                        clear r1 r2
                        go_wp2_with fail
                        go_ret
                        exact ⟨Oct.ret_bool (HB.out.symm.trans (all_miss hjl HM.out (HO.out.trans (all_miss hql HXE.out HF.out)))).symm, HB6.out⟩
                    · have r1' : (50 : Int) < (x.params.length : Int) := by omega
                      have HF : Hid (fewI x = false) := Lib.hid (by unfold fewI; simp [r1])
                      clear r1
                      go_wp2_with fail
                      go_ret
                      exact ⟨Oct.ret_bool (HB.out.symm.trans (all_miss hjl HM.out (HO.out.trans (all_miss hql HXE.out HF.out)))).symm, HB6.out⟩
                  · go_wp2_with fail
                    go_roundg (l.length - (j + 1))
                    case measure => omega
                    case rel => exact ⟨j + 1, rfl, by omega, by go_num, HB6.out, all_next hjl HM.out (HO.out.trans (all_end (by omega) hin6.out)) hin.out⟩
            · have hh : fewO m = false := fewO_no (fun h => q3 h.2.2)
              have q1' : (m.items.length : Int) ≤ 50 := by omega
              have q2' : (m.params.length : Int) ≤ 50 := by omega
              have q3' : (200 : Int) < (m.key.length : Int) := by omega
              have HR := Lib.hid (all_miss hjl HM.out hh)
              clear hh q1 q2 q3
              go_wp2_with fail
              go_ret
              exact ⟨Oct.ret_bool (HB.out.symm.trans HR.out).symm, HW.out⟩
          · have hh : fewO m = false := fewO_no (fun h => q2 h.2.1)
            have q1' : (m.items.length : Int) ≤ 50 := by omega
            have q2' : (50 : Int) < (m.params.length : Int) := by omega
            have HR := Lib.hid (all_miss hjl HM.out hh)
            clear hh q1 q2
            go_wp2_with fail
            go_ret
            exact ⟨Oct.ret_bool (HB.out.symm.trans HR.out).symm, HW.out⟩
        · have hh : fewO m = false := fewO_no (fun h => q1 h.1)
          have q1' : (50 : Int) < (m.items.length : Int) := by omega
          have HR := Lib.hid (all_miss hjl HM.out hh)
          clear hh q1
          go_wp2_with fail
          go_ret
          exact ⟨Oct.ret_bool (HB.out.symm.trans HR.out).symm, HW.out⟩
      · go_wp2_with fail
        go_ret
        exact ⟨Oct.ret_bool (HB.out.symm.trans (all_end (by omega) hin.out)).symm, HW.out⟩
  · have hf : fewM l = false := by unfold fewM; rw [decide_eq_false h50]; rfl
    have h50' : (50 : Int) < (l.length : Int) := by omega
    rw [hf]
    clear hf
    go_enter Tryz.func15, Tryz.ntmps15
    go_wp2_with fail
    go_ret
    exact ⟨rfl, Below.refl _ _⟩
end Go.Proofs.YtogjekjklknfeaaGreatDoor
