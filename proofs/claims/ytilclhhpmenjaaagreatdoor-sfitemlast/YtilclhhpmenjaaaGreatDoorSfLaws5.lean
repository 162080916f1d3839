/- The walk of SfitemLast. (Written by mkl.py.) -/
import Derived.Test.YtilclhhpmenjaaaGreatDoorSfLaws4
import Derived.OpenShut
import Derived.Deep.LoopGhost
namespace Go.Proofs.YtilclhhpmenjaaaGreatDoor
open Go.RowKit Go.Shelf Go.Maps Go.Deep

theorem app77 (t k : List UInt8) : ((bA t ++ ⟨#[59]⟩) ++ bA k) ++ ⟨#[61, 55, 55]⟩ = bA (t ++ 59 :: (k ++ [61, 55, 55])) := by
  have h1 : (⟨#[59]⟩ : ByteArray) = bA [59] := rfl
  have h2 : (⟨#[61, 55, 55]⟩ : ByteArray) = bA [61, 55, 55] := rfl
  rw [h1, h2, bA_app, bA_app, bA_app]
  simp

set_option maxHeartbeats 8000000 in
set_option maxRecDepth 100000 in
theorem walk_SfitemLast (s : ByteArray) (n : Int) (w : World) (hs : s.size ≤ maxLen) (hn : (Lit.int .i64 n).wf = true) (hT : Tab w) (hM : TabM w) :
    Calls Tryz.prog 9 #[.string s, .int .i64 n] w fun e w' => e = .returned (.bool true) ∧ Below w.heap.size w w' := by
  unfold maxLen at hs
  obtain ⟨n0, n1⟩ : -9223372036854775808 ≤ n ∧ n ≤ 9223372036854775807 := bounds_i64 hn
  have H := Lib.hid (awake_any w hT hM)
  have HT := Lib.hid hT; have HM := Lib.hid hM
  clear hT hM hn
  have hll : s.data.toList.length = s.size := by simp
  cases hps : Sf.parse s.data.toList with
  | none =>
    have HP : Hid (∀ W : World, Calls Tryz.prog 13 #[.string s] W fun e w' => e = .returned (.tuple #[.agg #[.int .i64 0, .int .i64 0, .string ⟨#[]⟩, .slice none 0 0], .int .i64 50]) ∧ Below W.heap.size W w') := Lib.hid (fun W => parse_none hps W)
    clear hps
    go_enter Tryz.func9, Tryz.ntmps9
    go_wp2_with fail
    refine H.out.mono ?_
    rintro e w1 ⟨rfl, hb1⟩
    have HB1 := Lib.hid hb1
    clear hb1
    go_wp2_with fail
    refine (HP.out _).mono ?_
    rintro e w2 ⟨rfl, hb2⟩
    have HB2 := Lib.hid (below_al (onto HB1.out hb2) (.cells (iC 0 0 [] (.slice none 0 0)) 25))
    clear hb2
    go_wp2_with fail
    go_ret
    exact ⟨rfl, HB2.out⟩
  | some x =>
    have HP : Hid (∀ W : World, Calls Tryz.prog 13 #[.string s] W fun e w' => ∃ A c, e = .returned (.tuple #[.agg #[.int .i64 x.kind, .int .i64 x.n, .string (bA x.text), .slice A x.params.length c], .int .i64 0]) ∧ Below W.heap.size W w' ∧ w'.ownsRow W.heap.size 44 4 (.slice A x.params.length c) x.params.length (parsRow x.params)) := Lib.hid (fun W => parse_some hps W)
    by_cases hz : x.params.length = 0
    · have hz' : ((x.params.length : Int) == 0) = true := by rw [hz]; rfl
      clear hps hz
      go_enter Tryz.func9, Tryz.ntmps9
      go_wp2_with fail
      refine H.out.mono ?_
      rintro e w1 ⟨rfl, hb1⟩
      have HB1 := Lib.hid hb1
      clear hb1
      go_wp2_with fail
      refine (HP.out _).mono ?_
      rintro e w2 ⟨A2, cp2, rfl, hb2, ho2⟩
      have HB2 := Lib.hid (below_al (onto HB1.out hb2) (.cells (iC x.kind x.n x.text (.slice A2 x.params.length cp2)) 25))
      have HX2 := Lib.hid (IBox.new (k := x.kind) (n := x.n) (t := x.text) ho2)
      clear hb2 ho2
      go_wp2_with fail
      go_ret
      exact ⟨rfl, HB2.out⟩
    · have hz' : ((x.params.length : Int) == 0) = false := by simp; intro h; rw [h] at hz; exact hz rfl
      by_cases hl : 1000 < s.size
      · have hl' : (1000 : Int) < (s.size : Int) := by omega
        clear hps
        go_enter Tryz.func9, Tryz.ntmps9
        go_wp2_with fail
        refine H.out.mono ?_
        rintro e w1 ⟨rfl, hb1⟩
        have HB1 := Lib.hid hb1
        clear hb1
        go_wp2_with fail
        refine (HP.out _).mono ?_
        rintro e w2 ⟨A2, cp2, rfl, hb2, ho2⟩
        have HB2 := Lib.hid (below_al (onto HB1.out hb2) (.cells (iC x.kind x.n x.text (.slice A2 x.params.length cp2)) 25))
        have HX2 := Lib.hid (IBox.new (k := x.kind) (n := x.n) (t := x.text) ho2)
        clear hb2 ho2
        go_wp2_with fail
        go_ret
        exact ⟨rfl, HB2.out⟩
      · have hl' : (s.size : Int) ≤ 1000 := by omega
        obtain ⟨tx, htx, htl, _⟩ := Sf.parse_again hps
        obtain ⟨_, _, hvl, _, _⟩ := Sf.parse_ok hps
        have HYT := Lib.hid (fun (A : Option Addr) (c : Nat) (W : World) (a : SeenP W A x.params) (b : Tab W) (d : TabM W) => text_yes htx (small_parse hps) A c W a b d)
        have hxl : x.params.length ≤ 10000 := (small_parse hps).params.len
        obtain ⟨N, hN⟩ : ∃ N : Nat, (if n < 0 then -(n + 1) else n) = (N : Int) := ⟨(if n < 0 then -(n + 1) else n).toNat, by split <;> omega⟩
        have hi : N % x.params.length < x.params.length := Nat.mod_lt _ (by omega)
        have hrem : (N : Int).tmod (x.params.length : Int) = ((N % x.params.length : Nat) : Int) := by rw [Int.tmod_eq_emod_of_nonneg (by omega)]; rfl
        obtain ⟨i, hie⟩ : ∃ i, N % x.params.length = i := ⟨_, rfl⟩
        rw [hie] at hi hrem
        have hkl : x.params[i].key.length ≤ 1000 := by
          have h1 := T_short hvl.may
          have h2 := ptext_short (Sf.pt_some (hvl.may _ (List.getElem_mem hi)))
          have h3 := h1.2 _ (List.getElem_mem hi)
          obtain ⟨v, _, _, e⟩ := Sf.text_ways htx
          rw [e, List.length_append] at htl
          omega
        have hpl := Sf.parse_last htx (k := x.params[i].key) (List.mem_map.2 ⟨_, List.getElem_mem hi, rfl⟩) (by simp; omega)
        have HPL := Lib.hid (fun (W : World) => parse_some hpl W)
        have HRA := Lib.hid (fun (j : Nat) (hj : j < x.params.length) => Sf.rep_at hvl.nodup hi hj)
        obtain ⟨m, hm⟩ : ∃ m, x.params.map (Sf.rep (Sf.p77 x.params[i].key)) = m := ⟨_, rfl⟩
        have hml : m.length = x.params.length := by rw [← hm]; simp
        rw [hm] at HPL HRA
        obtain ⟨ky, hky⟩ : ∃ ky, x.params[i].key = ky := ⟨_, rfl⟩
        rw [hky] at HPL
        have HKY := Lib.hid hky
        rw [hky] at hkl
        have htl' : tx.length ≤ 1000 := by omega
        simp only [hml] at HPL
        clear hps htx hvl hpl hm hie hky htl hll
        by_cases hneg : n < 0
        · have hN' : -(n + 1) = (N : Int) := by rw [if_pos hneg] at hN; exact hN
          go_enter Tryz.func9, Tryz.ntmps9
          go_wp2_with fail
          refine H.out.mono ?_
          rintro e w1 ⟨rfl, hb1⟩
          have HB1 := Lib.hid hb1
          clear hb1
          go_wp2_with fail
          refine (HP.out _).mono ?_
          rintro e w2 ⟨A2, cp2, rfl, hb2, ho2⟩
          have HB2 := Lib.hid (below_al (onto HB1.out hb2) (.cells (iC x.kind x.n x.text (.slice A2 x.params.length cp2)) 25))
          have HX2 := Lib.hid (IBox.new (k := x.kind) (n := x.n) (t := x.text) ho2)
          clear hb2 ho2
          go_wp2_with fail
          refine (HYT.out _ _ _ HX2.out.seen (HT.out.below HB2.out) (HM.out.below HB2.out)).mono ?_
          rintro e w3 ⟨rfl, hb3⟩
          have HB3 := Lib.hid (onto HB2.out hb3)
          have HX3 := Lib.hid (HX2.out.keep hb3)
          obtain ⟨c0, c1, c2, c3⟩ := HX3.out.cells
          obtain ⟨g, o, rfl, hgl, hc⟩ := HX3.out.seen (by omega)
          obtain ⟨a0, _, _, _⟩ := hc i hi
          rw [HKY.out] at a0
          clear hb3 HX2 HYT hc
          have h77 := app77 tx ky
          go_wp2_with fail
          refine (HPL.out _).mono ?_
          rintro e w4 ⟨A4, cp4, rfl, hb4, ho4⟩
          have HB4 := Lib.hid (below_al (onto HB3.out hb4) (.cells (iC x.kind x.n x.text (.slice A4 x.params.length cp4)) 25))
          have hx4 := HX3.out.keep hb4
          have hlt4 := hx4.lt
          have HX4 := Lib.hid (hx4.alloc (.cells (iC x.kind x.n x.text (.slice A4 x.params.length cp4)) 25))
          have HY4 : Hid (CBox (w4.alloc (.cells (iC x.kind x.n x.text (.slice A4 x.params.length cp4)) 25)) w4.heap.size 25 (iC x.kind x.n x.text (.slice A4 x.params.length cp4))) := Lib.hid (CBox.new _ _ _)
          have HS4 : Hid (SeenP w4 A4 m) := Lib.hid (by rw [← hml] at ho4; exact SeenP.own ho4)
          have HS5 := Lib.hid (HS4.out.below (below_al (Below.refl _ _) (.cells (iC x.kind x.n x.text (.slice A4 x.params.length cp4)) 25)))
          obtain ⟨c0, c1, c2, c3⟩ := hx4.cells
          have hne : ¬ w2.heap.size = w4.heap.size := by omega
          clear hb4 ho4 hx4 HX3 HPL h77
          go_wp2_with fail
          have hW : (w4.alloc (.cells (iC x.kind x.n x.text (.slice A4 x.params.length cp4)) 25)).heap.size = w4.heap.size + 1 := by simp
          go_loopw [13] (fun v wr => ∃ j : Nat, j ≤ x.params.length ∧ v = .int .i64 j ∧ Hid (Below (w4.alloc (.cells (iC x.kind x.n x.text (.slice A4 x.params.length cp4)) 25)).heap.size (w4.alloc (.cells (iC x.kind x.n x.text (.slice A4 x.params.length cp4)) 25)) wr)) (fun v _ => x.params.length - (intOf v).toNat)
          case atStart => exact ⟨0, Nat.zero_le _, rfl, Lib.hid (Below.refl _ _)⟩
          case round =>
            obtain ⟨j, hj, rfl, HBr⟩ := hrel
            have hsz := HBr.out.size
            rw [hW] at hsz
            have HSZ := Lib.hid hsz
            have hxr := HX4.out.keep HBr.out
            obtain ⟨_, _, _, e3⟩ := hxr.cells
            obtain ⟨_, _, _, f3, _, _, _, _⟩ := (HY4.out.keep HBr.out).all4
            by_cases hjl : j < x.params.length
            · obtain ⟨g', o', hgo, hgl', hc⟩ := hxr.seen (by omega)
              cases hgo
              obtain ⟨r0, r1, r2, r3⟩ := hc j hjl
              clear a0
              have hjm : j < m.length := by omega
              obtain ⟨g4, o4, rfl, hgl4, hc4⟩ := (HS5.out.below HBr.out) (by omega)
              obtain ⟨b0, b1, b2, b3⟩ := hc4 j hjm
              have hra := HRA.out j hjl
              rw [List.getElem?_eq_getElem hjm] at hra
              have hra' := Option.some.inj hra
              have hn1 : ¬ g = wr.heap.size := by omega
              have hn2 : ¬ g4 = wr.heap.size := by omega
              have hn3 : ¬ w2.heap.size = wr.heap.size := by omega
              have hn4 : ¬ w4.heap.size = wr.heap.size := by omega
              by_cases hji : j = i
              · subst hji
                rw [if_pos rfl, HKY.out] at hra'
                rw [hra'] at b0 b1 b2 b3
                rw [HKY.out] at r0
                simp only [Sf.p77] at b0 b1 b2 b3
                obtain ⟨q, hq⟩ : ∃ q, x.params[j] = q := ⟨_, rfl⟩
                rw [hq] at r1 r2 r3
                have hE : ∀ W : World, (Op.equalIn 10000 44 (.agg #[.string (bA ky), .int .i64 1, .int .i64 77, .string ⟨#[]⟩]) (.agg #[.string (bA ky), .int .i64 1, .int .i64 77, .string ⟨#[]⟩])).run Tryz.prog W = .ok true W := fun W => by
                  have := eqIn_par (Sf.p77 ky) (Sf.p77 ky) W
                  rw [eqP_iff.2 rfl] at this
                  exact this
                clear hra hra' hc hc4 hxr hq hgl' hsz
                go_wp2_with fail
                have hbw : Below wr.heap.size wr (wr.alloc (.cells #[.string (bA ky), .int .i64 1, .int .i64 77, .string ⟨#[]⟩] 44)) := (Below.refl _ _).alloc (Nat.le_refl _) _
                have q3 : (wr.alloc (.cells #[.string (bA ky), .int .i64 1, .int .i64 77, .string ⟨#[]⟩] 44)).cell? ⟨w4.heap.size, 3, none⟩ = _ := (hbw.cell (show w4.heap.size < wr.heap.size by have := HSZ.out; omega)).trans f3
                have q0 : (wr.alloc (.cells #[.string (bA ky), .int .i64 1, .int .i64 77, .string ⟨#[]⟩] 44)).cell? ⟨g4, o4 + j * 4, none⟩ = _ := (hbw.cell hgl4).trans b0
                have q1 : (wr.alloc (.cells #[.string (bA ky), .int .i64 1, .int .i64 77, .string ⟨#[]⟩] 44)).cell? ⟨g4, o4 + j * 4 + 1, none⟩ = _ := (hbw.cell hgl4).trans b1
                have q2 : (wr.alloc (.cells #[.string (bA ky), .int .i64 1, .int .i64 77, .string ⟨#[]⟩] 44)).cell? ⟨g4, o4 + j * 4 + 2, none⟩ = _ := (hbw.cell hgl4).trans b2
                have q4 : (wr.alloc (.cells #[.string (bA ky), .int .i64 1, .int .i64 77, .string ⟨#[]⟩] 44)).cell? ⟨g4, o4 + j * 4 + 3, none⟩ = _ := (hbw.cell hgl4).trans b3
                obtain ⟨z0, z1, z2, z3, _, _, _, _⟩ := (CBox.new wr 44 #[.string (bA ky), .int .i64 1, .int .i64 77, .string ⟨#[]⟩]).all4
                clear hbw hgl4
                go_quiet (fail)
                go_wp2_with fail
                go_roundw
                case rel => exact ⟨j + 1, by omega, by go_num, Lib.hid ((HBr.out.alloc (by rw [hW]; exact HSZ.out) _).trans ⟨rfl, rfl, rfl, Nat.le_refl _, fun _ _ => rfl⟩)⟩
                case measure => simp [intOf]; omega
              · rw [if_neg hji] at hra'
                rw [hra'] at b0 b1 b2 b3
                obtain ⟨q, hq⟩ : ∃ q, x.params[j] = q := ⟨_, rfl⟩
                rw [hq] at r0 r1 r2 r3 b0 b1 b2 b3
                have hE : ∀ W : World, (Op.equalIn 10000 44 (.agg #[.string (bA q.key), .int .i64 q.kind, .int .i64 q.n, .string (bA q.text)]) (.agg #[.string (bA q.key), .int .i64 q.kind, .int .i64 q.n, .string (bA q.text)])).run Tryz.prog W = .ok true W := fun W => by
                  have := eqIn_par q q W
                  rw [eqP_iff.2 rfl] at this
                  exact this
                have hji' : ((j : Int) == (i : Int)) = false := by simp; omega
                clear hra hra' hc hc4 hxr hq hgl' hsz
                go_wp2_with fail
                have hbw : Below wr.heap.size wr (wr.alloc (.cells #[.string (bA q.key), .int .i64 q.kind, .int .i64 q.n, .string (bA q.text)] 44)) := (Below.refl _ _).alloc (Nat.le_refl _) _
                have q3 : (wr.alloc (.cells #[.string (bA q.key), .int .i64 q.kind, .int .i64 q.n, .string (bA q.text)] 44)).cell? ⟨w4.heap.size, 3, none⟩ = _ := (hbw.cell (show w4.heap.size < wr.heap.size by have := HSZ.out; omega)).trans f3
                have q0 : (wr.alloc (.cells #[.string (bA q.key), .int .i64 q.kind, .int .i64 q.n, .string (bA q.text)] 44)).cell? ⟨g4, o4 + j * 4, none⟩ = _ := (hbw.cell hgl4).trans b0
                have q1 : (wr.alloc (.cells #[.string (bA q.key), .int .i64 q.kind, .int .i64 q.n, .string (bA q.text)] 44)).cell? ⟨g4, o4 + j * 4 + 1, none⟩ = _ := (hbw.cell hgl4).trans b1
                have q2 : (wr.alloc (.cells #[.string (bA q.key), .int .i64 q.kind, .int .i64 q.n, .string (bA q.text)] 44)).cell? ⟨g4, o4 + j * 4 + 2, none⟩ = _ := (hbw.cell hgl4).trans b2
                have q4 : (wr.alloc (.cells #[.string (bA q.key), .int .i64 q.kind, .int .i64 q.n, .string (bA q.text)] 44)).cell? ⟨g4, o4 + j * 4 + 3, none⟩ = _ := (hbw.cell hgl4).trans b3
                obtain ⟨z0, z1, z2, z3, _, _, _, _⟩ := (CBox.new wr 44 #[.string (bA q.key), .int .i64 q.kind, .int .i64 q.n, .string (bA q.text)]).all4
                clear hbw hgl4
                go_quiet (fail)
                go_wp2_with fail
                go_roundw
                case rel => exact ⟨j + 1, by omega, by go_num, Lib.hid ((HBr.out.alloc (by rw [hW]; exact HSZ.out) _).trans ⟨rfl, rfl, rfl, Nat.le_refl _, fun _ _ => rfl⟩)⟩
                case measure => simp [intOf]; omega
            · go_wp2_with fail
              go_ret
              exact ⟨rfl, HB4.out.trans (HBr.out.mono (by have := HB4.out.size; omega))⟩
        · have hN' : n = (N : Int) := by rw [if_neg hneg] at hN; exact hN
          subst hN'
          go_enter Tryz.func9, Tryz.ntmps9
          go_wp2_with fail
          refine H.out.mono ?_
          rintro e w1 ⟨rfl, hb1⟩
          have HB1 := Lib.hid hb1
          clear hb1
          go_wp2_with fail
          refine (HP.out _).mono ?_
          rintro e w2 ⟨A2, cp2, rfl, hb2, ho2⟩
          have HB2 := Lib.hid (below_al (onto HB1.out hb2) (.cells (iC x.kind x.n x.text (.slice A2 x.params.length cp2)) 25))
          have HX2 := Lib.hid (IBox.new (k := x.kind) (n := x.n) (t := x.text) ho2)
          clear hb2 ho2
          go_wp2_with fail
          refine (HYT.out _ _ _ HX2.out.seen (HT.out.below HB2.out) (HM.out.below HB2.out)).mono ?_
          rintro e w3 ⟨rfl, hb3⟩
          have HB3 := Lib.hid (onto HB2.out hb3)
          have HX3 := Lib.hid (HX2.out.keep hb3)
          obtain ⟨c0, c1, c2, c3⟩ := HX3.out.cells
          obtain ⟨g, o, rfl, hgl, hc⟩ := HX3.out.seen (by omega)
          obtain ⟨a0, _, _, _⟩ := hc i hi
          rw [HKY.out] at a0
          clear hb3 HX2 HYT hc
          have h77 := app77 tx ky
          go_wp2_with fail
          refine (HPL.out _).mono ?_
          rintro e w4 ⟨A4, cp4, rfl, hb4, ho4⟩
          have HB4 := Lib.hid (below_al (onto HB3.out hb4) (.cells (iC x.kind x.n x.text (.slice A4 x.params.length cp4)) 25))
          have hx4 := HX3.out.keep hb4
          have hlt4 := hx4.lt
          have HX4 := Lib.hid (hx4.alloc (.cells (iC x.kind x.n x.text (.slice A4 x.params.length cp4)) 25))
          have HY4 : Hid (CBox (w4.alloc (.cells (iC x.kind x.n x.text (.slice A4 x.params.length cp4)) 25)) w4.heap.size 25 (iC x.kind x.n x.text (.slice A4 x.params.length cp4))) := Lib.hid (CBox.new _ _ _)
          have HS4 : Hid (SeenP w4 A4 m) := Lib.hid (by rw [← hml] at ho4; exact SeenP.own ho4)
          have HS5 := Lib.hid (HS4.out.below (below_al (Below.refl _ _) (.cells (iC x.kind x.n x.text (.slice A4 x.params.length cp4)) 25)))
          obtain ⟨c0, c1, c2, c3⟩ := hx4.cells
          have hne : ¬ w2.heap.size = w4.heap.size := by omega
          clear hb4 ho4 hx4 HX3 HPL h77
          go_wp2_with fail
          have hW : (w4.alloc (.cells (iC x.kind x.n x.text (.slice A4 x.params.length cp4)) 25)).heap.size = w4.heap.size + 1 := by simp
          go_loopw [13] (fun v wr => ∃ j : Nat, j ≤ x.params.length ∧ v = .int .i64 j ∧ Hid (Below (w4.alloc (.cells (iC x.kind x.n x.text (.slice A4 x.params.length cp4)) 25)).heap.size (w4.alloc (.cells (iC x.kind x.n x.text (.slice A4 x.params.length cp4)) 25)) wr)) (fun v _ => x.params.length - (intOf v).toNat)
          case atStart => exact ⟨0, Nat.zero_le _, rfl, Lib.hid (Below.refl _ _)⟩
          case round =>
            obtain ⟨j, hj, rfl, HBr⟩ := hrel
            have hsz := HBr.out.size
            rw [hW] at hsz
            have HSZ := Lib.hid hsz
            have hxr := HX4.out.keep HBr.out
            obtain ⟨_, _, _, e3⟩ := hxr.cells
            obtain ⟨_, _, _, f3, _, _, _, _⟩ := (HY4.out.keep HBr.out).all4
            by_cases hjl : j < x.params.length
            · obtain ⟨g', o', hgo, hgl', hc⟩ := hxr.seen (by omega)
              cases hgo
              obtain ⟨r0, r1, r2, r3⟩ := hc j hjl
              clear a0
              have hjm : j < m.length := by omega
              obtain ⟨g4, o4, rfl, hgl4, hc4⟩ := (HS5.out.below HBr.out) (by omega)
              obtain ⟨b0, b1, b2, b3⟩ := hc4 j hjm
              have hra := HRA.out j hjl
              rw [List.getElem?_eq_getElem hjm] at hra
              have hra' := Option.some.inj hra
              have hn1 : ¬ g = wr.heap.size := by omega
              have hn2 : ¬ g4 = wr.heap.size := by omega
              have hn3 : ¬ w2.heap.size = wr.heap.size := by omega
              have hn4 : ¬ w4.heap.size = wr.heap.size := by omega
              by_cases hji : j = i
              · subst hji
                rw [if_pos rfl, HKY.out] at hra'
                rw [hra'] at b0 b1 b2 b3
                rw [HKY.out] at r0
                simp only [Sf.p77] at b0 b1 b2 b3
                obtain ⟨q, hq⟩ : ∃ q, x.params[j] = q := ⟨_, rfl⟩
                rw [hq] at r1 r2 r3
                have hE : ∀ W : World, (Op.equalIn 10000 44 (.agg #[.string (bA ky), .int .i64 1, .int .i64 77, .string ⟨#[]⟩]) (.agg #[.string (bA ky), .int .i64 1, .int .i64 77, .string ⟨#[]⟩])).run Tryz.prog W = .ok true W := fun W => by
                  have := eqIn_par (Sf.p77 ky) (Sf.p77 ky) W
                  rw [eqP_iff.2 rfl] at this
                  exact this
                clear hra hra' hc hc4 hxr hq hgl' hsz
                go_wp2_with fail
                have hbw : Below wr.heap.size wr (wr.alloc (.cells #[.string (bA ky), .int .i64 1, .int .i64 77, .string ⟨#[]⟩] 44)) := (Below.refl _ _).alloc (Nat.le_refl _) _
                have q3 : (wr.alloc (.cells #[.string (bA ky), .int .i64 1, .int .i64 77, .string ⟨#[]⟩] 44)).cell? ⟨w4.heap.size, 3, none⟩ = _ := (hbw.cell (show w4.heap.size < wr.heap.size by have := HSZ.out; omega)).trans f3
                have q0 : (wr.alloc (.cells #[.string (bA ky), .int .i64 1, .int .i64 77, .string ⟨#[]⟩] 44)).cell? ⟨g4, o4 + j * 4, none⟩ = _ := (hbw.cell hgl4).trans b0
                have q1 : (wr.alloc (.cells #[.string (bA ky), .int .i64 1, .int .i64 77, .string ⟨#[]⟩] 44)).cell? ⟨g4, o4 + j * 4 + 1, none⟩ = _ := (hbw.cell hgl4).trans b1
                have q2 : (wr.alloc (.cells #[.string (bA ky), .int .i64 1, .int .i64 77, .string ⟨#[]⟩] 44)).cell? ⟨g4, o4 + j * 4 + 2, none⟩ = _ := (hbw.cell hgl4).trans b2
                have q4 : (wr.alloc (.cells #[.string (bA ky), .int .i64 1, .int .i64 77, .string ⟨#[]⟩] 44)).cell? ⟨g4, o4 + j * 4 + 3, none⟩ = _ := (hbw.cell hgl4).trans b3
                obtain ⟨z0, z1, z2, z3, _, _, _, _⟩ := (CBox.new wr 44 #[.string (bA ky), .int .i64 1, .int .i64 77, .string ⟨#[]⟩]).all4
                clear hbw hgl4
                go_quiet (fail)
                go_wp2_with fail
                go_roundw
                case rel => exact ⟨j + 1, by omega, by go_num, Lib.hid ((HBr.out.alloc (by rw [hW]; exact HSZ.out) _).trans ⟨rfl, rfl, rfl, Nat.le_refl _, fun _ _ => rfl⟩)⟩
                case measure => simp [intOf]; omega
              · rw [if_neg hji] at hra'
                rw [hra'] at b0 b1 b2 b3
                obtain ⟨q, hq⟩ : ∃ q, x.params[j] = q := ⟨_, rfl⟩
                rw [hq] at r0 r1 r2 r3 b0 b1 b2 b3
                have hE : ∀ W : World, (Op.equalIn 10000 44 (.agg #[.string (bA q.key), .int .i64 q.kind, .int .i64 q.n, .string (bA q.text)]) (.agg #[.string (bA q.key), .int .i64 q.kind, .int .i64 q.n, .string (bA q.text)])).run Tryz.prog W = .ok true W := fun W => by
                  have := eqIn_par q q W
                  rw [eqP_iff.2 rfl] at this
                  exact this
                have hji' : ((j : Int) == (i : Int)) = false := by simp; omega
                clear hra hra' hc hc4 hxr hq hgl' hsz
                go_wp2_with fail
                have hbw : Below wr.heap.size wr (wr.alloc (.cells #[.string (bA q.key), .int .i64 q.kind, .int .i64 q.n, .string (bA q.text)] 44)) := (Below.refl _ _).alloc (Nat.le_refl _) _
                have q3 : (wr.alloc (.cells #[.string (bA q.key), .int .i64 q.kind, .int .i64 q.n, .string (bA q.text)] 44)).cell? ⟨w4.heap.size, 3, none⟩ = _ := (hbw.cell (show w4.heap.size < wr.heap.size by have := HSZ.out; omega)).trans f3
                have q0 : (wr.alloc (.cells #[.string (bA q.key), .int .i64 q.kind, .int .i64 q.n, .string (bA q.text)] 44)).cell? ⟨g4, o4 + j * 4, none⟩ = _ := (hbw.cell hgl4).trans b0
                have q1 : (wr.alloc (.cells #[.string (bA q.key), .int .i64 q.kind, .int .i64 q.n, .string (bA q.text)] 44)).cell? ⟨g4, o4 + j * 4 + 1, none⟩ = _ := (hbw.cell hgl4).trans b1
                have q2 : (wr.alloc (.cells #[.string (bA q.key), .int .i64 q.kind, .int .i64 q.n, .string (bA q.text)] 44)).cell? ⟨g4, o4 + j * 4 + 2, none⟩ = _ := (hbw.cell hgl4).trans b2
                have q4 : (wr.alloc (.cells #[.string (bA q.key), .int .i64 q.kind, .int .i64 q.n, .string (bA q.text)] 44)).cell? ⟨g4, o4 + j * 4 + 3, none⟩ = _ := (hbw.cell hgl4).trans b3
                obtain ⟨z0, z1, z2, z3, _, _, _, _⟩ := (CBox.new wr 44 #[.string (bA q.key), .int .i64 q.kind, .int .i64 q.n, .string (bA q.text)]).all4
                clear hbw hgl4
                go_quiet (fail)
                go_wp2_with fail
                go_roundw
                case rel => exact ⟨j + 1, by omega, by go_num, Lib.hid ((HBr.out.alloc (by rw [hW]; exact HSZ.out) _).trans ⟨rfl, rfl, rfl, Nat.le_refl _, fun _ _ => rfl⟩)⟩
                case measure => simp [intOf]; omega
            · go_wp2_with fail
              go_ret
              exact ⟨rfl, HB4.out.trans (HBr.out.mono (by have := HB4.out.size; omega))⟩
end Go.Proofs.YtilclhhpmenjaaaGreatDoor
