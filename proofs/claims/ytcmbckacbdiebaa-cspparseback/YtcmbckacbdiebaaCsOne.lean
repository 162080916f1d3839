/- The contracts of cspparse.One: a map of the first directives of the two names. -/
import Derived.Test.YtcmbckacbdiebaaCsMap
import Derived.Test.YtcmbckacbdiebaaOctWords
import Derived.WalkMore
import Derived.Test.YtcmbckacbdiebaaCsFrm
namespace Go.Proofs.Ytcmbckacbdiebaa
open Go.RowKit
open Go.Maps Go.WideMaps

theorem csLow_at (s : List UInt8) (w : World) (hs : s.length ≤ 100000000) : Calls Try.prog 34 #[.string (bA s)] w fun e w' => e = .returned (.string (bA (Oct.lower s))) ∧ Below w.heap.size w w' :=
  lower_any (bA s) w (by rw [bA_size]; unfold maxLen; omega)
theorem csSplit_at (s : List UInt8) (b : Int) (w : World) (hs : s.length ≤ 100000000) : Calls Try.prog 20 #[.string (bA s), .int .u8 b] w (RetTexts w (Oct.split (fun x => x == b) s)) :=
  split_any (bA s) b w (by rw [bA_size]; omega)
theorem csWords_at (s : List UInt8) (w : World) (hs : s.length ≤ 100000000) : Calls Try.prog 33 #[.string (bA s)] w (RetTexts w (Oct.words s)) :=
  words_any (bA s) w (by rw [bA_size]; omega)
set_option maxHeartbeats 8000000 in
set_option maxRecDepth 20000 in
theorem directives_any (s : List UInt8) (w : World) (hs : s.length ≤ 10000000) : Calls Try.prog 22 #[.string (bA s)] w fun e w' => e = .returned (.map (some w.heap.size)) ∧ Below w.heap.size w w' ∧ ∃ n D, DirMap w' w.heap.size n D (Cs.frm (Oct.split Cs.semi s)) := by
  have hmm := @run_makeMap Try.prog
  have hb0 : Below w.heap.size w (w.alloc (.map #[] 0)) := (Below.refl _ w).alloc (Nat.le_refl _) _
  have hcall := csSplit_at s 59 (w.alloc (.map #[] 0)) (by omega)
  have hsm : ∀ q ∈ Oct.split (fun x => x == 59) s, q.length ≤ 10000000 := fun q hq => Nat.le_trans (Cs.part_len hq) hs
  have hln : (Oct.split (fun x => x == 59) s).length ≤ 10000001 := by have := Oct.split_len (fun x => x == 59) s; omega
  have hqr : Oct.split Cs.semi s = Oct.split (fun x => x == 59) s := rfl
  rw [hqr]
  obtain ⟨qs, hqs⟩ : ∃ qs, Oct.split (fun x => x == 59) s = qs := ⟨_, rfl⟩
  rw [hqs] at hcall hsm hln ⊢
  have HC := Lib.hid hcall; have HSM := Lib.hid hsm; have HB0 := Lib.hid hb0
  have HD0 : Hid (DirMap (w.alloc (.map #[] 0)) w.heap.size 0 (.map []) (Cs.frm (qs.take 0))) := Lib.hid (by rw [List.take_zero, Cs.frm_nil]; exact DirMap.nil w)
  have HSZ : Hid ((w.alloc (.map #[] 0)).heap.size = w.heap.size + 1) := Lib.hid (by simp)
  have HN0 : Hid (Maps.size (.map [] : DataW Unit) = Cs.cntS (Cs.frm (qs.take 0))) := Lib.hid (by rw [List.take_zero, Cs.frm_nil]; rfl)
  clear hcall hsm hqs hqr hb0
  go_enter Try.func22, Try.ntmps22
  go_wp2_with fail
  go_step3
  go_wp2_with fail
  go_step3
  go_wp2_with fail
  refine HC.out.mono ?_
  rintro e w1 ⟨v, rfl, hb1, hr1⟩
  obtain ⟨A2, c2, rfl, _⟩ := own_cap hr1
  have HR1 : Hid (w1.ownsRow (w.heap.size + 1) _ _ _ _ _) := Lib.hid (by have := hr1; rw [HSZ.out] at this; exact this)
  have HB1 : Hid (Below w.heap.size w w1) := Lib.hid (HB0.out.trans (hb1.mono HB0.out.size))
  have HD1 := Lib.hid (HD0.out.below hb1)
  clear hb1 hr1 HC
  go_wp2
  go_loopw [14] (fun i wr => ∃ (k : Nat) (D : DataW Unit) (nB : Nat), k ≤ qs.length ∧ nB ≤ k ∧ i = .int .i64 k ∧ Hid (Maps.size D = Cs.cntS (Cs.frm (qs.take k))) ∧ Hid (DirMap wr w.heap.size nB D (Cs.frm (qs.take k))) ∧ Hid (Below w.heap.size w wr) ∧ Hid (wr.ownsRow (w.heap.size + 1) 9 1 (.slice A2 qs.length c2) qs.length (qs.map Oct.strV))) (fun i _ => qs.length - (intOf i).toNat)
  case atStart => exact ⟨0, .map [], 0, by omega, by omega, rfl, HN0, HD1, HB1, HR1⟩
  case round =>
    obtain ⟨k, D, nB, hk, hnB, rfl, hsz, hdm, hbel, hrow⟩ := hrel
    by_cases hlt : k < qs.length
    · rcases owns_view hrow.out with ⟨e1, h0⟩ | ⟨g, cap, e1, _, hg, hgb, hc⟩
      · exfalso; rw [h0] at hlt; simp at hlt
      · cases e1
        have hce := hc k hlt
        have hql : qs[k].length ≤ 10000000 := HSM.out _ (List.getElem_mem hlt)
        obtain ⟨q, hq⟩ : ∃ q, qs[k] = q := ⟨_, rfl⟩
        rw [hq] at hce hql
        unfold Oct.strV at hce
        have hcall := fun W => csWords_at q W (by omega)
        have hww := fun x hx => Oct.word_len q x hx
        have hwl := Oct.words_len q
        cases hw : Oct.words q with
        | nil =>
          have HS : Hid (Cs.frm (qs.take (k + 1)) = Cs.frm (qs.take k)) := Lib.hid (Cs.frm_skip hlt (by rw [hq]; exact hw))
          rw [hw] at hcall
          clear hww hw hwl hc hq
          go_wp2_with fail
          refine (hcall _).mono ?_
          rintro e w2 ⟨v2, rfl, hb2, hr2⟩
          obtain ⟨A3, c3, rfl, _⟩ := own_cap hr2
          have HB2 := Lib.hid (hbel.out.trans (hb2.mono hbel.out.size))
          have HD2 := Lib.hid (hdm.out.below hb2)
          have HR2 := Lib.hid (owns_below hrow.out hb2)
          clear hcall hb2 hr2
          go_wp2_with fail
          exact ⟨⟨k + 1, D, nB, by omega, by omega, by go_num, by rw [HS.out]; exact hsz, by rw [HS.out]; exact HD2, HB2, HR2⟩, by simp [intOf]; omega⟩
        | cons x r =>
          have hw' : Oct.words qs[k] = x :: r := by rw [hq]; exact hw
          have hot := Cs.frm_other hlt hw'
          have hag := fun l0 => Cs.frm_again (l0 := l0) hlt hw'
          have hnw := Cs.frm_new hlt hw'
          have hxl : x.length ≤ 10000000 := Nat.le_trans (hww x (by rw [hw]; simp)) hql
          have hlow := fun W => csLow_at x W (by omega)
          rw [hw] at hcall
          obtain ⟨M, hM⟩ : ∃ M, (x :: r).length = M := ⟨_, rfl⟩
          have hM1 : r.length = M - 1 := by rw [← hM]; simp
          have hMz : ((M : Int) == 0) = false := by rw [beq_eq_false_iff_ne]; simp at hM; omega
          have hMx : (1 : Int) ≤ (M : Int) := by simp at hM; omega
          have hMl : M ≤ 10000001 := by rw [← hM]; rw [hw] at hwl; omega
          clear hc hq hw'
          obtain ⟨y, hy⟩ : ∃ y, Oct.lower x = y := ⟨_, rfl⟩
          have hyl : y.length ≤ maxLen := by
            have : (Oct.lower x).length = x.length := by unfold Oct.lower; simp
            rw [hy] at this
            unfold maxLen; omega
          simp only [hy] at hot hag hnw hlow
          have HOT' := Lib.hid hot; have HAG' := Lib.hid hag; have HNW' := Lib.hid hnw
          have hkey : keyOf Try.prog 9 (.string (bA y)) = some (.string y) := keyOf_string_mk Try.underlying9 (by rw [bA_size]; exact hyl)
          have HL := Lib.hid hlow
          clear hww hw hwl hlow hy hyl hot hag hnw
          have hthree : ((y == Cs.nA) = false ∧ (y == Cs.nB) = false) ∨ ((y == Cs.nA) = true) ∨ ((y == Cs.nA) = false ∧ (y == Cs.nB) = true) := by
            cases y == Cs.nA <;> cases y == Cs.nB <;> simp
          rcases hthree with ⟨i1, i2⟩ | hin
          · have HS : Hid (Cs.frm (qs.take (k + 1)) = Cs.frm (qs.take k)) := Lib.hid (HOT'.out (by rw [i1, i2]; rfl))
            unfold Cs.nA at i1
            unfold Cs.nB at i2
            clear HOT' HAG' HNW' hkey
            go_wp2_with fail
            refine (hcall _).mono ?_
            rintro e w2 ⟨v2, rfl, hb2, hr2⟩
            obtain ⟨A3, c3, rfl, hcap⟩ := own_cap hr2
            have HB2 := Lib.hid (hbel.out.trans (hb2.mono hbel.out.size))
            have HT2 := Lib.hid (own_texts hr2)
            have HD2 := Lib.hid (hdm.out.below hb2)
            have HR2 := Lib.hid (owns_below hrow.out hb2)
            obtain ⟨g3, o3, rfl, hg3, hc3⟩ := HT2.out.seen (by simp)
            have hx0 : w2.cell? ⟨g3, o3, none⟩ = some (.string (bA x)) := hc3 0 (by simp)
            rw [hM] at hcap ⊢
            clear hcall hb2 hr2 hc3 hcap hdm hrow hM hM1
            go_wp2_with fail
            refine (HL.out _).mono ?_
            rintro e w3 ⟨rfl, hb3⟩
            have HB3 := Lib.hid (HB2.out.trans (hb3.mono HB2.out.size))
            have HD3 := Lib.hid (HD2.out.below hb3)
            have HR3 := Lib.hid (owns_below HR2.out hb3)
            clear hb3 hx0 HL HB2 HD2 HR2
            go_wp2_with fail
            exact ⟨⟨k + 1, D, nB, by omega, by omega, by go_num, by rw [HS.out]; exact hsz, by rw [HS.out]; exact HD3, HB3, HR3⟩, by simp [intOf]; omega⟩
          · have HIN : Hid ((y == Cs.nA || y == Cs.nB) = true) := Lib.hid (by rcases hin with h | ⟨h1, h2⟩ <;> simp [*])
            have HNW2 := Lib.hid (HNW'.out HIN.out)
            clear HOT' HNW'
            unfold Cs.nA Cs.nB at hin
            go_wp2_with fail
            refine (hcall _).mono ?_
            rintro e w2 ⟨v2, rfl, hb2, hr2⟩
            obtain ⟨A3, c3, rfl, hcap⟩ := own_cap hr2
            have HB2 := Lib.hid (hbel.out.trans (hb2.mono hbel.out.size))
            have HT2 := Lib.hid (own_texts hr2)
            have HD2 := Lib.hid (hdm.out.below hb2)
            have HR2 := Lib.hid (owns_below hrow.out hb2)
            obtain ⟨g3, o3, rfl, hg3, hc3⟩ := HT2.out.seen (by simp)
            have hx0 : w2.cell? ⟨g3, o3, none⟩ = some (.string (bA x)) := hc3 0 (by simp)
            rw [hM] at hcap ⊢
            obtain ⟨A4, hA4p, hA4, hA4s⟩ := texts_three (some ⟨g3, o3, none⟩) M c3 (by omega) hcap (.inr ⟨_, _, rfl⟩)
            have HA4 := Lib.hid (fun W (z : TextsIn W (some ⟨g3, o3, none⟩) (x :: r)) => hA4s W (x :: r) hM z)
            have hsl : ∀ W : World, (Instr.slice 24 (.slice (some ⟨g3, o3, none⟩) M c3) (some (.int .i64 1)) (some (.int .i64 (M : Int))) (some (.int .i64 (M : Int)))).run Try.prog W = .ok (.slice A4 r.length r.length) W := fun W => by
              rw [hM1]; exact hA4 W
            clear hcall hb2 hr2 hc3 hA4 hA4s hcap hdm hrow hM hM1
            go_wp2_with fail
            refine (HL.out _).mono ?_
            rintro e w3 ⟨rfl, hb3⟩
            have HB3 := Lib.hid (HB2.out.trans (hb3.mono HB2.out.size))
            have HT3 := Lib.hid (HA4.out w3 (HT2.out.below hb3))
            have HD3 := Lib.hid (HD2.out.below hb3)
            have HR3 := Lib.hid (owns_below HR2.out hb3)
            have hown := HD3.out.owns
            have hhas := HD3.out.has y
            clear hb3 hx0 HL HB2 HD2 HR2 HA4 HT2
            cases hf : Cs.frm (qs.take k) y with
            | some l0 =>
              rw [hf] at hhas
              have HS : Hid (Cs.frm (qs.take (k + 1)) = Cs.frm (qs.take k)) := Lib.hid (HAG'.out l0 hf)
              have HH : Hid (Maps.has D (.string y) = true) := Lib.hid hhas
              clear hf hhas HAG' HNW2
              obtain ⟨N, hN⟩ : ∃ N, Maps.size D = N := ⟨_, rfl⟩
              have HN := Lib.hid hN
              by_cases h2 : N = 2
              · have HALL : Hid (Cs.frm qs = Cs.frm (qs.take k)) := Lib.hid (Cs.frm_done (by rw [← hsz.out, hN, h2]))
                have hz : ((Maps.size D : Int) == 2) = true := by rw [hN, h2]; rfl
                clear hN
                rcases hin with i1 | ⟨i1, i2⟩
                all_goals
                  go_wp2_with (first
                    | (at_lookup; refine wpList_lookup_own_ok _ rfl _ _ 42 rfl 9 24 csLaw Try.underlying42 sliceElem (slZero _) (sliceD none 0 0) [] rfl w.heap.size nB D rfl hown _ _ rfl hkey ?_; intro v4 ps4 hv4; rw [HH.out])
                    | (at_len; refine wpList_len_own _ rfl _ 42 rfl 9 24 Try.underlying42 _ w.heap.size nB D rfl hown ?_)
                    | fail)
                  rw [Exit.noGoto_ret]
                  go_ret
                  exact ⟨rfl, HB3.out, nB, D, by rw [HALL.out]; exact HD3.out⟩
              · have hz : ((Maps.size D : Int) == 2) = false := by rw [hN, beq_eq_false_iff_ne]; omega
                clear hN
                rcases hin with i1 | ⟨i1, i2⟩
                all_goals
                  go_wp2_with (first
                    | (at_lookup; refine wpList_lookup_own_ok _ rfl _ _ 42 rfl 9 24 csLaw Try.underlying42 sliceElem (slZero _) (sliceD none 0 0) [] rfl w.heap.size nB D rfl hown _ _ rfl hkey ?_; intro v4 ps4 hv4; rw [HH.out])
                    | (at_len; refine wpList_len_own _ rfl _ 42 rfl 9 24 Try.underlying42 _ w.heap.size nB D rfl hown ?_)
                    | fail)
                  exact ⟨⟨k + 1, D, nB, by omega, by omega, by go_num, by rw [HS.out]; exact hsz, by rw [HS.out]; exact HD3, HB3, HR3⟩, by simp [intOf]; omega⟩
            | none =>
              rw [hf] at hhas
              have HF := Lib.hid hf
              have HH : Hid (Maps.has D (.string y) = false) := Lib.hid hhas
              have hnw2 := HNW2.out hf
              have HG1 := Lib.hid hnw2.1; have HG2 := Lib.hid hnw2.2
              have HCN := Lib.hid (Cs.cnt_new HIN.out hf hnw2.1 hnw2.2)
              have htidy := hown.tidy csLaw
              have hsp := Maps.size_put (k := Lit.string y) htidy (sliceD A4 r.length r.length)
              rw [hhas, if_neg (by simp), hsz.out, ← HCN.out] at hsp
              clear hf hhas HAG' HNW2 hnw2 htidy
              obtain ⟨N, hN⟩ : ∃ N, Maps.size (D.put (.string y) (sliceD A4 r.length r.length)) = N := ⟨_, rfl⟩
              have HSP := Lib.hid hsp
              by_cases h2 : N = 2
              · have HALL : Hid (Cs.frm qs = Cs.frm (qs.take (k + 1))) := Lib.hid (Cs.frm_done (by rw [← hsp, hN, h2]))
                have hz : ((Maps.size (D.put (.string y) (sliceD A4 r.length r.length)) : Int) == 2) = true := by rw [hN, h2]; rfl
                clear hN hsp
                rcases hin with i1 | ⟨i1, i2⟩
                all_goals
                  go_wp2_with (first
                    | (at_lookup; refine wpList_lookup_own_ok _ rfl _ _ 42 rfl 9 24 csLaw Try.underlying42 sliceElem (slZero _) (sliceD none 0 0) [] rfl w.heap.size nB D rfl hown _ _ rfl hkey ?_; intro v4 ps4 hv4; rw [HH.out])
                    | (at_mapUpdate; refine wpList_mapUpdate_own _ rfl _ _ _ 42 rfl 9 24 csLaw Try.underlying42 sliceElem w.heap.size nB D rfl hown (by unfold maxLen; omega) _ _ _ rfl rfl hkey _ [] (sliceElem_mk hA4p _ _) ?_; intro w5 hown5 hgrow5)
                    | (at_len; refine wpList_len_own _ rfl _ 42 rfl 9 24 Try.underlying42 _ w.heap.size (nB + 1) _ rfl hown5 ?_)
                    | fail)
                  rw [Exit.noGoto_ret]
                  go_ret
                  have hd5 := HD3.out.put (r := r) (g := Cs.frm (qs.take (k + 1))) hA4p HT3.out hgrow5 hown5 HG1.out HG2.out
                  exact ⟨rfl, HB3.out.grown hgrow5 HB3.out.size (fun j hj => by cases hj; exact Nat.le_refl _), nB + 1, _, by rw [HALL.out]; exact hd5⟩
              · have hz : ((Maps.size (D.put (.string y) (sliceD A4 r.length r.length)) : Int) == 2) = false := by rw [hN, beq_eq_false_iff_ne]; omega
                clear hN hsp
                rcases hin with i1 | ⟨i1, i2⟩
                all_goals
                  go_wp2_with (first
                    | (at_lookup; refine wpList_lookup_own_ok _ rfl _ _ 42 rfl 9 24 csLaw Try.underlying42 sliceElem (slZero _) (sliceD none 0 0) [] rfl w.heap.size nB D rfl hown _ _ rfl hkey ?_; intro v4 ps4 hv4; rw [HH.out])
                    | (at_mapUpdate; refine wpList_mapUpdate_own _ rfl _ _ _ 42 rfl 9 24 csLaw Try.underlying42 sliceElem w.heap.size nB D rfl hown (by unfold maxLen; omega) _ _ _ rfl rfl hkey _ [] (sliceElem_mk hA4p _ _) ?_; intro w5 hown5 hgrow5)
                    | (at_len; refine wpList_len_own _ rfl _ 42 rfl 9 24 Try.underlying42 _ w.heap.size (nB + 1) _ rfl hown5 ?_)
                    | fail)
                  have hd5 := HD3.out.put (r := r) (g := Cs.frm (qs.take (k + 1))) hA4p HT3.out hgrow5 hown5 HG1.out HG2.out
                  have HB5 := Lib.hid (HB3.out.grown hgrow5 HB3.out.size (fun j hj => by cases hj; exact Nat.le_refl _))
                  have HR5 := Lib.hid (owns_keptT HR3.out (KeptT.map hown hgrow5))
                  exact ⟨⟨k + 1, _, nB + 1, by omega, by omega, by go_num, HSP, Lib.hid hd5, HB5, HR5⟩, by simp [intOf]; omega⟩
    · obtain rfl : k = qs.length := by omega
      have hd2 := hdm.out
      rw [List.take_of_length_le (Nat.le_refl _)] at hd2
      have HD2 := Lib.hid hd2
      clear hdm hd2
      go_wp2_with fail
      (try rw [Exit.noGoto_ret])
      go_ret
      exact ⟨rfl, hbel.out, nB, D, HD2.out⟩
set_option maxHeartbeats 4000000 in
set_option maxRecDepth 20000 in
theorem csOne_any (s : List UInt8) (w : World) (hs : s.length ≤ 10000000) : Calls Try.prog 11 #[.string (bA s)] w (RetPol w (Cs.one s)) := by
  have hb0 : Below w.heap.size w (w.alloc (.cells #[.bool false, .slice none 0 0, .bool false, .slice none 0 0] 26)) := (Below.refl _ _).alloc (Nat.le_refl _) _
  have hcall := directives_any s (w.alloc (.cells #[.bool false, .slice none 0 0, .bool false, .slice none 0 0] 26)) hs
  have hone : Cs.one s = Cs.mk (Cs.frm (Oct.split Cs.semi s) Cs.nA) (Cs.frm (Oct.split Cs.semi s) Cs.nB) := by
    rw [Cs.frm_nA, Cs.frm_nB]; rfl
  rw [hone]
  obtain ⟨f, hf⟩ : ∃ f, Cs.frm (Oct.split Cs.semi s) = f := ⟨_, rfl⟩
  rw [hf] at hcall ⊢
  obtain ⟨r1, e1⟩ : ∃ r, f Cs.nA = r := ⟨_, rfl⟩
  obtain ⟨r2, e2⟩ : ∃ r, f Cs.nB = r := ⟨_, rfl⟩
  rw [e1, e2]
  have HE1 := Lib.hid e1; have HE2 := Lib.hid e2
  clear e1 e2
  have HC := Lib.hid hcall; have HB0 := Lib.hid hb0
  have HX0 := Lib.hid (CBox.new w 26 #[.bool false, .slice none 0 0, .bool false, .slice none 0 0])
  have k1 : keyOf Try.prog 9 (.string (bA Cs.nA)) = some (.string Cs.nA) := keyOf_string_mk Try.underlying9 (by decide)
  have k2 : keyOf Try.prog 9 (.string (bA Cs.nB)) = some (.string Cs.nB) := keyOf_string_mk Try.underlying9 (by decide)
  clear hcall hone hf hb0
  go_enter Try.func11, Try.ntmps11
  go_wp2_with fail
  refine HC.out.mono ?_
  rintro e w1 ⟨rfl, hb1, nB, D, hd⟩
  have hb2 : ∀ o : Obj, Below w1.heap.size w1 (w1.alloc o) := fun o => (Below.refl _ _).alloc (Nat.le_refl _) _
  have hb01 := HB0.out.trans (hb1.mono HB0.out.size)
  have HB1 := Lib.hid (fun o => hb01.trans ((hb2 o).mono hb01.size)); have HX1 := Lib.hid (fun o => (HX0.out.keep hb1).keep (hb2 o))
  have HSW : Hid (w.heap.size < w1.heap.size) := Lib.hid (by have := hb1.size; rw [World.size_alloc] at this; omega)
  have hown : ∀ o, (w1.alloc o).ownsMap Try.prog 9 sliceElem (w.heap.size + 1) nB D := fun o => by
    have := (hd.below (hb2 o)).owns
    rwa [World.size_alloc] at this
  have h1 := hd.has Cs.nA; have h2 := hd.has Cs.nB
  obtain ⟨A1, c1, a1, p1, t1⟩ := hd.at' Cs.nA
  obtain ⟨A2, c2, a2, p2, t2⟩ := hd.at' Cs.nB
  rw [HE1.out] at h1 a1 t1
  rw [HE2.out] at h2 a2 t2
  have HT1 := Lib.hid (fun o => t1.below (hb2 o)); have HT2 := Lib.hid (fun o => t2.below (hb2 o)); have HH1 := Lib.hid h1; have HH2 := Lib.hid h2; have HA1 := Lib.hid a1; have HA2 := Lib.hid a2; have HP1 := Lib.hid p1; have HP2 := Lib.hid p2
  have f := fun o => (HX1.out o).all4
  have f0 := fun o => (f o).1; have f1 := fun o => (f o).2.1; have f2 := fun o => (f o).2.2.1; have f3 := fun o => (f o).2.2.2.1
  have f4 := fun o => (f o).2.2.2.2.1; have f5 := fun o => (f o).2.2.2.2.2.1; have f6 := fun o => (f o).2.2.2.2.2.2.1; have f7 := fun o => (f o).2.2.2.2.2.2.2
  clear hb1 hb2 hb01 hd h1 h2 t1 t2 a1 a2 p1 p2 HB0 HX0 HC f
  go_wp2_with (first
    | (at_lookup; refine wpList_lookup_own_ok _ rfl _ _ 42 rfl 9 24 csLaw Try.underlying42 sliceElem (slZero _) (sliceD none 0 0) [] rfl _ nB D rfl (hown _) _ _ rfl k1 ?_; intro v4 ps4 hv4; obtain rfl := slice_of hv4 HA1.out HP1.out; rw [HH1.out])
    | (at_lookup; refine wpList_lookup_own_ok _ rfl _ _ 42 rfl 9 24 csLaw Try.underlying42 sliceElem (slZero _) (sliceD none 0 0) [] rfl _ nB D rfl (hown _) _ _ rfl k2 ?_; intro v5 ps5 hv5; obtain rfl := slice_of hv5 HA2.out HP2.out; rw [HH2.out])
    | fail)
  refine bodyPost_ret (results_pol (p := Cs.mk r1 r2) rfl _ _ rfl ((HX1.out _).set4 _ _ _ _)) rfl ⟨_, rfl, of_grow (g_set4 (grow_of (HB1.out _) none) _ _ _ _ (.inl (Nat.le_refl _))), A1, c1, A2, c2, rfl, ?_, ?_⟩
  · exact (HT1.out _).kept (kept_set4 (HX1.out _) _ _ _ _)
  · exact (HT2.out _).kept (kept_set4 (HX1.out _) _ _ _ _)
end Go.Proofs.Ytcmbckacbdiebaa
