/- The contract of a reader's number: the walk. -/
import Derived.Test.YtgddmihojladfaaGreatDoorSfNum
namespace Go.Proofs.YtgddmihojladfaaGreatDoor
open Go.RowKit Go.Shelf

def sgn (g : Bool) : Int := if g then -1 else 1
/-- The number that a text begins with, its sign too. -/
def numOf (s : List UInt8) : Option (Sf.Par × List UInt8) := if s.head? = some 45 then Sf.num (-1) (s.drop 1) else Sf.num 1 s
theorem numOf_sgn {g : Bool} {s s' : List UInt8} (h : (g = true ∧ s = 45 :: s') ∨ (g = false ∧ s' = s ∧ s.head? ≠ some 45)) : numOf s = Sf.num (sgn g) s' := by
  rcases h with ⟨rfl, rfl⟩ | ⟨rfl, rfl, h⟩
  · simp [numOf, sgn]
  · simp [numOf, sgn, h]
theorem num_none {sg : Int} {s : List UInt8} (h : (Sf.tw Oct.digitI s).length = 0 ∨ 15 < (Sf.tw Oct.digitI s).length) : Sf.num sg s = none := by unfold Sf.num; rw [if_pos h]
theorem num_whole {sg : Int} {s : List UInt8} (h0 : (Sf.tw Oct.digitI s).length ≠ 0) (h1 : (Sf.tw Oct.digitI s).length ≤ 15) (h : (Sf.dw Oct.digitI s).head? ≠ some 46) : Sf.num sg s = some (Sf.kv 1 (sg * Oct.val (Sf.tw Oct.digitI s)) [], Sf.dw Oct.digitI s) := by
  unfold Sf.num
  have : (Sf.dw Oct.digitI s).headD 0 ≠ 46 := by
    cases hd : Sf.dw Oct.digitI s with
    | nil => simp
    | cons c r => rw [hd] at h; simpa using h
  rw [if_neg (by omega), if_neg this]
theorem num_bad {sg : Int} {s t : List UInt8} (h0 : (Sf.tw Oct.digitI s).length ≠ 0) (h1 : (Sf.tw Oct.digitI s).length ≤ 15) (h : Sf.dw Oct.digitI s = 46 :: t) (h2 : 12 < (Sf.tw Oct.digitI s).length ∨ (Sf.tw Oct.digitI t).length = 0 ∨ 3 < (Sf.tw Oct.digitI t).length) : Sf.num sg s = none := by
  unfold Sf.num
  rw [if_neg (by omega), h, if_pos (show (46 :: t).headD 0 = 46 from rfl), if_pos (by simp only [List.drop_succ_cons, List.drop_zero]; omega)]
theorem num_part {sg : Int} {s t : List UInt8} (h0 : (Sf.tw Oct.digitI s).length ≠ 0) (h1 : (Sf.tw Oct.digitI s).length ≤ 12) (h : Sf.dw Oct.digitI s = 46 :: t) (h2 : (Sf.tw Oct.digitI t).length ≠ 0) (h3 : (Sf.tw Oct.digitI t).length ≤ 3) :
    Sf.num sg s = some (Sf.kv 2 (sg * Oct.val (Sf.tw Oct.digitI s ++ Sf.tw Oct.digitI t ++ List.replicate (3 - (Sf.tw Oct.digitI t).length) 48)) [], Sf.dw Oct.digitI t) := by
  unfold Sf.num
  rw [if_neg (by omega), h, if_pos (show (46 :: t).headD 0 = 46 from rfl), if_neg (by simp only [List.drop_succ_cons, List.drop_zero]; omega), val_zeros]
  rfl
theorem digs_zeros {a b : List UInt8} (ha : Oct.allB Oct.digitI a = true) (hb : Oct.allB Oct.digitI b = true) (k : Nat) : Oct.allB Oct.digitI (a ++ b ++ List.replicate k 48) = true := by
  unfold Oct.allB at *
  simp only [List.all_append, ha, hb, Bool.true_and, List.all_eq_true]
  intro x hx
  rw [List.eq_of_mem_replicate hx]; rfl

set_option maxHeartbeats 1000000 in
theorem number_any (b : Nat) (s : List UInt8) (w : World) (hR : Rd b s w) (hs : s.length ≤ 140737488355328) : Calls Tryz.prog 110 #[.pointer (some ⟨b, 0, none⟩)] w (Got b w (mapV (numOf s))) := by
  have hlt := hR.lt
  have H := Lib.hid (skip_all b 45 45 rfl s _ (hR.alloc (.cells zC 111)))
  have hb := Lib.hid (CBox.new w 111 zC)
  clear hR
  obtain ⟨o, ho⟩ : ∃ o, mapV (numOf s) = o := ⟨_, rfl⟩
  rw [ho]
  have HO := Lib.hid ho
  clear ho
  go_enter Tryz.func110, Tryz.ntmps110
  go_wp2_with fail
  refine H.out.mono ?_
  rintro e w1 ⟨g, s', rfl, hR1, hg1, hs1⟩
  have hsl : s'.length ≤ 140737488355328 := by
    rcases hs1.out with ⟨_, h⟩ | ⟨_, h, _⟩
    · rw [h] at hs; simp at hs; omega
    · rw [h]; exact hs
  replace HO : Hid (mapV (Sf.num (sgn g) s') = o) := by rw [Hid, ← numOf_sgn hs1.out]; exact HO.out
  have H2 := Lib.hid (take_any _ _ tellsDigit b s' w1 hR1 hsl)
  clear hR1 hs1 H hs
  go_wp2_with fail
  refine H2.out.mono ?_
  rintro e w2 ⟨rfl, hR2, hg2⟩
  have hb2 := Lib.hid (hb.out.kept (g_trans hg1 hg2) (by simp; omega))
  have hg := Lib.hid (g_trans (World.grownBy_alloc w _ _) (g_trans hg1 hg2))
  clear hg1 hg2 hb H2
  have hlen : (Sf.dw Oct.digitI s').length ≤ s'.length := by
    have := congrArg List.length (Sf.tw_dw Oct.digitI s'); simp at this; omega
  obtain ⟨d, hd⟩ : ∃ d, Sf.tw Oct.digitI s' = d := ⟨_, rfl⟩
  obtain ⟨t, ht⟩ : ∃ t, Sf.dw Oct.digitI s' = t := ⟨_, rfl⟩
  have hda : Oct.allB Oct.digitI d = true := by rw [← hd]; exact Sf.tw_all _ _
  rw [ht] at hR2 hlen
  rw [hd]
  have HD := Lib.hid hd
  have HT := Lib.hid ht
  have HA := Lib.hid hda
  clear hd ht hda
  cases hdd : d with
  | nil =>
    subst hdd
    have hn : o = none := by rw [← HO.out, num_none (by rw [HD.out]; exact .inl rfl)]; rfl
    have HN := Lib.hid hn
    clear hn hR2
    go_wp2_with (go_at_call 123; refine (need_no _).mono ?_; rintro e w3 ⟨rfl, rfl⟩)
    refine ⟨rfl, ?_⟩
    rw [HN.out]
    exact Got.no hg.out
  | cons c d' =>
    have hd0 : (Sf.tw Oct.digitI s').length ≠ 0 := by rw [HD.out, hdd]; simp
    have HD0 := Lib.hid hd0
    have hl : d.length = d'.length + 1 := by rw [hdd]; rfl
    have HL := Lib.hid hl
    have HDD := Lib.hid hdd
    clear hd0 hl hdd
    by_cases h15 : d'.length + 1 ≤ 15
    · have H3 := Lib.hid (skip_all b 46 46 rfl t w2 hR2)
      clear hR2
      go_wp2_with fail
      refine (need_yes' (by simp <;> omega) _).mono ?_
      rintro e w2' ⟨rfl, rfl⟩
      go_wp2_with fail
      refine H3.out.mono ?_
      rintro e w3 ⟨g2, t', rfl, hR3, hg3, hs3⟩
      have hb3 := Lib.hid (hb2.out.kept hg3 (by simp; omega))
      have hG3 := Lib.hid (g_trans hg.out hg3)
      clear H3 hg3 hg hb2
      cases hg2 : g2 with
      | false =>
        have hx : t' = t ∧ t.head? ≠ some 46 := by
          rcases hs3.out with ⟨h, _⟩ | ⟨_, h1, h2⟩
          · rw [hg2] at h; cases h
          · exact ⟨h1, h2⟩
        obtain ⟨rfl, hx2⟩ := hx
        have hn : o = some (valV (Sf.kv 1 (sgn g * Oct.val d) []), t') := by
          rw [← HO.out, num_whole HD0.out (by rw [HD.out, HL.out]; exact h15) (by rw [HT.out]; exact hx2), HD.out, HT.out]; rfl
        have HN := Lib.hid hn
        have H4 := Lib.hid (fun W => atoi_any HA.out (by rw [HL.out]; omega) (by rw [HL.out]; omega) W)
        rw [HDD.out] at H4
        have hv : Oct.val (c :: d') = Oct.val d := by rw [HDD.out]
        have hv0 := Oct.val_nonneg d HA.out
        have hv1 := Sf.val_bound HA.out 15 (by rw [HL.out]; exact h15)
        rw [hv] at H4
        obtain ⟨v, hvv⟩ : ∃ v, Oct.val d = v := ⟨_, rfl⟩
        rw [hvv] at H4 HN hv0 hv1
        simp only [Int.reducePow, Int.reduceSub] at hv1
        clear hn hx2 hv hvv hs3 hg2
        go_wp2_with fail
        refine (H4.out _).mono ?_
        rintro e w4 ⟨rfl, hb4⟩
        have hb5 := hb3.out.keep hb4
        have hG5 := Lib.hid (g_below hG3.out hb4)
        have hR5 := Lib.hid (hR3.kept (g_below (g_refl _ none) hb4) (by simp))
        obtain ⟨c0, c1, c2, f0, f1, f2⟩ := hb5.all3
        have HB := Lib.hid hb5
        clear hb5 hR3 hb4 H4
        cases g with
        | true =>
          go_wp2_with fail
          rw [HN.out]
          refine bodyPost_ret (results_val (x := Sf.kv 1 (sgn true * v) []) rfl _ _ rfl ?_) rfl (Got.ok ?_ ?_)
          · have := HB.out.set3 (.int .i64 1) (.int .i64 (-v)) (.string ⟨#[]⟩)
            rw [show sgn true * v = -v by simp [sgn]]
            exact this
          · exact g_set3 hG5.out _ _ _ (.inl (Nat.le_refl _))
          · exact hR5.out.other3 (by omega) _ _ _
        | false =>
          go_wp2_with fail
          rw [HN.out]
          refine bodyPost_ret (results_val (x := Sf.kv 1 (sgn false * v) []) rfl _ _ rfl ?_) rfl (Got.ok ?_ ?_)
          · have := HB.out.set3 (.int .i64 1) (.int .i64 v) (.string ⟨#[]⟩)
            rw [show sgn false * v = v by simp [sgn]]
            exact this
          · exact g_set3 hG5.out _ _ _ (.inl (Nat.le_refl _))
          · exact hR5.out.other3 (by omega) _ _ _
      | true =>
        have hx : t = 46 :: t' := by
          rcases hs3.out with ⟨_, h⟩ | ⟨h, _⟩
          · exact h
          · rw [hg2] at h; cases h
        have ht' : t'.length ≤ 140737488355328 := by rw [hx] at hlen; simp at hlen; omega
        have HX := Lib.hid hx
        have H4 := Lib.hid (take_any _ _ tellsDigit b t' w3 hR3 ht')
        clear hx hR3 hs3 hg2 ht'
        go_wp2_with fail
        refine H4.out.mono ?_
        rintro e w4 ⟨rfl, hR4, hg4⟩
        have hb4 := Lib.hid (hb3.out.kept hg4 (by simp; omega))
        have hG4 := Lib.hid (g_trans hG3.out hg4)
        clear hg4 hG3 hb3 H4
        obtain ⟨m, hm⟩ : ∃ m, Sf.tw Oct.digitI t' = m := ⟨_, rfl⟩
        obtain ⟨u, hu⟩ : ∃ u, Sf.dw Oct.digitI t' = u := ⟨_, rfl⟩
        have hma : Oct.allB Oct.digitI m = true := by rw [← hm]; exact Sf.tw_all _ _
        rw [hu] at hR4
        rw [hm]
        have HM := Lib.hid hm
        have HU := Lib.hid hu
        have HMA := Lib.hid hma
        clear hm hu hma
        by_cases h12 : d'.length + 1 ≤ 12
        · cases hmm : m with
          | nil =>
            subst hmm
            have hn : o = none := by rw [← HO.out, num_bad HD0.out (by rw [HD.out, HL.out]; exact h15) (by rw [HT.out]; exact HX.out) (by rw [HM.out]; exact .inr (.inl rfl))]; rfl
            have HN := Lib.hid hn
            have h12' : (d'.length : Int) + 1 ≤ 12 := by omega
            clear hn hR4 h12
            go_wp2_with fail
            refine (need_no' (by simp) _).mono ?_
            rintro e w5 ⟨rfl, rfl⟩
            refine ⟨rfl, ?_⟩
            rw [HN.out]
            exact Got.no hG4.out
          | cons c2 m' =>
            have hml : m.length = m'.length + 1 := by rw [hmm]; rfl
            have HML := Lib.hid hml
            have HMM := Lib.hid hmm
            have h12' : (d'.length : Int) + 1 ≤ 12 := by omega
            clear hml hmm
            by_cases h3 : m'.length + 1 ≤ 3
            · have h3' : (m'.length : Int) + 1 ≤ 3 := by omega
              go_wp2_with fail
              refine (need_yes' (by simp <;> omega) _).mono ?_
              rintro e w4' ⟨rfl, rfl⟩
              go_wp2_with fail
              refine (repeat_any (3 - m.length) (by omega) _ (by rw [HML.out]; omega) _).mono ?_
              rintro e w5 ⟨rfl, hb5⟩
              have hb6 := Lib.hid (hb4.out.keep hb5)
              have hG6 := Lib.hid (g_below hG4.out hb5)
              have hR6 := Lib.hid (hR4.kept (g_below (g_refl _ none) hb5) (by simp))
              clear hb5 hR4 hb4 hG4
              have hn : o = some (valV (Sf.kv 2 (sgn g * Oct.val (d ++ m ++ List.replicate (3 - m.length) 48)) []), u) := by
                rw [← HO.out, num_part HD0.out (by rw [HD.out, HL.out]; exact h12) (by rw [HT.out]; exact HX.out) (by rw [HM.out, HML.out]; omega) (by rw [HM.out, HML.out]; omega), HD.out, HM.out, HU.out]; rfl
              have hzd := digs_zeros HA.out HMA.out (3 - m.length)
              have hzl : (d ++ m ++ List.replicate (3 - m.length) 48).length ≤ 15 := by simp only [List.length_append, List.length_replicate, HL.out, HML.out]; omega
              have hz0 : 0 < (d ++ m ++ List.replicate (3 - m.length) 48).length := by simp only [List.length_append, HL.out]; omega
              have H4 := Lib.hid (fun W => atoi_any hzd hz0 (by omega) W)
              have hv0 := Oct.val_nonneg _ hzd
              have hv1 := Sf.val_bound hzd 15 hzl
              have HN := Lib.hid hn
              clear hn hzd hzl hz0
              obtain ⟨z, hz⟩ : ∃ z : List UInt8, List.replicate (3 - m.length) 48 = z := ⟨_, rfl⟩
              have hzz : z.length ≤ 3 := by rw [← hz, List.length_replicate]; omega
              rw [hz] at H4 HN hv0 hv1
              rw [hz]
              obtain ⟨v, hv⟩ : ∃ v, Oct.val (d ++ m ++ z) = v := ⟨_, rfl⟩
              rw [hv] at H4 HN hv0 hv1
              rw [HDD.out, HMM.out] at H4
              simp only [Int.reducePow, Int.reduceSub] at hv1
              clear hz hv
              go_wp2_with fail
              rw [bA_app, bA_app]
              refine (H4.out _).mono ?_
              rintro e w6 ⟨rfl, hb7⟩
              have hb8 := hb6.out.keep hb7
              have hG8 := Lib.hid (g_below hG6.out hb7)
              have hR8 := Lib.hid (hR6.out.kept (g_below (g_refl _ none) hb7) (by simp))
              obtain ⟨c0, c1, c2, f0, f1, f2⟩ := hb8.all3
              have HB := Lib.hid hb8
              clear hb8 hb7 H4 hG6 hR6 hb6
              cases g with
              | true =>
                go_wp2_with fail
                rw [HN.out]
                refine bodyPost_ret (results_val (x := Sf.kv 2 (sgn true * v) []) rfl _ _ rfl ?_) rfl (Got.ok ?_ ?_)
                · have := HB.out.set3 (.int .i64 2) (.int .i64 (-v)) (.string ⟨#[]⟩)
                  rw [show sgn true * v = -v by simp [sgn]]
                  exact this
                · exact g_set3 hG8.out _ _ _ (.inl (Nat.le_refl _))
                · exact hR8.out.other3 (by omega) _ _ _
              | false =>
                go_wp2_with fail
                rw [HN.out]
                refine bodyPost_ret (results_val (x := Sf.kv 2 (sgn false * v) []) rfl _ _ rfl ?_) rfl (Got.ok ?_ ?_)
                · have := HB.out.set3 (.int .i64 2) (.int .i64 v) (.string ⟨#[]⟩)
                  rw [show sgn false * v = v by simp [sgn]]
                  exact this
                · exact g_set3 hG8.out _ _ _ (.inl (Nat.le_refl _))
                · exact hR8.out.other3 (by omega) _ _ _
            · have hn : o = none := by rw [← HO.out, num_bad HD0.out (by rw [HD.out, HL.out]; exact h15) (by rw [HT.out]; exact HX.out) (by rw [HM.out, HML.out]; omega)]; rfl
              have HN := Lib.hid hn
              clear hn hR4 h12
              go_wp2_with fail
              refine (need_no' (by simp <;> omega) _).mono ?_
              rintro e w5 ⟨rfl, rfl⟩
              refine ⟨rfl, ?_⟩
              rw [HN.out]
              exact Got.no hG4.out
        · have hn : o = none := by rw [← HO.out, num_bad HD0.out (by rw [HD.out, HL.out]; exact h15) (by rw [HT.out]; exact HX.out) (by rw [HD.out, HL.out]; omega)]; rfl
          have HN := Lib.hid hn
          have h12' : ¬ ((d'.length : Int) + 1 ≤ 12) := by omega
          clear hn hR4 h12
          go_wp2_with fail
          refine (need_no' (by simp <;> omega) _).mono ?_
          rintro e w5 ⟨rfl, rfl⟩
          refine ⟨rfl, ?_⟩
          rw [HN.out]
          exact Got.no hG4.out
    · have hn : o = none := by rw [← HO.out, num_none (by rw [HD.out, HL.out]; omega)]; rfl
      have HN := Lib.hid hn
      clear hn hR2
      go_wp2_with fail
      refine (need_no' (by simp <;> omega) _).mono ?_
      rintro e w3 ⟨rfl, rfl⟩
      refine ⟨rfl, ?_⟩
      rw [HN.out]
      exact Got.no hg.out
end Go.Proofs.YtgddmihojladfaaGreatDoor
