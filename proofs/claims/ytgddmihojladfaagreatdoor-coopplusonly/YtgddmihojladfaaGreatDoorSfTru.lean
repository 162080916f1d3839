/- The contracts of a reader's truth and key. -/
import Derived.Test.YtgddmihojladfaaGreatDoorSfVal
namespace Go.Proofs.YtgddmihojladfaaGreatDoor
open Go.RowKit Go.Shelf

theorem byte_ne {d c : UInt8} (h : ¬ d = c) : ¬ (d.toNat : Int) = (c.toNat : Int) := fun e => h (UInt8.toNat_inj.1 (by omega))

set_option maxHeartbeats 400000 in
theorem truth_any (b : Nat) (r : List UInt8) (w : World) (hR : Rd b (63 :: r) w) : Calls Tryz.prog 115 #[.pointer (some ⟨b, 0, none⟩)] w (Got b w (mapV (truOf r))) := by
  have hlt := hR.lt
  have H := Lib.hid (skip_yes b 63 63 rfl r _ (hR.alloc (.cells zC 111)))
  have hb := Lib.hid (CBox.new w 111 zC)
  clear hR
  obtain ⟨o, ho⟩ : ∃ o, mapV (truOf r) = o := ⟨_, rfl⟩
  rw [ho]
  have HO := Lib.hid ho
  clear ho
  go_enter Tryz.func115, Tryz.ntmps115
  go_wp2_with fail
  refine H.out.mono ?_
  rintro e w2 ⟨rfl, hR2, hg1⟩
  have hb1 := Lib.hid (hb.out.kept hg1 (by simp; omega))
  have hg := Lib.hid (g_trans (World.grownBy_alloc w _ _) hg1)
  clear hg1 hb
  cases r with
  | nil =>
    have H3 := Lib.hid (skip_nil b 49 w2 hR2)
    have H4 := Lib.hid (skip_nil b 48 w2 hR2)
    have hn : o = none := by rw [← HO.out]; simp [truOf, mapV]
    have HN := Lib.hid hn
    clear hn hR2
    go_wp2_with fail
    refine H3.out.mono ?_
    rintro e w3 ⟨rfl, rfl⟩
    go_wp2_with fail
    refine H4.out.mono ?_
    rintro e w3 ⟨rfl, rfl⟩
    go_wp2_with (go_at_call 123; refine (need_no _).mono ?_; rintro e w3 ⟨rfl, rfl⟩)
    refine ⟨rfl, ?_⟩
    rw [HN.out]
    exact Got.no hg.out
  | cons d t =>
    by_cases h49 : d = 49
    · subst h49
      have H3 := Lib.hid (skip_yes b 49 49 rfl t w2 hR2)
      have hn : o = some (valV (Sf.kv 6 1 []), t) := by rw [← HO.out]; simp [truOf, mapV]
      have HN := Lib.hid hn
      clear hn hR2
      go_wp2_with fail
      refine H3.out.mono ?_
      rintro e w3 ⟨rfl, hr3, hg3⟩
      go_wp2_with fail
      refine (truthV_any 1 w3).mono ?_
      rintro e w4 ⟨rfl, hb4⟩
      have hG := Lib.hid (g_below (g_trans hg.out hg3) hb4)
      have hr4 := Lib.hid (hr3.kept (g_below (g_refl _ none) hb4) (by simp))
      have hb3 := (hb1.out.kept hg3 (by simp; omega)).keep hb4
      obtain ⟨c0, c1, c2, f0, f1, f2⟩ := hb3.all3
      have HB := Lib.hid hb3
      clear hb3 hr3 hg3 hb4
      unfold valV vC
      go_wp2_with fail
      rw [HN.out]
      refine bodyPost_ret (results_val (x := Sf.kv 6 1 []) rfl _ _ rfl (HB.out.set3 _ _ _)) rfl (Got.ok ?_ ?_)
      · exact g_set3 hG.out _ _ _ (.inl (Nat.le_refl _))
      · exact hr4.out.other3 (by omega) _ _ _
    · have H3 := Lib.hid (skip_off b 49 d (byte_ne (c := 49) h49) t w2 hR2)
      by_cases h48 : d = 48
      · subst h48
        have H4 := Lib.hid (skip_yes b 48 48 rfl t w2 hR2)
        have hn : o = some (valV (Sf.kv 6 0 []), t) := by rw [← HO.out]; simp [truOf, mapV]
        have HN := Lib.hid hn
        clear hn hR2 h49
        go_wp2_with fail
        refine H3.out.mono ?_
        rintro e w3 ⟨rfl, rfl⟩
        go_wp2_with fail
        refine H4.out.mono ?_
        rintro e w3 ⟨rfl, hr3, hg3⟩
        go_wp2_with (go_at_call 123; refine (need_yes _).mono ?_; rintro e w4 ⟨rfl, rfl⟩)
        refine (truthV_any 0 w3).mono ?_
        rintro e w4 ⟨rfl, hb4⟩
        have hG := Lib.hid (g_below (g_trans hg.out hg3) hb4)
        have hr4 := Lib.hid (hr3.kept (g_below (g_refl _ none) hb4) (by simp))
        have hb3 := (hb1.out.kept hg3 (by simp; omega)).keep hb4
        obtain ⟨c0, c1, c2, f0, f1, f2⟩ := hb3.all3
        have HB := Lib.hid hb3
        clear hb3 hr3 hg3 hb4
        unfold valV vC
        go_wp2_with fail
        rw [HN.out]
        refine bodyPost_ret (results_val (x := Sf.kv 6 0 []) rfl _ _ rfl (HB.out.set3 _ _ _)) rfl (Got.ok ?_ ?_)
        · exact g_set3 hG.out _ _ _ (.inl (Nat.le_refl _))
        · exact hr4.out.other3 (by omega) _ _ _
      · have H4 := Lib.hid (skip_off b 48 d (byte_ne (c := 48) h48) t w2 hR2)
        have hn : o = none := by rw [← HO.out]; simp [truOf, mapV, h48, h49]
        have HN := Lib.hid hn
        clear hn hR2 h48 h49
        go_wp2_with fail
        refine H3.out.mono ?_
        rintro e w3 ⟨rfl, rfl⟩
        go_wp2_with fail
        refine H4.out.mono ?_
        rintro e w3 ⟨rfl, rfl⟩
        go_wp2_with (go_at_call 123; refine (need_no _).mono ?_; rintro e w3 ⟨rfl, rfl⟩)
        refine ⟨rfl, ?_⟩
        rw [HN.out]
        exact Got.no hg.out

def mapK (o : Option (List UInt8 × List UInt8)) : Option (Value × List UInt8) := o.map fun x => (.string (bA x.1), x.2)
theorem key1_is (c : Int) : Sf.key1I c = (lowI c || c == 42) := rfl
theorem key1_key {c : Int} (h : Sf.key1I c = true) : Sf.keyI c = true := by unfold Sf.keyI; rw [h]; rfl
theorem key_is {c : UInt8} {r : List UInt8} (h : Sf.key1I c.toNat = true) : mapK (Sf.keyOf (c :: r)) = some (.string (bA (Sf.tw Sf.keyI (c :: r))), Sf.dw Sf.keyI (c :: r)) := by
  have e1 : Sf.tw Sf.keyI (c :: r) = c :: Sf.tw Sf.keyI r := by simp [Sf.tw, key1_key h]
  have e2 : Sf.dw Sf.keyI (c :: r) = Sf.dw Sf.keyI r := by simp [Sf.dw, key1_key h]
  rw [e1, e2]
  simp [mapK, Sf.keyOf, h]
set_option maxHeartbeats 400000 in
theorem key_any (b : Nat) (s : List UInt8) (w : World) (hR : Rd b s w) (hs : s.length ≤ 140737488355328) : Calls Tryz.prog 116 #[.pointer (some ⟨b, 0, none⟩)] w (Got b w (mapK (Sf.keyOf s))) := by
  cases s with
  | nil =>
    have H := Lib.hid (first_no b w hR)
    clear hR
    go_enter Tryz.func116, Tryz.ntmps116
    go_wp2_with (go_at_call 108; refine H.out.mono ?_; rintro e w3 ⟨rfl, rfl⟩)
    exact ⟨rfl, Got.no (g_refl _ _)⟩
  | cons c r =>
    have H := Lib.hid (first_yes b c r w hR)
    cases hk : Sf.key1I c.toNat with
    | true =>
      have HK := Lib.hid (key_is (r := r) hk)
      have HT := Lib.hid (take_any _ _ tellsKey b (c :: r) w hR hs)
      rw [key1_is] at hk
      obtain ⟨o, ho⟩ : ∃ o, mapK (Sf.keyOf (c :: r)) = o := ⟨_, rfl⟩
      rw [ho] at HK ⊢
      have HL := Lib.hid (isLower_any c.toNat w)
      obtain ⟨a, ha⟩ : ∃ a, lowI c.toNat = a := ⟨_, rfl⟩
      rw [ha] at HL hk
      clear ha ho hR
      cases a with
      | true =>
        clear hk
        go_enter Tryz.func116, Tryz.ntmps116
        go_wp2_with (first | (go_at_call 108; refine H.out.mono ?_; rintro e w3 ⟨rfl, rfl⟩) | (go_at_call 127; refine HL.out.mono ?_; rintro e w3 ⟨rfl, rfl⟩) | (go_at_call 123; refine (need_yes _).mono ?_; rintro e w3 ⟨rfl, rfl⟩) | (go_at_call 98; refine HT.out.mono ?_; rintro e w3 ⟨rfl, hr, hg⟩))
        go_ret
        rw [HK.out]
        exact Got.ok hg hr
      | false =>
        have h42 : ((c.toNat : Int) == 42) = true := by simpa using hk
        clear hk
        go_enter Tryz.func116, Tryz.ntmps116
        go_wp2_with (first | (go_at_call 108; refine H.out.mono ?_; rintro e w3 ⟨rfl, rfl⟩) | (go_at_call 127; refine HL.out.mono ?_; rintro e w3 ⟨rfl, rfl⟩) | (go_at_call 123; refine (need_yes _).mono ?_; rintro e w3 ⟨rfl, rfl⟩) | (go_at_call 98; refine HT.out.mono ?_; rintro e w3 ⟨rfl, hr, hg⟩))
        go_ret
        rw [HK.out]
        exact Got.ok hg hr
    | false =>
      have hn : mapK (Sf.keyOf (c :: r)) = none := by simp [mapK, Sf.keyOf, hk]
      rw [hn]
      rw [key1_is] at hk
      simp only [Bool.or_eq_false_iff] at hk
      obtain ⟨h1, h42⟩ := hk
      have HL := Lib.hid (isLower_any c.toNat w)
      rw [h1] at HL
      clear h1 hR hn
      go_enter Tryz.func116, Tryz.ntmps116
      go_wp2_with (first | (go_at_call 108; refine H.out.mono ?_; rintro e w3 ⟨rfl, rfl⟩) | (go_at_call 127; refine HL.out.mono ?_; rintro e w3 ⟨rfl, rfl⟩) | (go_at_call 123; refine (need_no _).mono ?_; rintro e w3 ⟨rfl, rfl⟩))
      exact ⟨rfl, Got.no (g_refl _ _)⟩
end Go.Proofs.YtgddmihojladfaaGreatDoor
