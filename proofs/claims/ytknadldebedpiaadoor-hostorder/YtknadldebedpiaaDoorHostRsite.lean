/- The contract of the document's Site. -/
import Derived.Test.YtknadldebedpiaaDoorHostSite
import Derived.Test.YtknadldebedpiaaDoorHostRtext
namespace Go.Proofs.YtknadldebedpiaaDoor
open Go.RowKit

set_option maxHeartbeats 1000000 in
theorem texts_off (g1 o1 g2 c1 c2 : Nat) (pa pb : List (List UInt8)) (w : World) (hl : pa.length = pb.length) (hm : pa.length ≤ 100000)
    (ha : ∀ i (h : i < pa.length), w.cell? ⟨g1, o1 + i, none⟩ = some (Oct.strV pa[i])) (hb : ∀ i (h : i < pb.length), w.cell? ⟨g2, i, none⟩ = some (Oct.strV pb[i])) :
    Calls Tryd.prog 48 #[.slice (some ⟨g1, o1, none⟩) pa.length c1, .slice (some ⟨g2, 0, none⟩) pa.length c2] w fun e w' => e = .returned (.bool (pa == pb)) ∧ ∃ q, w' = w.drewN q := by
  have HL := Lib.hid hl
  have HA := Lib.hid ha
  have HB := Lib.hid hb
  clear ha hb hl
  have h0 : ((pa.length : Int) != (pa.length : Int)) = false := by simp
  go_enter Tryd.func48, Tryd.ntmps48
  go_wp2
  clear h0
  go_loopw [5] (fun i wr => ∃ k m : Nat, k ≤ pa.length ∧ i = .int .i64 k ∧ wr = w.drewN m ∧ Hid (pa.take k = pb.take k)) (fun i _ => pa.length - (intOf i).toNat)
  case atStart => exact ⟨0, 0, Nat.zero_le _, rfl, rfl, rfl⟩
  case round =>
    obtain ⟨k, m, hk, rfl, rfl, hin⟩ := hrel
    by_cases hlt : k < pa.length
    · have hlt2 : k < pb.length := by rw [← HL.out]; exact hlt
      have e1 := HA.out k hlt
      have e2 := HB.out k hlt2
      obtain ⟨x, hx⟩ : ∃ x, pa[k] = x := ⟨_, rfl⟩
      obtain ⟨y, hy⟩ : ∃ y, pb[k] = y := ⟨_, rfl⟩
      rw [hx] at e1; rw [hy] at e2
      have HX := Lib.hid hx; have HY := Lib.hid hy
      clear hx hy
      unfold Oct.strV at e1 e2
      go_wp2
      go_quiet (fail)
      go_wp2
      · have hne : (!x == y) = true := by assumption
        go_ret
        exact ⟨Oct.ret_bool (texts_miss hlt hlt2 HX.out HY.out hne), m + nq, World.drewN_drewN _ _ _⟩
      · have hne : (!x == y) = false := by assumption
        go_roundw
        case rel => exact ⟨k + 1, m + nq, by omega, by go_num, rfl, texts_next hlt hlt2 HX.out HY.out hne hin.out⟩
        case measure => simp [intOf]; omega
    · go_wp2
      go_ret
      exact ⟨Oct.ret_bool (texts_end (by omega) HL.out hin.out), m, rfl⟩

set_option maxHeartbeats 1000000 in
theorem rends_any (g1 c1 g2 c2 : Nat) (ls ks : List (List UInt8)) (w : World) (hm1 : ls.length ≤ 100000) (hm2 : ks.length ≤ 100000) (hc1 : ls.length ≤ c1) (hk0 : 0 < ks.length)
    (ha : ∀ i (h : i < ls.length), w.cell? ⟨g1, i, none⟩ = some (Oct.strV ls[i])) (hb : ∀ i (h : i < ks.length), w.cell? ⟨g2, i, none⟩ = some (Oct.strV ks[i])) :
    Calls Tryd.prog 33 #[.slice (some ⟨g1, 0, none⟩) ls.length c1, .slice (some ⟨g2, 0, none⟩) ks.length c2] w fun e w' => e = .returned (.bool (hitB ls ks)) ∧ ∃ q, w' = w.drewN q := by
  by_cases hl : ks.length ≤ ls.length
  · have hd : (ls.drop (ls.length - ks.length)).length = ks.length := by simp; omega
    have hcall := texts_off g1 (ls.length - ks.length) g2 (c1 - (ls.length - ks.length)) c2 (ls.drop (ls.length - ks.length)) ks w hd (by omega)
      (fun i h => by
        rw [ha (ls.length - ks.length + i) (by omega), List.getElem_drop]) hb
    rw [hd, hit_eq hl] at hcall
    obtain ⟨R, hR⟩ : ∃ R, hitB ls ks = R := ⟨_, rfl⟩
    rw [hR] at hcall ⊢
    obtain ⟨n, hn⟩ : ∃ n, ls.length = n := ⟨_, rfl⟩
    obtain ⟨m, hm⟩ : ∃ m, ks.length = m := ⟨_, rfl⟩
    rw [hn] at hm1 hc1
    rw [hm] at hm2 hk0
    rw [hn, hm] at hl hcall ⊢
    have HC := Lib.hid hcall
    clear hcall ha hb hn hm hR hd
    have hne : c1 ≠ n - m := by omega
    have hsub : ((n : Int) - (m : Int)).toNat = n - m := by omega
    have hb0 : (0 : Int) ≤ (n : Int) - (m : Int) := by omega
    have hb1 : (n : Int) - (m : Int) ≤ (n : Int) := by omega
    have hnm : n - (n - m) = m := by omega
    go_enter Tryd.func33, Tryd.ntmps33
    go_wp2_with fail
    refine HC.out.mono ?_
    rintro e w' ⟨rfl, q, rfl⟩
    go_wp2_with fail
    go_ret
    exact ⟨rfl, q, rfl⟩
  · have hlt : ls.length < ks.length := by omega
    have HH := Lib.hid (hit_long hlt)
    clear ha hb
    go_enter Tryd.func33, Tryd.ntmps33
    go_wp2_with fail
    go_ret
    exact ⟨Oct.ret_bool HH.out, 0, rfl⟩
theorem rends_is (g1 c1 g2 c2 : Nat) (ls ks : List (List UInt8)) (b : Bool) (w : World) (hm1 : ls.length ≤ 100000) (hm2 : ks.length ≤ 100000) (hc1 : ls.length ≤ c1) (hk0 : 0 < ks.length)
    (ha : ∀ i (h : i < ls.length), w.cell? ⟨g1, i, none⟩ = some (Oct.strV ls[i])) (hb : ∀ i (h : i < ks.length), w.cell? ⟨g2, i, none⟩ = some (Oct.strV ks[i])) (h : hitB ls ks = b) :
    Calls Tryd.prog 33 #[.slice (some ⟨g1, 0, none⟩) ls.length c1, .slice (some ⟨g2, 0, none⟩) ks.length c2] w fun e w' => e = .returned (.bool b) ∧ ∃ q, w' = w.drewN q := by
  subst h; exact rends_any g1 c1 g2 c2 ls ks w hm1 hm2 hc1 hk0 ha hb

def best0 (ls : List (List UInt8)) (sx : List (List UInt8)) : Nat := (sx.map Hst.parts).foldl (stepN ls) 0
theorem best0_take (ls : List (List UInt8)) (sx : List (List UInt8)) (k : Nat) (hk : k < sx.length) : best0 ls (sx.take (k + 1)) = stepN ls (best0 ls (sx.take k)) (Hst.parts sx[k]) := by
  rw [List.take_succ_eq_append_getElem hk]
  unfold best0
  rw [List.map_append, List.foldl_append]
  rfl
theorem best_of0 (ls sx : List (List UInt8)) : bestN ls sx = if best0 ls sx = 0 then 1 else best0 ls sx := by
  unfold bestN best0
  have key : ∀ (l : List (List UInt8)) b c, ((b = 0 ∧ c = 1) ∨ (b = c ∧ 0 < b)) →
      (((l.map Hst.parts).foldl (stepN ls) b = 0 ∧ (l.map Hst.parts).foldl (stepN ls) c = 1) ∨ ((l.map Hst.parts).foldl (stepN ls) b = (l.map Hst.parts).foldl (stepN ls) c ∧ 0 < (l.map Hst.parts).foldl (stepN ls) b)) := by
    intro l
    induction l with
    | nil => intro b c h; exact h
    | cons s r ih =>
      intro b c h
      rw [List.map_cons, List.foldl_cons, List.foldl_cons]
      refine ih _ _ ?_
      have hp := Hst.parts_pos s
      unfold stepN
      rcases h with ⟨rfl, rfl⟩ | ⟨rfl, hb⟩
      · cases hitB ls (Hst.parts s) with
        | false => left; simp
        | true =>
          right
          by_cases h1 : 1 < (Hst.parts s).length
          · simp [h1, hp]
          · have : (Hst.parts s).length = 1 := by omega
            simp [this]
      · right
        refine ⟨rfl, ?_⟩
        split <;> omega
  rcases key sx 0 1 (.inl ⟨rfl, rfl⟩) with ⟨h1, h2⟩ | ⟨h1, h2⟩
  · rw [h1, h2]; rfl
  · rw [if_neg (by omega), h1]
theorem best0_le (ls sx : List (List UInt8)) (h : ∀ s ∈ sx, s.length ≤ 1000) : best0 ls sx ≤ 1001 := by
  have h1 := best_le ls sx h
  rw [best_of0] at h1
  split at h1 <;> omega

set_option maxHeartbeats 1000000 in
theorem rsite_any (n : ByteArray) (b : Bool) (a : Int) (A : Option Addr) (c : Nat) (sx : List (List UInt8)) (w : World) (hT : Tab w) (a0 : 0 ≤ a) (a1 : a ≤ 4294967295) (hn : n.size ≤ 1000) (hsl : sx.length ≤ 1000) (hsz : ∀ s ∈ sx, s.length ≤ 1000) (hA : Seen w A sx) :
    Calls Tryd.prog 17 #[.agg #[.string n, .bool b, .int .u32 a], .slice A sx.length c] w fun e w' => e = .returned (.string ⟨(siteL ⟨n.data.toList, b, a⟩ sx).toArray⟩) ∧ Below w.heap.size w w' := by
  cases b with
  | true =>
    have hcall := fun W hTW => rtext_any n true a W hTW a0 a1
    have HC := Lib.hid hcall
    clear hcall
    go_enter Tryd.func17, Tryd.ntmps17
    go_wp2_with fail
    refine (HC.out _ (hT.below ((Below.refl _ _).alloc (Nat.le_refl _) _))).mono ?_
    rintro e w1 ⟨rfl, hb1⟩
    go_wp2_with fail
    go_ret
    exact ⟨rfl, ((Below.refl _ w).alloc (Nat.le_refl _) _).trans (hb1.mono (by simp))⟩
  | false =>
    obtain ⟨ls, hls⟩ : ∃ ls, Hst.parts n.data.toList = ls := ⟨_, rfl⟩
    have hlpos := Hst.parts_pos n.data.toList
    have hllen := Hst.parts_len n.data.toList
    have hsize : n.data.toList.length = n.size := by simp
    have hjl := Hst.join_parts n.data.toList
    rw [hsize] at hllen
    rw [hls] at hlpos hllen hjl
    have HLS := Lib.hid hls
    have HSZ := Lib.hid hsz
    have HJL := Lib.hid hjl
    have HNS := Lib.hid hsize
    clear hls hsz hjl hsize
    go_enter Tryd.func17, Tryd.ntmps17
    go_wp2_with fail
    refine (rsplit_any n 46 _ (by omega)).mono ?_
    rintro e w2 ⟨v, rfl, hb2, ho⟩
    replace ho := (show w2.ownsRow _ 9 1 v ls.length (ls.map Oct.strV) by rw [← HLS.out]; exact ho)
    rcases owns_view2 ho with ⟨rfl, h0'⟩ | ⟨g, cap, rfl, hcap, hg, hgb, hcells⟩
    · exfalso; subst h0'; simp at hlpos
    have hbw : Below w.heap.size w w2 := ((Below.refl _ w).alloc (Nat.le_refl _) _).trans (hb2.mono (by simp))
    have HCL := Lib.hid hcells
    have HA := Lib.hid (hA.below hbw)
    clear ho hcells hA hgb
    go_wp2_with fail
    go_loopw [6, 7] (fun bs i wr => ∃ k B : Nat, k ≤ sx.length ∧ i = .int .i64 k ∧ bs = .int .i64 B ∧ B ≤ 1001 ∧ Hid (B = best0 ls (sx.take k)) ∧ Below w2.heap.size w2 wr) (fun _ i _ => sx.length - (intOf i).toNat)
    case atStart => exact ⟨0, 0, Nat.zero_le _, rfl, rfl, by omega, rfl, Below.refl _ _⟩
    case round =>
      obtain ⟨k, B, hk, rfl, rfl, hB, HB, hbr⟩ := hrel
      by_cases hlt : k < sx.length
      · obtain ⟨ad, rfl, _, hac⟩ := (HA.out.below hbr) (by omega)
        have hce := hac k hlt
        have hss := HSZ.out _ (List.getElem_mem hlt)
        obtain ⟨p, hp⟩ : ∃ p, sx[k] = p := ⟨_, rfl⟩
        rw [hp] at hce hss
        have hnext := best0_take ls sx k hlt
        rw [hp, ← HB.out] at hnext
        have HN := Lib.hid hnext
        clear hp hac hnext
        unfold Oct.strV at hce
        have hkp := Hst.parts_pos p
        have hkl := Hst.parts_len p
        go_wp2_with fail
        refine (rsplit_any ⟨p.toArray⟩ 46 wr (by rw [size_list]; omega)).mono ?_
        rintro e w3 ⟨v3, rfl, hb3, ho3⟩
        replace ho3 := (show w3.ownsRow wr.heap.size 9 1 v3 (Hst.parts p).length ((Hst.parts p).map Oct.strV) from ho3)
        rcases owns_view2 ho3 with ⟨rfl, h0'⟩ | ⟨g3, cap3, rfl, hcap3, hg3, hgb3, hcells3⟩
        · exfalso; rw [h0'] at hkp; simp at hkp
        have hbr3 : Below w2.heap.size w2 w3 := hbr.trans (hb3.mono hbr.size)
        have d1 : ∀ i (h : i < ls.length), w3.cell? ⟨g, i, none⟩ = some (Oct.strV ls[i]) := fun i h => by rw [hbr3.cell hg]; exact HCL.out i h
        obtain ⟨ks, hks⟩ : ∃ ks, Hst.parts p = ks := ⟨_, rfl⟩
        have hcall := fun bb => rends_is g cap g3 cap3 ls (Hst.parts p) bb w3 (by omega) (by omega) hcap hkp d1 hcells3
        rw [hks] at hcall hkp hkl ⊢
        rw [hks] at HN
        have HC := Lib.hid hcall
        clear hcall ho3 hcells3 hce d1 hks hcap3
        cases hh : hitB ls ks with
        | true =>
          have hcall := HC.out true hh
          have HH := Lib.hid hh
          clear hh
          go_wp2_with fail
          refine hcall.mono ?_
          rintro e w4 ⟨rfl, q, rfl⟩
          clear hcall
          by_cases hbk : B < ks.length
          · have hst : stepN ls B ks = ks.length := by unfold stepN; rw [HH.out]; simp [hbk]
            have HST := Lib.hid hst
            clear hst
            go_wp2_with fail
            go_roundw
            case rel => exact ⟨k + 1, ks.length, by omega, by go_num, rfl, by omega, by rw [HN.out, HST.out]; rfl, below_drewN' hbr3 q⟩
            case measure => simp [intOf]; omega
          · have hst : stepN ls B ks = B := by unfold stepN; simp [hbk]
            have HST := Lib.hid hst
            clear hst
            go_wp2_with fail
            go_roundw
            case rel => exact ⟨k + 1, B, by omega, by go_num, rfl, by omega, by rw [HN.out, HST.out]; rfl, below_drewN' hbr3 q⟩
            case measure => simp [intOf]; omega
        | false =>
          have hcall := HC.out false hh
          have hst : stepN ls B ks = B := by unfold stepN; rw [hh]; simp
          have HST := Lib.hid hst
          clear hh hst
          go_wp2_with fail
          refine hcall.mono ?_
          rintro e w4 ⟨rfl, q, rfl⟩
          clear hcall
          go_wp2_with fail
          go_roundw
          case rel => exact ⟨k + 1, B, by omega, by go_num, rfl, by omega, by rw [HN.out, HST.out]; rfl, below_drewN' hbr3 q⟩
          case measure => simp [intOf]; omega
      · have hbn : bestN ls sx = if B = 0 then 1 else B := by
          rw [best_of0, HB.out, List.take_of_length_le (by omega)]
        have hbe := hbw.trans (hbr.mono hbw.size)
        have HBE := Lib.hid hbe
        have HCR : Hid (∀ i (h : i < ls.length), wr.cell? ⟨g, i, none⟩ = some (Oct.strV ls[i])) := fun i h => by rw [hbr.cell hg]; exact HCL.out i h
        clear hbe
        rcases Nat.eq_zero_or_pos B with hB0 | hB0
        · subst hB0
          rw [if_pos rfl] at hbn
          have HBN := Lib.hid hbn
          clear hbn HB
          have e0 : ((0 : Nat) : Int) = 0 := rfl
          rw [e0]
          clear e0
          by_cases hfr : (ls.length : Int) - 1 - 1 < 0
          · have hf2 : 0 < ls.length := by omega
            have hfr3 : ls.length - 1 - 1 = 0 := by omega
            have HF3 := Lib.hid hfr3
            clear hfr3
            go_wp2_with fail
            clear hfr
            have hps : (ls.drop 0).length = ls.length - 0 := by simp
            have hjm : ∀ q (h : q < (ls.drop 0).length), (Oct.join 46 ((ls.drop 0).take q)).length + (if q = 0 then 0 else 1) + (ls.drop 0)[q].length ≤ 1000 := fun q h => by
              have h1 := Oct.join_len 46 (ls.drop 0) q h
              have h2 := join_drop 0 ls
              rw [HJL.out, HNS.out] at h2
              omega
            have HJM := Lib.hid hjm
            clear hjm
            go_loop [11, 12] (fun tx i => ∃ j : Nat, ∃ t : ByteArray, 0 ≤ j ∧ j ≤ ls.length ∧ i = .int .i64 j ∧ tx = .string t ∧ t.size ≤ 1000 ∧ Hid (t.data.toList = Oct.join 46 ((ls.drop 0).take (j - 0)))) (fun _ i => ls.length - (intOf i).toNat)
            case atStart => exact ⟨0, ⟨#[]⟩, Nat.le_refl _, by omega, rfl, rfl, by decide, by rw [Nat.sub_self]; rfl⟩
            case round =>
              obtain ⟨j, t, hj1, hj2, rfl, rfl, hts, HTX⟩ := hrel
              by_cases hjl : j < ls.length
              · have hce := HCR.out j hjl
                have hq : j - 0 < (ls.drop 0).length := by omega
                have hjt := Oct.join_take 46 (ls.drop 0) (j - 0) hq
                have hlen := HJM.out (j - 0) hq
                have hpj : (ls.drop 0)[j - 0] = ls[j]'hjl := by rw [List.getElem_drop]; congr 1; omega
                rw [hpj] at hjt hlen
                have htl : t.size = (Oct.join 46 ((ls.drop 0).take (j - 0))).length := by rw [← HTX.out]; simp
                rw [← htl] at hlen
                rw [← HTX.out] at hjt
                obtain ⟨p, hp⟩ : ∃ p, ls[j]'hjl = p := ⟨_, rfl⟩
                rw [hp] at hce hjt hlen
                have hpz := size_list p
                obtain ⟨z, hz⟩ : ∃ z : ByteArray, z = ⟨p.toArray⟩ := ⟨_, rfl⟩
                unfold Oct.strV at hce
                rw [← hz] at hce hpz
                have hzl : z.data.toList = p := by rw [hz]
                have HJT := Lib.hid hjt
                have HZL := Lib.hid hzl
                rcases Nat.lt_or_ge 0 j with hfj | hfj
                · have hlen2 : t.size + 1 + z.size ≤ 1000 := by rw [if_neg (by omega)] at hlen; omega
                  have hfj' : ((0 : Nat) : Int) < (j : Int) := by omega
                  clear hp hz hzl hjt hlen htl hpj hpz
                  go_wp2_with fail
                  go_round
                  case rel => exact ⟨j + 1, _, by omega, by omega, by go_num, rfl, by simp only [ByteArray.size_append, size_dot]; omega, by rw [show j + 1 - 0 = j - 0 + 1 by omega, HJT.out, if_neg (by omega)]; refine Lib.hid ?_; simp [HZL.out]⟩
                  case measure => simp [intOf]; omega
                · have hlen2 : t.size + z.size ≤ 1000 := by omega
                  have hfj' : ¬ ((0 : Nat) : Int) < (j : Int) := by omega
                  have hfj3 : decide (((0 : Nat) : Int) < (j : Int)) = false := by simpa using hfj'
                  clear hp hz hzl hjt hlen htl hpj hpz
                  go_wp2_with fail
                  go_round
                  case rel => exact ⟨j + 1, _, by omega, by omega, by go_num, rfl, by simp only [ByteArray.size_append]; omega, by rw [show j + 1 - 0 = j - 0 + 1 by omega, HJT.out, if_pos (by omega)]; refine Lib.hid ?_; simp [HZL.out]⟩
                  case measure => simp [intOf]; omega
              · have hfin : t = ⟨(siteN n.data.toList sx).toArray⟩ := by
                  have h1 := HTX.out
                  rw [List.take_of_length_le (by omega)] at h1
                  cases t
                  congr 1
                  apply Array.toList_inj.1
                  unfold siteN
                  rw [HLS.out, HBN.out]
                  rw [show ls.length - 1 - 1 = 0 from HF3.out]
                  exact h1
                clear HTX
                subst hfin
                go_wp2_with fail
                go_ret
                exact ⟨rfl, HBE.out⟩
          · obtain ⟨f, hf⟩ : ∃ f : Nat, f = ls.length - 1 - 1 := ⟨_, rfl⟩
            have hfr2 : 0 ≤ ((ls.length : Int) - 1 - 1) := by omega
            have hf2 : f < ls.length := by omega
            have HF := Lib.hid hf
            clear hf
            go_wp2_with fail
            have hfe : ((ls.length : Int) - 1 - 1) = (f : Int) := by have := HF.out; omega
            rw [hfe]
            clear hfe hfr hfr2
            have hps : (ls.drop f).length = ls.length - f := by simp
            have hjm : ∀ q (h : q < (ls.drop f).length), (Oct.join 46 ((ls.drop f).take q)).length + (if q = 0 then 0 else 1) + (ls.drop f)[q].length ≤ 1000 := fun q h => by
              have h1 := Oct.join_len 46 (ls.drop f) q h
              have h2 := join_drop f ls
              rw [HJL.out, HNS.out] at h2
              omega
            have HJM := Lib.hid hjm
            clear hjm
            go_loop [11, 12] (fun tx i => ∃ j : Nat, ∃ t : ByteArray, f ≤ j ∧ j ≤ ls.length ∧ i = .int .i64 j ∧ tx = .string t ∧ t.size ≤ 1000 ∧ Hid (t.data.toList = Oct.join 46 ((ls.drop f).take (j - f)))) (fun _ i => ls.length - (intOf i).toNat)
            case atStart => exact ⟨f, ⟨#[]⟩, Nat.le_refl _, by omega, rfl, rfl, by decide, by rw [Nat.sub_self]; rfl⟩
            case round =>
              obtain ⟨j, t, hj1, hj2, rfl, rfl, hts, HTX⟩ := hrel
              by_cases hjl : j < ls.length
              · have hce := HCR.out j hjl
                have hq : j - f < (ls.drop f).length := by omega
                have hjt := Oct.join_take 46 (ls.drop f) (j - f) hq
                have hlen := HJM.out (j - f) hq
                have hpj : (ls.drop f)[j - f] = ls[j]'hjl := by rw [List.getElem_drop]; congr 1; omega
                rw [hpj] at hjt hlen
                have htl : t.size = (Oct.join 46 ((ls.drop f).take (j - f))).length := by rw [← HTX.out]; simp
                rw [← htl] at hlen
                rw [← HTX.out] at hjt
                obtain ⟨p, hp⟩ : ∃ p, ls[j]'hjl = p := ⟨_, rfl⟩
                rw [hp] at hce hjt hlen
                have hpz := size_list p
                obtain ⟨z, hz⟩ : ∃ z : ByteArray, z = ⟨p.toArray⟩ := ⟨_, rfl⟩
                unfold Oct.strV at hce
                rw [← hz] at hce hpz
                have hzl : z.data.toList = p := by rw [hz]
                have HJT := Lib.hid hjt
                have HZL := Lib.hid hzl
                rcases Nat.lt_or_ge f j with hfj | hfj
                · have hlen2 : t.size + 1 + z.size ≤ 1000 := by rw [if_neg (by omega)] at hlen; omega
                  have hfj' : ((f : Nat) : Int) < (j : Int) := by omega
                  clear hp hz hzl hjt hlen htl hpj hpz
                  go_wp2_with fail
                  go_round
                  case rel => exact ⟨j + 1, _, by omega, by omega, by go_num, rfl, by simp only [ByteArray.size_append, size_dot]; omega, by rw [show j + 1 - f = j - f + 1 by omega, HJT.out, if_neg (by omega)]; refine Lib.hid ?_; simp [HZL.out]⟩
                  case measure => simp [intOf]; omega
                · have hlen2 : t.size + z.size ≤ 1000 := by omega
                  have hfj' : ¬ ((f : Nat) : Int) < (j : Int) := by omega
                  have hfj3 : decide (((f : Nat) : Int) < (j : Int)) = false := by simpa using hfj'
                  clear hp hz hzl hjt hlen htl hpj hpz
                  go_wp2_with fail
                  go_round
                  case rel => exact ⟨j + 1, _, by omega, by omega, by go_num, rfl, by simp only [ByteArray.size_append]; omega, by rw [show j + 1 - f = j - f + 1 by omega, HJT.out, if_pos (by omega)]; refine Lib.hid ?_; simp [HZL.out]⟩
                  case measure => simp [intOf]; omega
              · have hfin : t = ⟨(siteN n.data.toList sx).toArray⟩ := by
                  have h1 := HTX.out
                  rw [List.take_of_length_le (by omega)] at h1
                  cases t
                  congr 1
                  apply Array.toList_inj.1
                  unfold siteN
                  rw [HLS.out, HBN.out]
                  rw [show ls.length - 1 - 1 = f by exact HF.out.symm]
                  exact h1
                clear HTX
                subst hfin
                go_wp2_with fail
                go_ret
                exact ⟨rfl, HBE.out⟩
        · rw [if_neg (by omega)] at hbn
          have HBN := Lib.hid hbn
          clear hbn HB
          have hB2 : ((B : Int) == 0) = false := by rw [beq_eq_false_iff_ne]; omega
          by_cases hfr : (ls.length : Int) - (B : Int) - 1 < 0
          · have hf2 : 0 < ls.length := by omega
            have hfr3 : ls.length - B - 1 = 0 := by omega
            have HF3 := Lib.hid hfr3
            clear hfr3
            go_wp2_with fail
            clear hfr
            have hps : (ls.drop 0).length = ls.length - 0 := by simp
            have hjm : ∀ q (h : q < (ls.drop 0).length), (Oct.join 46 ((ls.drop 0).take q)).length + (if q = 0 then 0 else 1) + (ls.drop 0)[q].length ≤ 1000 := fun q h => by
              have h1 := Oct.join_len 46 (ls.drop 0) q h
              have h2 := join_drop 0 ls
              rw [HJL.out, HNS.out] at h2
              omega
            have HJM := Lib.hid hjm
            clear hjm
            go_loop [11, 12] (fun tx i => ∃ j : Nat, ∃ t : ByteArray, 0 ≤ j ∧ j ≤ ls.length ∧ i = .int .i64 j ∧ tx = .string t ∧ t.size ≤ 1000 ∧ Hid (t.data.toList = Oct.join 46 ((ls.drop 0).take (j - 0)))) (fun _ i => ls.length - (intOf i).toNat)
            case atStart => exact ⟨0, ⟨#[]⟩, Nat.le_refl _, by omega, rfl, rfl, by decide, by rw [Nat.sub_self]; rfl⟩
            case round =>
              obtain ⟨j, t, hj1, hj2, rfl, rfl, hts, HTX⟩ := hrel
              by_cases hjl : j < ls.length
              · have hce := HCR.out j hjl
                have hq : j - 0 < (ls.drop 0).length := by omega
                have hjt := Oct.join_take 46 (ls.drop 0) (j - 0) hq
                have hlen := HJM.out (j - 0) hq
                have hpj : (ls.drop 0)[j - 0] = ls[j]'hjl := by rw [List.getElem_drop]; congr 1; omega
                rw [hpj] at hjt hlen
                have htl : t.size = (Oct.join 46 ((ls.drop 0).take (j - 0))).length := by rw [← HTX.out]; simp
                rw [← htl] at hlen
                rw [← HTX.out] at hjt
                obtain ⟨p, hp⟩ : ∃ p, ls[j]'hjl = p := ⟨_, rfl⟩
                rw [hp] at hce hjt hlen
                have hpz := size_list p
                obtain ⟨z, hz⟩ : ∃ z : ByteArray, z = ⟨p.toArray⟩ := ⟨_, rfl⟩
                unfold Oct.strV at hce
                rw [← hz] at hce hpz
                have hzl : z.data.toList = p := by rw [hz]
                have HJT := Lib.hid hjt
                have HZL := Lib.hid hzl
                rcases Nat.lt_or_ge 0 j with hfj | hfj
                · have hlen2 : t.size + 1 + z.size ≤ 1000 := by rw [if_neg (by omega)] at hlen; omega
                  have hfj' : ((0 : Nat) : Int) < (j : Int) := by omega
                  clear hp hz hzl hjt hlen htl hpj hpz
                  go_wp2_with fail
                  go_round
                  case rel => exact ⟨j + 1, _, by omega, by omega, by go_num, rfl, by simp only [ByteArray.size_append, size_dot]; omega, by rw [show j + 1 - 0 = j - 0 + 1 by omega, HJT.out, if_neg (by omega)]; refine Lib.hid ?_; simp [HZL.out]⟩
                  case measure => simp [intOf]; omega
                · have hlen2 : t.size + z.size ≤ 1000 := by omega
                  have hfj' : ¬ ((0 : Nat) : Int) < (j : Int) := by omega
                  have hfj3 : decide (((0 : Nat) : Int) < (j : Int)) = false := by simpa using hfj'
                  clear hp hz hzl hjt hlen htl hpj hpz
                  go_wp2_with fail
                  go_round
                  case rel => exact ⟨j + 1, _, by omega, by omega, by go_num, rfl, by simp only [ByteArray.size_append]; omega, by rw [show j + 1 - 0 = j - 0 + 1 by omega, HJT.out, if_pos (by omega)]; refine Lib.hid ?_; simp [HZL.out]⟩
                  case measure => simp [intOf]; omega
              · have hfin : t = ⟨(siteN n.data.toList sx).toArray⟩ := by
                  have h1 := HTX.out
                  rw [List.take_of_length_le (by omega)] at h1
                  cases t
                  congr 1
                  apply Array.toList_inj.1
                  unfold siteN
                  rw [HLS.out, HBN.out]
                  rw [show ls.length - B - 1 = 0 from HF3.out]
                  exact h1
                clear HTX
                subst hfin
                go_wp2_with fail
                go_ret
                exact ⟨rfl, HBE.out⟩
          · obtain ⟨f, hf⟩ : ∃ f : Nat, f = ls.length - B - 1 := ⟨_, rfl⟩
            have hfr2 : 0 ≤ ((ls.length : Int) - (B : Int) - 1) := by omega
            have hf2 : f < ls.length := by omega
            have HF := Lib.hid hf
            clear hf
            go_wp2_with fail
            have hfe : ((ls.length : Int) - (B : Int) - 1) = (f : Int) := by have := HF.out; omega
            rw [hfe]
            clear hfe hfr hfr2
            have hps : (ls.drop f).length = ls.length - f := by simp
            have hjm : ∀ q (h : q < (ls.drop f).length), (Oct.join 46 ((ls.drop f).take q)).length + (if q = 0 then 0 else 1) + (ls.drop f)[q].length ≤ 1000 := fun q h => by
              have h1 := Oct.join_len 46 (ls.drop f) q h
              have h2 := join_drop f ls
              rw [HJL.out, HNS.out] at h2
              omega
            have HJM := Lib.hid hjm
            clear hjm
            go_loop [11, 12] (fun tx i => ∃ j : Nat, ∃ t : ByteArray, f ≤ j ∧ j ≤ ls.length ∧ i = .int .i64 j ∧ tx = .string t ∧ t.size ≤ 1000 ∧ Hid (t.data.toList = Oct.join 46 ((ls.drop f).take (j - f)))) (fun _ i => ls.length - (intOf i).toNat)
            case atStart => exact ⟨f, ⟨#[]⟩, Nat.le_refl _, by omega, rfl, rfl, by decide, by rw [Nat.sub_self]; rfl⟩
            case round =>
              obtain ⟨j, t, hj1, hj2, rfl, rfl, hts, HTX⟩ := hrel
              by_cases hjl : j < ls.length
              · have hce := HCR.out j hjl
                have hq : j - f < (ls.drop f).length := by omega
                have hjt := Oct.join_take 46 (ls.drop f) (j - f) hq
                have hlen := HJM.out (j - f) hq
                have hpj : (ls.drop f)[j - f] = ls[j]'hjl := by rw [List.getElem_drop]; congr 1; omega
                rw [hpj] at hjt hlen
                have htl : t.size = (Oct.join 46 ((ls.drop f).take (j - f))).length := by rw [← HTX.out]; simp
                rw [← htl] at hlen
                rw [← HTX.out] at hjt
                obtain ⟨p, hp⟩ : ∃ p, ls[j]'hjl = p := ⟨_, rfl⟩
                rw [hp] at hce hjt hlen
                have hpz := size_list p
                obtain ⟨z, hz⟩ : ∃ z : ByteArray, z = ⟨p.toArray⟩ := ⟨_, rfl⟩
                unfold Oct.strV at hce
                rw [← hz] at hce hpz
                have hzl : z.data.toList = p := by rw [hz]
                have HJT := Lib.hid hjt
                have HZL := Lib.hid hzl
                rcases Nat.lt_or_ge f j with hfj | hfj
                · have hlen2 : t.size + 1 + z.size ≤ 1000 := by rw [if_neg (by omega)] at hlen; omega
                  have hfj' : ((f : Nat) : Int) < (j : Int) := by omega
                  clear hp hz hzl hjt hlen htl hpj hpz
                  go_wp2_with fail
                  go_round
                  case rel => exact ⟨j + 1, _, by omega, by omega, by go_num, rfl, by simp only [ByteArray.size_append, size_dot]; omega, by rw [show j + 1 - f = j - f + 1 by omega, HJT.out, if_neg (by omega)]; refine Lib.hid ?_; simp [HZL.out]⟩
                  case measure => simp [intOf]; omega
                · have hlen2 : t.size + z.size ≤ 1000 := by omega
                  have hfj' : ¬ ((f : Nat) : Int) < (j : Int) := by omega
                  have hfj3 : decide (((f : Nat) : Int) < (j : Int)) = false := by simpa using hfj'
                  clear hp hz hzl hjt hlen htl hpj hpz
                  go_wp2_with fail
                  go_round
                  case rel => exact ⟨j + 1, _, by omega, by omega, by go_num, rfl, by simp only [ByteArray.size_append]; omega, by rw [show j + 1 - f = j - f + 1 by omega, HJT.out, if_pos (by omega)]; refine Lib.hid ?_; simp [HZL.out]⟩
                  case measure => simp [intOf]; omega
              · have hfin : t = ⟨(siteN n.data.toList sx).toArray⟩ := by
                  have h1 := HTX.out
                  rw [List.take_of_length_le (by omega)] at h1
                  cases t
                  congr 1
                  apply Array.toList_inj.1
                  unfold siteN
                  rw [HLS.out, HBN.out]
                  rw [show ls.length - B - 1 = f by exact HF.out.symm]
                  exact h1
                clear HTX
                subst hfin
                go_wp2_with fail
                go_ret
                exact ⟨rfl, HBE.out⟩
end Go.Proofs.YtknadldebedpiaaDoor
