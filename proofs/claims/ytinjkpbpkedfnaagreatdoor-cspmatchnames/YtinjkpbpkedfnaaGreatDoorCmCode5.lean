/- The contract of the program's parseHost where a scheme with two strokes stands ahead. -/
import Derived.Test.YtinjkpbpkedfnaaGreatDoorCmCode4
namespace Go.Proofs.YtinjkpbpkedfnaaGreatDoor
open Go.RowKit
open Oct (lower numOk)
open Urp (bef aft hasB No begB)

set_option maxHeartbeats 8000000 in
set_option maxRecDepth 20000 in
theorem cmPhost_yes (s x r u y z : List UInt8) (w : World) (sc : Bool) (hul : u.length ≤ 100000000) (hyl : y.length ≤ 100000000) (hzl : z.length ≤ 100000000) (hl3 : ∀ b ∈ y, Oct.low1 b = b) (hb1 : begB [58, 47, 47] r = true) (hu : r.drop 3 = u) (hy : Cm.up u = y) (hz : Cm.rst u = z)
    (hcut : ∀ W, CBox W w.heap.size 9 #[.string (bA s)] → Calls Tryz.prog 63 #[.string ⟨#[58, 47]⟩, .pointer (some ⟨w.heap.size, 0, none⟩)] W fun e w' => e = .returned (.string (bA x)) ∧ CBox w' w.heap.size 9 #[.string (bA r)] ∧ W.grownBy w' (some w.heap.size))
    (hsc : ∀ W, Calls Tryz.prog 29 #[.string (bA x)] W fun e w' => e = .returned (.bool sc) ∧ W = w') :
    Calls Tryz.prog 30 #[.string (bA s)] w fun e w' => e = .returned (srcV (if sc then Cm.tailS x y z else Cm.none_)) ∧ Below w.heap.size w w' := by
  have HX0 := Lib.hid (RdyPh0.mk0 w s)
  have HCUT := Lib.hid hcut
  have HC2 := Lib.hid (fun W (h : CBox W w.heap.size 9 #[.string (bA u)]) => cutHost_any w.heap.size u W h hul)
  rw [hy, hz] at HC2
  have HSC := Lib.hid hsc; have HU := Lib.hid hu
  clear hcut hsc hy hz hul hu
  unfold zeroC srcC at HX0
  obtain ⟨T, hT⟩ : ∃ T, (if sc then Cm.tailS x y z else Cm.none_) = T := ⟨_, rfl⟩
  rw [hT]
  go_enter Tryz.func30, Tryz.ntmps30
  go_wp2_with fail
  refine (HCUT.out _ HX0.out.t).mono ?_
  rintro e w1 ⟨rfl, ht1, hg1⟩
  have HX1 := Lib.hid (HX0.out.cut ht1 hg1)
  clear ht1 hg1
  go_wp2_with fail
  have HX2 := Lib.hid (HX1.out.put (.int .i64 4) (.string (bA [])) (.string (bA x)) (.int .i64 (-1)))
  refine (cutMark_any _ r [58, 47, 47] _ HX2.out.t).mono ?_
  rintro e w3 ⟨rfl, ht3, hg3⟩
  rw [hb1] at ht3
  rw [hb1]
  have HX3 := Lib.hid (HX2.out.cut ht3 hg3)
  clear ht3 hg3
  obtain ⟨B, hB⟩ : ∃ A, w.heap.size = A := ⟨_, rfl⟩
  obtain ⟨R, hR⟩ : ∃ A, B + 1 = A := ⟨_, rfl⟩
  obtain ⟨S, hS⟩ : ∃ A, w1.heap.size = A := ⟨_, rfl⟩
  simp only [hB, hR, hS] at HX3 ⊢
  have HX4 : Hid (RdyPh w B R u S #[.int .i64 4, .string (bA []), .string (bA x), .int .i64 (-1)] w3) := Lib.hid (by rw [← HU.out]; exact HX3.out)
  rw [hB] at HC2
  clear HX0 HX1 HX2 HX3 HCUT hB hR hS hb1 HU
  have s2 : w3.cell? ⟨S, 2, none⟩ = some (.string (bA x)) := HX4.out.s.c 2
  have hR1 := HX4.out
  go_wp2_with fail
  clear s2
  obtain ⟨s0, s1, s2, s3, s4, s5, s6, s7⟩ := hR1.s.all4
  go_region_with (first | (go_at_call 63; refine (HC2.out _ (by first | exact hR1.t | exact hR1.drew.t | exact hR1.drew.drew.t)).mono ?_; rintro e w4 ⟨rfl, ht4, hg4⟩; obtain ⟨q0, q1, q2, q3, q4, q5, q6, q7⟩ := (RdyPh.cut hR1.drew ht4 hg4).s.all4))
  all_goals (
    have hR2 := RdyPh.cut hR1.drew ht4 hg4
    have HX5a : Hid (RdyPh w B R z S #[.int .i64 4, .string (bA x), .string (bA y), .int .i64 (-1)] ((w4.setCell ⟨S, 1, none⟩ (.string (bA x))).setCell ⟨S, 2, none⟩ (.string (bA y)))) := Lib.hid ((hR2.set 1 _).set 2 _)
    generalize (w4.setCell ⟨S, 1, none⟩ (.string (bA x))).setCell ⟨S, 2, none⟩ (.string (bA y)) = w5 at HX5a ⊢
    clear hR1 hR2 s0 s1 s2 s3 s4 s5 s6 s7 q0 q1 q2 q3 q4 q5 q6 q7 ht4 hg4 HC2
    have s1 : w5.cell? ⟨S, 1, none⟩ = some (.string (bA x)) := HX5a.out.s.c 1
    go_wp2_with fail
    refine (HSC.out _).mono ?_
    rintro e w7 ⟨rfl, rfl⟩
    clear s1 HSC
    cases sc with
    | false =>
      obtain ⟨r0, r1, r2, r3, r4, r5, r6, r7⟩ := HX5a.out.r.all4
      go_wp2_with fail
      exact src_done (x := Cm.none_) rfl rfl rfl HX5a.out.r HX5a.out.bel HX5a.out.hR (by rw [← hT]; rfl)
    | true =>
      have hT2 : Cm.tailS x y z = T := hT
      have hpat := fun W => cmHost_any y W hyl hl3
      have hport := fun W => cmPort_any (bef 47 (z.drop 1)) W (Nat.le_trans (bef_drop z) hzl)
      have htc := tail_code x y z
      obtain ⟨d, hd⟩ : ∃ d, z.drop 1 = d := ⟨_, rfl⟩
      rw [hd] at hport htc
      obtain ⟨p, hp⟩ : ∃ p, bef 47 d = p := ⟨_, rfl⟩
      rw [hp] at hport htc
      obtain ⟨b2, hb2⟩ : ∃ b, begB [58] z = b := ⟨_, rfl⟩
      obtain ⟨ok, hok⟩ : ∃ b, (portP p).2 = b := ⟨_, rfl⟩
      obtain ⟨pv, hpv⟩ : ∃ b, (portP p).1 = b := ⟨_, rfl⟩
      obtain ⟨pat, hpt⟩ : ∃ b, Cm.patB y = b := ⟨_, rfl⟩
      rw [hb2, hok, hpv, hpt] at htc
      rw [hok, hpv] at hport
      rw [hpt] at hpat
      rw [hT2] at htc
      have HH := Lib.hid htc; have HPAT := Lib.hid hpat; have HPORT := Lib.hid hport; have HD := Lib.hid hd; have HPP := Lib.hid hp
      clear htc hpat hport hok hpv hpt hd hp hl3
      clear hT hT2 hyl hzl
      go_wp2_with fail
      refine (cutMark_any B z [58] _ HX5a.out.t).mono ?_
      rintro e w5 ⟨rfl, ht5, hg5⟩
      rw [hb2] at ht5
      rw [hb2]
      cases b2 with
      | true =>
        have ht5b : CBox w5 B 9 #[.string (bA d)] := by rw [← HD.out]; exact ht5
        have HX5 := Lib.hid (HX5a.out.cut ht5b hg5)
        clear ht5 ht5b hg5 HX5a
        go_wp2_with fail
        obtain ⟨q, hcp⟩ := cutPort_any B d _ HX5.out.t
        rw [HPP.out] at hcp
        refine hcp.mono ?_
        rintro e w6 ⟨rfl, ht6, hg6⟩
        have HX6 := Lib.hid (HX5.out.cut ht6 hg6)
        clear ht6 hg6 hcp HX5
        go_wp2_with fail
        refine (HPORT.out _).mono ?_
        rintro e w7 ⟨rfl, rfl⟩
        cases ok with
        | false =>
          obtain ⟨r0, r1, r2, r3, r4, r5, r6, r7⟩ := HX6.out.r.all4
          go_wp2_with fail
          exact src_done (x := Cm.none_) rfl rfl rfl HX6.out.r HX6.out.bel HX6.out.hR (by rw [HH.out]; rfl)
        | true =>
          obtain ⟨s0, s1, s2, s3, s4, s5, s6, s7⟩ := HX6.out.s.all4
          have HX7 := Lib.hid (HX6.out.set 3 (.int .i64 pv))
          have hp2 : (w6.setCell ⟨S, 3, none⟩ (.int .i64 pv)).cell? ⟨S, 2, none⟩ = some (.string (bA y)) := HX7.out.s.c 2
          clear HX6 s0 s1 s2 s4 s5 s6
          go_wp2_with fail
          refine (HPAT.out _).mono ?_
          rintro e w8 ⟨rfl, hb8⟩
          have HX8 := Lib.hid (HX7.out.below hb8)
          clear hb8 hp2 HX7 s3 s7
          obtain ⟨r0, r1, r2, r3, r4, r5, r6, r7⟩ := HX8.out.r.all4
          cases pat with
          | false =>
            go_wp2_with fail
            exact src_done (x := Cm.none_) rfl rfl rfl HX8.out.r HX8.out.bel HX8.out.hR (by rw [HH.out]; rfl)
          | true =>
            have hs8 : CBox w8 S 24 #[.int .i64 4, .string (bA x), .string (bA y), .int .i64 pv] := HX8.out.s
            obtain ⟨s0, s1, s2, s3, s4, s5, s6, s7⟩ := hs8.all4
            go_wp2_with fail
            exact src_done (x := ⟨4, x, y, pv⟩) rfl rfl rfl HX8.out.r HX8.out.bel HX8.out.hR (by rw [HH.out]; rfl)
      | false =>
        have HX5 := Lib.hid (HX5a.out.cut ht5 hg5)
        clear ht5 hg5 HX5a
        have s2 : w5.cell? ⟨S, 2, none⟩ = some (.string (bA y)) := HX5.out.s.c 2
        go_wp2_with fail
        refine (HPAT.out _).mono ?_
        rintro e w8 ⟨rfl, hb8⟩
        have HX8 := Lib.hid (HX5.out.below hb8)
        clear hb8 s2 HX5
        obtain ⟨r0, r1, r2, r3, r4, r5, r6, r7⟩ := HX8.out.r.all4
        cases pat with
        | false =>
          go_wp2_with fail
          exact src_done (x := Cm.none_) rfl rfl rfl HX8.out.r HX8.out.bel HX8.out.hR (by rw [HH.out]; rfl)
        | true =>
          obtain ⟨s0, s1, s2, s3, s4, s5, s6, s7⟩ := HX8.out.s.all4
          go_wp2_with fail
          exact src_done (x := ⟨4, x, y, -1⟩) rfl rfl rfl HX8.out.r HX8.out.bel HX8.out.hR (by rw [HH.out]; rfl)
      skip)
end Go.Proofs.YtinjkpbpkedfnaaGreatDoor
