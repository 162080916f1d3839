/- The walk of the statement on schemes. -/
import Derived.Test.YtinjkpbpkedfnaaGreatDoorCmLaws2
import Derived.Deep.Cut
import Derived.Deep.CutRange
namespace Go.Proofs.YtinjkpbpkedfnaaGreatDoor
open Go.RowKit Go.Deep
open Urp (sHttp sHttps)

/-- What stands while the statement runs: two origins' blocks, and the tables. -/
structure RdyB (w0 : World) (A B : Nat) (a b : Orig) (W : World) : Prop where
  r : Boxes2 w0 A B a b W
  tab : Tab W
  tab8 : Tab8 W
theorem RdyB.below {w0 : World} {A B : Nat} {a b : Orig} {W W' : World} (h : RdyB w0 A B a b W) (hb : Below W.heap.size W W') : RdyB w0 A B a b W' := ⟨h.r.below hb, tab_below h.tab hb, h.tab8.below hb⟩
theorem RdyB.alloc {w0 : World} {A B : Nat} {a b : Orig} {W : World} (h : RdyB w0 A B a b W) (x : Obj) : RdyB w0 A B a b (W.alloc x) := h.below ((Below.refl _ _).alloc (Nat.le_refl _) _)
theorem RdyB.drew {w0 : World} {A B : Nat} {a b : Orig} {W : World} (h : RdyB w0 A B a b W) : RdyB w0 A B a b W.drew := h.below (Below.refl _ _).drew
theorem any_few {l : List (List UInt8)} {n : Nat} (h : l.length ≤ n) (hn : n ≤ 10000) : l.length ≤ 10000 := Nat.le_trans h hn
theorem field_kind (x : Cm.Src) (W : World) : (Instr.field 24 (.agg #[.int .i64 x.kind, .string (bA x.scheme), .string (bA x.host), .int .i64 x.port]) 0).run Tryz.prog W = .ok (.int .i64 x.kind) W := by
  kernel_rfl
set_option maxHeartbeats 8000000 in
set_option maxRecDepth 20000 in
theorem walk_CspmatchSchemes (o me : Orig) (s : ByteArray) (w : World) (ho : WideO o) (hm : WideO me) (hs : s.size ≤ maxLen) (hT : Tab w) (hT8 : Tab8 w) :
    Calls Tryz.prog 10 #[origV o, origV me, .string s] w fun e w' => e = .returned (.bool true) ∧ Below w.heap.size w w' := by
  obtain ⟨t, rfl⟩ : ∃ t, s = bA t := ⟨s.data.toList, rfl⟩
  rw [bA_size] at hs
  have h0 := Boxes2.mk0 w o me
  have HX := Lib.hid (RdyB.mk h0 (tab_below hT h0.bel) (hT8.below h0.bel))
  have HAW := Lib.hid (fun W h1 h2 => awake11_any W h1 h2)
  have HSO := Lib.hid (fun W => smallM_any o W)
  have HSM := Lib.hid (fun W => smallM_any me W)
  have ca := fun W A c h1 h2 (q1 : smM o = true) (q2 : smM me = true) hA => cmAny_any A c [Cm.http_] o me W h1 h2 (smM_fit q1 ho.a0 ho.a1) (smM_fit q2 hm.a0 hm.a1) (by decide) (by decide) hA
  have cb := fun W A c h1 h2 (q1 : smM o = true) (q2 : smM me = true) hA => cmAny_any A c [Cm.https_] o me W h1 h2 (smM_fit q1 ho.a0 ho.a1) (smM_fit q2 hm.a0 hm.a1) (by decide) (by decide) hA
  have cc := fun W A c h1 h2 (q1 : smM o = true) (q2 : smM me = true) (q3 : t.length ≤ 300) hA => cmAny_any A c [t] o me W h1 h2 (smM_fit q1 ho.a0 ho.a1) (smM_fit q2 hm.a0 hm.a1) (by simp) (fun x hx => by rw [List.mem_singleton.1 hx]; omega) hA
  have cd := fun W A c h1 h2 (q1 : smM o = true) (q2 : smM me = true) (q3 : t.length ≤ 300) hA => cmAny_any A c [t ++ Cm.anyP] o me W h1 h2 (smM_fit q1 ho.a0 ho.a1) (smM_fit q2 hm.a0 hm.a1) (by simp) (fun x hx => by rw [List.mem_singleton.1 hx, List.length_append]; have : Cm.anyP.length = 2 := rfl; omega) hA
  have ce := fun W h1 h2 (q3 : t.length ≤ 300) => cmParse_any t W h1 h2 (by omega)
  have cf := fun W h1 h2 (q3 : t.length ≤ 300) => cmParse_any (t ++ Cm.anyP) W h1 h2 (by rw [List.length_append]; have : Cm.anyP.length = 2 := rfl; omega)
  have hport := @Cm.any_port t o me
  rw [Cm.http_all] at ca
  rw [Cm.https_all] at cb
  obtain ⟨k1, e1⟩ : ∃ k, Cm.parse t = k := ⟨_, rfl⟩
  obtain ⟨k2, e2⟩ : ∃ k, Cm.parse (t ++ Cm.anyP) = k := ⟨_, rfl⟩
  obtain ⟨vc, e3⟩ : ∃ k, Cm.anyB [t] o me = k := ⟨_, rfl⟩
  obtain ⟨vd, e4⟩ : ∃ k, Cm.anyB [t ++ Cm.anyP] o me = k := ⟨_, rfl⟩
  rw [e1, e2, e3, e4] at hport
  rw [e1] at ce; rw [e2] at cf; rw [e3] at cc; rw [e4] at cd
  have HPO : Hid (k1.kind = 4 → k2.kind = 4 → vc = true → vd = true) := Lib.hid hport
  have HL := Lib.hid hs
  unfold origV srcV at *
  unfold oCells srcC at *
  have CA := Lib.hid ca; have CB := Lib.hid cb; have CC := Lib.hid cc; have CD := Lib.hid cd; have CE := Lib.hid ce; have CF := Lib.hid cf
  clear h0 hT hT8 ho hm hs ca cb cc cd ce cf hport e1 e2 e3 e4
  go_enter Tryz.func10, Tryz.ntmps10
  obtain ⟨w1, hw1⟩ : ∃ W, ((w.alloc (.cells #[.bool o.op, .int .i64 o.id, .string (bA o.scheme), .string (bA o.host.name), .bool o.host.v4, .int .u32 o.host.addr, .int .i64 o.port] 31)).alloc (.cells #[.bool me.op, .int .i64 me.id, .string (bA me.scheme), .string (bA me.host.name), .bool me.host.v4, .int .u32 me.host.addr, .int .i64 me.port] 31)) = W := ⟨_, rfl⟩
  have hX1 : RdyB w w.heap.size (w.heap.size + 1) o me w1 := by rw [← hw1]; exact HX.out
  go_wp2_with fail
  clear hw1 HX
  obtain ⟨B, hB⟩ : ∃ B, w.heap.size = B := ⟨_, rfl⟩
  obtain ⟨C, hC⟩ : ∃ C, B + 1 = C := ⟨_, rfl⟩
  simp only [hB, hC] at hX1 ⊢
  clear hB hC
  refine (HAW.out _ hX1.tab hX1.tab8).mono ?_
  rintro e w2 ⟨rfl, hb2⟩
  have hX2 := hX1.below hb2
  clear hb2 hX1
  obtain ⟨x0, x1, x2, x3, x4, x5, x6⟩ := hX2.r.x.all
  go_wp2_with fail
  refine (HSO.out _).mono ?_
  rintro e w3 ⟨rfl, hb3⟩
  have hX3 := hX2.below hb3
  clear hb3 hX2 x0 x1 x2 x3 x4 x5 x6 HSO HAW
  cases hso : smM o with
  | false =>
    go_wp2_with fail
    go_ret
    exact ⟨rfl, hX3.r.bel⟩
  | true =>
  have HO := Lib.hid hso
  clear hso
  obtain ⟨x0, x1, x2, x3, x4, x5, x6⟩ := hX3.r.y.all
  go_wp2_with fail
  refine (HSM.out _).mono ?_
  rintro e w4 ⟨rfl, hb4⟩
  have hX4 := hX3.below hb4
  clear hb4 hX3 x0 x1 x2 x3 x4 x5 x6 HSM
  cases hsm : smM me with
  | false =>
    go_wp2_with fail
    go_ret
    exact ⟨rfl, hX4.r.bel⟩
  | true =>
  have HM := Lib.hid hsm
  clear hsm
  by_cases q3 : 300 < t.length
  · have q3' : (300 : Int) < (t.length : Int) := by omega
    go_wp2_with fail
    go_ret
    exact ⟨rfl, hX4.r.bel⟩
  have q3' : ¬ (300 : Int) < (t.length : Int) := by omega
  have Q3 : Hid (t.length ≤ 300) := Lib.hid (by omega)
  clear q3
  have x0 := fun ob => (hX4.alloc ob).r.x.c0; have x1 := fun ob => (hX4.alloc ob).r.x.c1; have x2 := fun ob => (hX4.alloc ob).r.x.c2; have x3 := fun ob => (hX4.alloc ob).r.x.c3; have x4 := fun ob => (hX4.alloc ob).r.x.c4; have x5 := fun ob => (hX4.alloc ob).r.x.c5; have x6 := fun ob => (hX4.alloc ob).r.x.c6
  have y0 := fun ob => (hX4.alloc ob).r.y.c0; have y1 := fun ob => (hX4.alloc ob).r.y.c1; have y2 := fun ob => (hX4.alloc ob).r.y.c2; have y3 := fun ob => (hX4.alloc ob).r.y.c3; have y4 := fun ob => (hX4.alloc ob).r.y.c4; have y5 := fun ob => (hX4.alloc ob).r.y.c5; have y6 := fun ob => (hX4.alloc ob).r.y.c6
  go_wp2_with fail
  refine (CA.out _ _ _ (hX4.alloc _).tab (hX4.alloc _).tab8 HO.out HM.out (seen_one _ _)).mono ?_
  rintro e w5 ⟨rfl, hb5⟩
  have hX5 := (hX4.alloc _).below hb5
  clear hb5 hX4 x0 x1 x2 x3 x4 x5 x6 y0 y1 y2 y3 y4 y5 y6 CA q3'
  have x0 := fun ob => (hX5.alloc ob).r.x.c0; have x1 := fun ob => (hX5.alloc ob).r.x.c1; have x2 := fun ob => (hX5.alloc ob).r.x.c2; have x3 := fun ob => (hX5.alloc ob).r.x.c3; have x4 := fun ob => (hX5.alloc ob).r.x.c4; have x5 := fun ob => (hX5.alloc ob).r.x.c5; have x6 := fun ob => (hX5.alloc ob).r.x.c6
  have y0 := fun ob => (hX5.alloc ob).r.y.c0; have y1 := fun ob => (hX5.alloc ob).r.y.c1; have y2 := fun ob => (hX5.alloc ob).r.y.c2; have y3 := fun ob => (hX5.alloc ob).r.y.c3; have y4 := fun ob => (hX5.alloc ob).r.y.c4; have y5 := fun ob => (hX5.alloc ob).r.y.c5; have y6 := fun ob => (hX5.alloc ob).r.y.c6
  go_wp2_with fail
  refine (CB.out _ _ _ (hX5.alloc _).tab (hX5.alloc _).tab8 HO.out HM.out (seen_one _ _)).mono ?_
  rintro e w6 ⟨rfl, hb6⟩
  have hX6 := (hX5.alloc _).below hb6
  clear hb6 hX5 x0 x1 x2 x3 x4 x5 x6 y0 y1 y2 y3 y4 y5 y6 CB
  have z0 := hX6.r.x.c0; have z2 := hX6.r.x.c2
  obtain ⟨web, hweb⟩ : ∃ b, (!o.op && (o.scheme == sHttp || o.scheme == sHttps)) = b := ⟨_, rfl⟩
  obtain ⟨vb, hvb⟩ : ∃ b, (!o.op && o.scheme == sHttps) = b := ⟨_, rfl⟩
  rw [hweb, hvb]
  have HWEB := Lib.hid hweb; have HVB := Lib.hid hvb
  clear hweb hvb
  go_upto_region 6 with fail
  go_cut [10] from 37 to 49 (fun v wx => v = .bool web ∧ wx = w6)
  case first =>
    have hw := HWEB.out
    obtain ⟨p, q1⟩ : ∃ x, (o.scheme == sHttp) = x := ⟨_, rfl⟩
    obtain ⟨q, q2⟩ : ∃ x, (o.scheme == sHttps) = x := ⟨_, rfl⟩
    obtain ⟨op, q0⟩ : ∃ x, o.op = x := ⟨_, rfl⟩
    rw [q0, q1, q2] at hw
    rw [q0] at z0
    have HW := Lib.hid hw
    unfold sHttp at q1
    unfold sHttps at q2
    clear hw q0
    cases op
    · cases p
      · cases q
        · go_wp2_with fail
          go_meet
          exact ⟨by rw [← HW.out]; rfl, rfl⟩
        · go_wp2_with fail
          go_meet
          exact ⟨by rw [← HW.out]; rfl, rfl⟩
      · go_wp2_with fail
        go_meet
        exact ⟨by rw [← HW.out]; rfl, rfl⟩
    · go_wp2_with fail
      go_meet
      exact ⟨by rw [← HW.out]; rfl, rfl⟩
  case rest =>
  obtain ⟨rfl, rfl⟩ := hcut
  clear z0 z2
  have x0 := fun ob => (hX6.alloc ob).r.x.c0; have x1 := fun ob => (hX6.alloc ob).r.x.c1; have x2 := fun ob => (hX6.alloc ob).r.x.c2; have x3 := fun ob => (hX6.alloc ob).r.x.c3; have x4 := fun ob => (hX6.alloc ob).r.x.c4; have x5 := fun ob => (hX6.alloc ob).r.x.c5; have x6 := fun ob => (hX6.alloc ob).r.x.c6
  have y0 := fun ob => (hX6.alloc ob).r.y.c0; have y1 := fun ob => (hX6.alloc ob).r.y.c1; have y2 := fun ob => (hX6.alloc ob).r.y.c2; have y3 := fun ob => (hX6.alloc ob).r.y.c3; have y4 := fun ob => (hX6.alloc ob).r.y.c4; have y5 := fun ob => (hX6.alloc ob).r.y.c5; have y6 := fun ob => (hX6.alloc ob).r.y.c6
  go_wp2_with fail
  refine (CC.out _ _ _ (hX6.alloc _).tab (hX6.alloc _).tab8 HO.out HM.out Q3.out (seen_one _ _)).mono ?_
  rintro e w7 ⟨rfl, hb7⟩
  have hX7 := (hX6.alloc _).below hb7
  clear hb7 hX6 x0 x1 x2 x3 x4 x5 x6 y0 y1 y2 y3 y4 y5 y6 CC
  have hcat : bA t ++ (⟨#[58, 42]⟩ : ByteArray) = bA (t ++ Cm.anyP) := bA_app t Cm.anyP
  have hL63 : ¬ 9223372036854775807 < t.length + 2 := by have := Q3.out; omega
  have x0 := fun ob => (hX7.alloc ob).r.x.c0; have x1 := fun ob => (hX7.alloc ob).r.x.c1; have x2 := fun ob => (hX7.alloc ob).r.x.c2; have x3 := fun ob => (hX7.alloc ob).r.x.c3; have x4 := fun ob => (hX7.alloc ob).r.x.c4; have x5 := fun ob => (hX7.alloc ob).r.x.c5; have x6 := fun ob => (hX7.alloc ob).r.x.c6
  have y0 := fun ob => (hX7.alloc ob).r.y.c0; have y1 := fun ob => (hX7.alloc ob).r.y.c1; have y2 := fun ob => (hX7.alloc ob).r.y.c2; have y3 := fun ob => (hX7.alloc ob).r.y.c3; have y4 := fun ob => (hX7.alloc ob).r.y.c4; have y5 := fun ob => (hX7.alloc ob).r.y.c5; have y6 := fun ob => (hX7.alloc ob).r.y.c6
  go_wp2_with fail
  refine (CD.out _ _ _ (hX7.alloc _).tab (hX7.alloc _).tab8 HO.out HM.out Q3.out (seen_one _ _)).mono ?_
  rintro e w8 ⟨rfl, hb8⟩
  have hX8 := (hX7.alloc _).below hb8
  clear hb8 hX7 x0 x1 x2 x3 x4 x5 x6 y0 y1 y2 y3 y4 y5 y6 CD
  obtain ⟨hb, hhb⟩ : ∃ b, (k1.kind == 4 && k2.kind == 4) = b := ⟨_, rfl⟩
  have HHB := Lib.hid hhb
  clear hhb
  have hHX := Lib.hid hX8
  have hX8b : Hid (RdyB w B C o me w8) := Lib.hid hX8
  go_upto_region 9 with fail
  go_cut [13] from 61 to 71 (fun v wx => v = .bool hb ∧ Hid (RdyB w B C o me wx))
  case first =>
    go_wp2_with fail
    refine (CE.out _ hX8.tab hX8.tab8 Q3.out).mono ?_
    rintro e w9 ⟨rfl, hb9⟩
    have hX9 := hX8.below hb9
    have hh := HHB.out
    have hf1 := field_kind k1; have hf2 := field_kind k2
    cases g1 : k1.kind == 4 with
    | false =>
      rw [g1] at hh
      have HH := Lib.hid hh
      clear hh
      go_wp2_with fail
      go_meet
      exact ⟨by rw [← HH.out]; rfl, Lib.hid hX9⟩
    | true =>
      rw [g1] at hh
      have HH := Lib.hid hh
      clear hh
      go_wp2_with fail
      refine (CF.out _ hX9.tab hX9.tab8 Q3.out).mono ?_
      rintro e w10 ⟨rfl, hb10⟩
      have hX10 := hX9.below hb10
      go_wp2_with fail
      go_meet
      exact ⟨by rw [← HH.out]; rfl, Lib.hid hX10⟩
  case rest =>
  obtain ⟨rfl, HXF⟩ := hcut
  have z2 := HXF.out.r.x.c2
  have hbel := HXF.out.r.bel
  obtain ⟨q, q2⟩ : ∃ x, (o.scheme == sHttps) = x := ⟨_, rfl⟩
  have hvw : vb = (web && q) := by
    rw [← HVB.out, ← HWEB.out, q2]
    cases o.op <;> cases (o.scheme == sHttp) <;> cases q <;> rfl
  have hcon : hb = false ∨ (hb = true ∧ vc = false) ∨ (hb = true ∧ vc = true ∧ vd = true) := by
    have h1 := HHB.out; have h2 := HPO.out
    cases hb
    · simp
    · cases vc
      · simp
      · rw [Bool.and_eq_true, beq_iff_eq, beq_iff_eq] at h1
        exact .inr (.inr ⟨rfl, rfl, h2 h1.1 h1.2 rfl⟩)
  subst hvw
  unfold sHttps at q2
  clear HVB HWEB HHB HPO CE CF HXF hHX hX8b hX8 hcat hL63
  cases web <;> cases q <;> rcases hcon with rfl | ⟨rfl, rfl⟩ | ⟨rfl, rfl, rfl⟩
  all_goals
    go_wp2_with fail
    go_ret
    exact ⟨rfl, hbel⟩
end Go.Proofs.YtinjkpbpkedfnaaGreatDoor
