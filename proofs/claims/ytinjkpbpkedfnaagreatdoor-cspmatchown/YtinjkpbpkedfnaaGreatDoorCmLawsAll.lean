/- Our texts of one layer, joined: plain functions and their laws, and the contracts of the functions of that layer. -/
import Derived.Test.YtinjkpbpkedfnaaGreatDoorCmAwake
import Derived.Deep.Cut
import Derived.Deep.CutRange
import Derived.Test.YtinjkpbpkedfnaaGreatDoorUrlpErr
import Derived.Test.YtinjkpbpkedfnaaGreatDoorOrigAll

/- The walks of the statements on kinds' numbers, on texts. -/

namespace Go.Proofs.YtinjkpbpkedfnaaGreatDoor
open Go.RowKit Go.Deep

set_option maxHeartbeats 1000000 in
theorem eqIn_src (a : Cm.Src) (w : World) : (Op.equalIn 10000 24 (.agg #[.int .i64 a.kind, .string (bA a.scheme), .string (bA a.host), .int .i64 a.port]) (.agg #[.int .i64 a.kind, .string (bA a.scheme), .string (bA a.host), .int .i64 a.port])).run Tryz.prog w = .ok true w := by
  simp [go_sem]
theorem walk_CspmatchNames (w : World) (hT : Tab w) (hT8 : Tab8 w) : Calls Tryz.prog 3 #[] w fun e w' => e = .returned (.bool true) ∧ Below w.heap.size w w' := by
  have hcall := awake11_any w hT hT8
  go_enter Tryz.func3, Tryz.ntmps3
  go_wp2_with fail
  refine hcall.mono ?_
  rintro e w1 ⟨rfl, hb1⟩
  go_wp2_with fail
  go_ret
  exact ⟨rfl, hb1⟩
set_option maxHeartbeats 2000000 in
theorem walk_CspmatchReads (s : ByteArray) (w : World) (hs : s.size ≤ maxLen) (hT : Tab w) (hT8 : Tab8 w) : Calls Tryz.prog 4 #[.string s] w fun e w' => e = .returned (.bool true) ∧ Below w.heap.size w w' := by
  obtain ⟨t, rfl⟩ : ∃ t, s = bA t := ⟨s.data.toList, rfl⟩
  rw [bA_size] at hs
  have HA := Lib.hid (awake11_any w hT hT8)
  have HT := Lib.hid hT; have HT8 := Lib.hid hT8
  clear hT hT8
  by_cases hlt : 2000 < t.length
  · have hlt' : (2000 : Int) < (t.length : Int) := by omega
    go_enter Tryz.func4, Tryz.ntmps4
    go_wp2_with fail
    refine HA.out.mono ?_
    rintro e w1 ⟨rfl, hb1⟩
    go_wp2_with fail
    go_ret
    exact ⟨rfl, hb1⟩
  · have hlt' : ¬ (2000 : Int) < (t.length : Int) := by omega
    have heq := eqIn_src (Cm.parse t)
    have c1 := fun W h1 h2 => cmParse_any t W h1 h2 (by omega)
    have c2 := fun W => rcmParse_any t W (by omega)
    obtain ⟨x, hx⟩ : ∃ x, Cm.parse t = x := ⟨_, rfl⟩
    rw [hx] at heq c1 c2
    unfold srcV srcC at c1 c2
    have C1 := Lib.hid c1; have C2 := Lib.hid c2
    clear c1 c2 hx
    go_enter Tryz.func4, Tryz.ntmps4
    go_wp2_with fail
    refine HA.out.mono ?_
    rintro e w1 ⟨rfl, hb1⟩
    go_wp2_with fail
    refine (C1.out _ (tab_below HT.out hb1) (HT8.out.below hb1)).mono ?_
    rintro e w2 ⟨rfl, hb2⟩
    go_wp2_with fail
    refine (C2.out _).mono ?_
    rintro e w3 ⟨rfl, hb3⟩
    go_wp2_with fail
    go_ret
    exact ⟨rfl, Below.onto (Below.onto hb1 hb2) hb3⟩
end Go.Proofs.YtinjkpbpkedfnaaGreatDoor

/- The walk of the statement on any origin and any source expression. -/

namespace Go.Proofs.YtinjkpbpkedfnaaGreatDoor
open Go.RowKit Go.Deep

/-- Is an origin small? -/
def smM (o : Orig) : Bool := decide (o.host.name.length ≤ 1000) && decide (o.scheme.length ≤ 1000)
theorem smM_fit {o : Orig} (h : smM o = true) (a0 : 0 ≤ o.host.addr) (a1 : o.host.addr ≤ 4294967295) : FitM o := by
  unfold smM at h
  rw [Bool.and_eq_true, decide_eq_true_iff, decide_eq_true_iff] at h
  exact ⟨a0, a1, by omega, by unfold maxLen; omega⟩
set_option maxHeartbeats 2000000 in
theorem smallM_any (o : Orig) (w : World) : Calls Tryz.prog 14 #[origV o] w fun e w' => e = .returned (.bool (smM o)) ∧ Below w.heap.size w w' := by
  have hb0 : Below w.heap.size w (w.alloc (.cells (oCells o) 31)) := (Below.refl _ w).alloc (Nat.le_refl _) _
  have HB := Lib.hid hb0
  clear hb0
  unfold origV smM
  unfold oCells at HB ⊢
  obtain ⟨x, e1⟩ : ∃ x, decide ((o.host.name.length : Int) ≤ 1000) = x := ⟨_, rfl⟩
  obtain ⟨y, e2⟩ : ∃ x, decide ((o.scheme.length : Int) ≤ 1000) = x := ⟨_, rfl⟩
  have E1 : Hid (decide (o.host.name.length ≤ 1000) = x) := Lib.hid (by rw [← e1]; simp only [decide_eq_decide]; omega)
  have E2 : Hid (decide (o.scheme.length ≤ 1000) = y) := Lib.hid (by rw [← e2]; simp only [decide_eq_decide]; omega)
  rw [E1.out, E2.out]
  cases x <;> cases y
  all_goals
    go_enter Tryz.func14, Tryz.ntmps14
    go_wp2_with fail
    go_ret
    exact ⟨rfl, HB.out⟩
/-- What stands while the statement runs. -/
structure RdyN (w0 : World) (A B C : Nat) (s : Cm.Src) (o me : Orig) (W : World) : Prop where
  r : RdyM w0 A B C s o me W
  tab8 : Tab8 W
theorem RdyN.below {w0 : World} {A B C : Nat} {s : Cm.Src} {o me : Orig} {W W' : World} (h : RdyN w0 A B C s o me W) (hb : Below W.heap.size W W') : RdyN w0 A B C s o me W' := ⟨h.r.below hb, h.tab8.below hb⟩
theorem RdyN.drew {w0 : World} {A B C : Nat} {s : Cm.Src} {o me : Orig} {W : World} (h : RdyN w0 A B C s o me W) : RdyN w0 A B C s o me W.drew := h.below (Below.refl _ _).drew
theorem RdyN.cs {w0 : World} {A B C : Nat} {s : Cm.Src} {o me : Orig} {W : World} (h : RdyN w0 A B C s o me W) : W.cell? ⟨A, 0, none⟩ = some (.int .i64 s.kind) ∧ W.cell? ⟨A, 1, none⟩ = some (.string (bA s.scheme)) ∧ W.cell? ⟨A, 2, none⟩ = some (.string (bA s.host)) ∧ W.cell? ⟨A, 3, none⟩ = some (.int .i64 s.port) ∧ W.cell? ⟨B, 0, none⟩ = some (.bool o.op) ∧ W.cell? ⟨B, 1, none⟩ = some (.int .i64 o.id) ∧ W.cell? ⟨B, 2, none⟩ = some (.string (bA o.scheme)) ∧ W.cell? ⟨B, 3, none⟩ = some (.string (bA o.host.name)) ∧ W.cell? ⟨B, 4, none⟩ = some (.bool o.host.v4) ∧ W.cell? ⟨B, 5, none⟩ = some (.int .u32 o.host.addr) ∧ W.cell? ⟨B, 6, none⟩ = some (.int .i64 o.port) ∧ W.cell? ⟨C, 0, none⟩ = some (.bool me.op) ∧ W.cell? ⟨C, 1, none⟩ = some (.int .i64 me.id) ∧ W.cell? ⟨C, 2, none⟩ = some (.string (bA me.scheme)) ∧ W.cell? ⟨C, 3, none⟩ = some (.string (bA me.host.name)) ∧ W.cell? ⟨C, 4, none⟩ = some (.bool me.host.v4) ∧ W.cell? ⟨C, 5, none⟩ = some (.int .u32 me.host.addr) ∧ W.cell? ⟨C, 6, none⟩ = some (.int .i64 me.port) ∧ RdyN w0 A B C s o me W :=
  ⟨h.r.s.c 0, h.r.s.c 1, h.r.s.c 2, h.r.s.c 3, h.r.x.c0, h.r.x.c1, h.r.x.c2, h.r.x.c3, h.r.x.c4, h.r.x.c5, h.r.x.c6, h.r.y.c0, h.r.y.c1, h.r.y.c2, h.r.y.c3, h.r.y.c4, h.r.y.c5, h.r.y.c6, h⟩
set_option maxHeartbeats 8000000 in
set_option maxRecDepth 20000 in
theorem walk_CspmatchMatches (s : Cm.Src) (o me : Orig) (w : World) (hs : WideS s) (ho : WideO o) (hm : WideO me) (hT : Tab w) (hT8 : Tab8 w) :
    Calls Tryz.prog 5 #[srcV s, origV o, origV me] w fun e w' => e = .returned (.bool true) ∧ Below w.heap.size w w' := by
  have h0 := RdyM.mk0 w s o me hT
  have HX := Lib.hid (RdyN.mk h0 (hT8.below h0.bel))
  have HAW := Lib.hid (fun W h1 h2 => awake11_any W h1 h2)
  have HSO := Lib.hid (fun W => smallM_any o W)
  have HSM := Lib.hid (fun W => smallM_any me W)
  have c1 := fun W h1 h2 (q1 : smM o = true) (q2 : smM me = true) (q3 : s.host.length ≤ 1000) => cmMatch_any s o me W h1 h2 ⟨by omega, hs.sc⟩ (smM_fit q1 ho.a0 ho.a1) (smM_fit q2 hm.a0 hm.a1)
  have c2 := fun W h1 (q1 : smM o = true) (q3 : s.host.length ≤ 1000) => rmatch_any s o me W h1 (smM_fit q1 ho.a0 ho.a1).fit (by omega)
  have l1 := hs.hs; have l2 := hs.sc
  clear h0 hT hT8 hs ho hm
  obtain ⟨m, hm⟩ : ∃ b, Cm.matchB s o me = b := ⟨_, rfl⟩
  rw [hm] at c1 c2
  unfold srcV origV at *
  unfold srcC oCells at *
  have C1 := Lib.hid c1; have C2 := Lib.hid c2; have L1 := Lib.hid l1; have L2 := Lib.hid l2
  clear hm c1 c2 l1 l2
  go_enter Tryz.func5, Tryz.ntmps5
  obtain ⟨w1, hw1⟩ : ∃ W, ((w.alloc (.cells #[.int .i64 s.kind, .string (bA s.scheme), .string (bA s.host), .int .i64 s.port] 24)).alloc (.cells #[.bool o.op, .int .i64 o.id, .string (bA o.scheme), .string (bA o.host.name), .bool o.host.v4, .int .u32 o.host.addr, .int .i64 o.port] 31)).alloc (.cells #[.bool me.op, .int .i64 me.id, .string (bA me.scheme), .string (bA me.host.name), .bool me.host.v4, .int .u32 me.host.addr, .int .i64 me.port] 31) = W := ⟨_, rfl⟩
  have hX1 : RdyN w w.heap.size (w.heap.size + 1) (w.heap.size + 1 + 1) s o me w1 := by rw [← hw1]; exact HX.out
  go_wp2_with fail
  clear hw1 HX
  obtain ⟨A, hA⟩ : ∃ A, w.heap.size = A := ⟨_, rfl⟩
  obtain ⟨B, hB⟩ : ∃ B, A + 1 = B := ⟨_, rfl⟩
  obtain ⟨C, hC⟩ : ∃ C, B + 1 = C := ⟨_, rfl⟩
  simp only [hA, hB, hC] at hX1 ⊢
  clear hA hB hC
  refine (HAW.out _ hX1.r.tab hX1.tab8).mono ?_
  rintro e w2 ⟨rfl, hb2⟩
  have hX2 := hX1.below hb2
  clear hb2 hX1
  obtain ⟨x0, x1, x2, x3, x4, x5, x6⟩ := hX2.r.x.all
  go_wp2_with fail
  refine (HSO.out _).mono ?_
  rintro e w3 ⟨rfl, hb3⟩
  have hX3 := hX2.below hb3
  clear hb3 hX2 x0 x1 x2 x3 x4 x5 x6 HSO HAW
  cases hso : smM o with
  | false =>
    go_wp2_with fail
    go_ret
    exact ⟨rfl, hX3.r.bel⟩
  | true =>
  have HO := Lib.hid hso
  clear hso
  obtain ⟨x0, x1, x2, x3, x4, x5, x6⟩ := hX3.r.y.all
  go_wp2_with fail
  refine (HSM.out _).mono ?_
  rintro e w4 ⟨rfl, hb4⟩
  have hX4 := hX3.below hb4
  clear hb4 hX3 x0 x1 x2 x3 x4 x5 x6 HSM
  cases hsm : smM me with
  | false =>
    go_wp2_with fail
    go_ret
    exact ⟨rfl, hX4.r.bel⟩
  | true =>
  have HM := Lib.hid hsm
  clear hsm
  have s1 : w4.cell? ⟨A, 1, none⟩ = some (.string (bA s.scheme)) := hX4.r.s.c 1
  have s2 : w4.cell? ⟨A, 2, none⟩ = some (.string (bA s.host)) := hX4.r.s.c 2
  by_cases q3 : 1000 < s.host.length
  · have q3' : (1000 : Int) < (s.host.length : Int) := by omega
    go_wp2_with fail
    go_ret
    exact ⟨rfl, hX4.r.bel⟩
  have q3' : ¬ (1000 : Int) < (s.host.length : Int) := by omega
  have Q3 : Hid (s.host.length ≤ 1000) := Lib.hid (by omega)
  by_cases q4 : 1000 < s.scheme.length
  · have q4' : (1000 : Int) < (s.scheme.length : Int) := by omega
    go_wp2_with fail
    go_ret
    exact ⟨rfl, hX4.r.bel⟩
  have q4' : ¬ (1000 : Int) < (s.scheme.length : Int) := by omega
  go_upto_region 4 with fail
  clear q3 q3' q4 q4' s1 s2
  go_region_held_law (fun W => W.cell? ⟨A, 0, none⟩ = some (.int .i64 s.kind) ∧ W.cell? ⟨A, 1, none⟩ = some (.string (bA s.scheme)) ∧ W.cell? ⟨A, 2, none⟩ = some (.string (bA s.host)) ∧ W.cell? ⟨A, 3, none⟩ = some (.int .i64 s.port) ∧ W.cell? ⟨B, 0, none⟩ = some (.bool o.op) ∧ W.cell? ⟨B, 1, none⟩ = some (.int .i64 o.id) ∧ W.cell? ⟨B, 2, none⟩ = some (.string (bA o.scheme)) ∧ W.cell? ⟨B, 3, none⟩ = some (.string (bA o.host.name)) ∧ W.cell? ⟨B, 4, none⟩ = some (.bool o.host.v4) ∧ W.cell? ⟨B, 5, none⟩ = some (.int .u32 o.host.addr) ∧ W.cell? ⟨B, 6, none⟩ = some (.int .i64 o.port) ∧ W.cell? ⟨C, 0, none⟩ = some (.bool me.op) ∧ W.cell? ⟨C, 1, none⟩ = some (.int .i64 me.id) ∧ W.cell? ⟨C, 2, none⟩ = some (.string (bA me.scheme)) ∧ W.cell? ⟨C, 3, none⟩ = some (.string (bA me.host.name)) ∧ W.cell? ⟨C, 4, none⟩ = some (.bool me.host.v4) ∧ W.cell? ⟨C, 5, none⟩ = some (.int .u32 me.host.addr) ∧ W.cell? ⟨C, 6, none⟩ = some (.int .i64 me.port) ∧ RdyN w A B C s o me W)
    (first
      | exact hX4.cs
      | exact hX4.drew.cs
      | exact hX5.cs
      | exact hX5.drew.cs
      | exact hX6.cs
      | exact hX6.drew.cs)
    (first
      | (go_at_call 16; refine (C2.out _ hX5.drew.r.tab HO.out Q3.out).mono ?_; rintro e w6 ⟨rfl, hb6⟩; have hX6 := hX5.drew.below hb6)
      | (go_at_call 16; refine (C2.out _ hX5.r.tab HO.out Q3.out).mono ?_; rintro e w6 ⟨rfl, hb6⟩; have hX6 := hX5.below hb6)
      | (go_at_call 15; refine (C1.out _ hX4.r.tab hX4.tab8 HO.out HM.out Q3.out).mono ?_; rintro e w5 ⟨rfl, hb5⟩; have hX5 := hX4.below hb5)
      | (go_at_call 15; refine (C1.out _ hX4.drew.r.tab hX4.drew.tab8 HO.out HM.out Q3.out).mono ?_; rintro e w5 ⟨rfl, hb5⟩; have hX5 := hX4.drew.below hb5))
  all_goals
    go_wp2_with fail
    go_ret
    exact ⟨by simp, hX6.r.bel⟩
end Go.Proofs.YtinjkpbpkedfnaaGreatDoor

/- The walk of the statement on schemes. -/

namespace Go.Proofs.YtinjkpbpkedfnaaGreatDoor
open Go.RowKit Go.Deep
open Urp (sHttp sHttps)

/-- What stands while the statement runs: two origins' blocks, and the tables. -/
structure RdyB (w0 : World) (A B : Nat) (a b : Orig) (W : World) : Prop where
  r : Boxes2 w0 A B a b W
  tab : Tab W
  tab8 : Tab8 W
theorem RdyB.below {w0 : World} {A B : Nat} {a b : Orig} {W W' : World} (h : RdyB w0 A B a b W) (hb : Below W.heap.size W W') : RdyB w0 A B a b W' := ⟨h.r.below hb, tab_below h.tab hb, h.tab8.below hb⟩
theorem RdyB.alloc {w0 : World} {A B : Nat} {a b : Orig} {W : World} (h : RdyB w0 A B a b W) (x : Obj) : RdyB w0 A B a b (W.alloc x) := h.below ((Below.refl _ _).alloc (Nat.le_refl _) _)
theorem RdyB.drew {w0 : World} {A B : Nat} {a b : Orig} {W : World} (h : RdyB w0 A B a b W) : RdyB w0 A B a b W.drew := h.below (Below.refl _ _).drew
theorem any_few {l : List (List UInt8)} {n : Nat} (h : l.length ≤ n) (hn : n ≤ 10000) : l.length ≤ 10000 := Nat.le_trans h hn
theorem field_kind (x : Cm.Src) (W : World) : (Instr.field 24 (.agg #[.int .i64 x.kind, .string (bA x.scheme), .string (bA x.host), .int .i64 x.port]) 0).run Tryz.prog W = .ok (.int .i64 x.kind) W := by
  kernel_rfl
set_option maxHeartbeats 8000000 in
set_option maxRecDepth 20000 in
theorem walk_CspmatchSchemes (o me : Orig) (s : ByteArray) (w : World) (ho : WideO o) (hm : WideO me) (hs : s.size ≤ maxLen) (hT : Tab w) (hT8 : Tab8 w) :
    Calls Tryz.prog 10 #[origV o, origV me, .string s] w fun e w' => e = .returned (.bool true) ∧ Below w.heap.size w w' := by
  obtain ⟨t, rfl⟩ : ∃ t, s = bA t := ⟨s.data.toList, rfl⟩
  rw [bA_size] at hs
  have h0 := Boxes2.mk0 w o me
  have HX := Lib.hid (RdyB.mk h0 (tab_below hT h0.bel) (hT8.below h0.bel))
  have HAW := Lib.hid (fun W h1 h2 => awake11_any W h1 h2)
  have HSO := Lib.hid (fun W => smallM_any o W)
  have HSM := Lib.hid (fun W => smallM_any me W)
  have ca := fun W A c h1 h2 (q1 : smM o = true) (q2 : smM me = true) hA => cmAny_any A c [Cm.http_] o me W h1 h2 (smM_fit q1 ho.a0 ho.a1) (smM_fit q2 hm.a0 hm.a1) (by decide) (by decide) hA
  have cb := fun W A c h1 h2 (q1 : smM o = true) (q2 : smM me = true) hA => cmAny_any A c [Cm.https_] o me W h1 h2 (smM_fit q1 ho.a0 ho.a1) (smM_fit q2 hm.a0 hm.a1) (by decide) (by decide) hA
  have cc := fun W A c h1 h2 (q1 : smM o = true) (q2 : smM me = true) (q3 : t.length ≤ 300) hA => cmAny_any A c [t] o me W h1 h2 (smM_fit q1 ho.a0 ho.a1) (smM_fit q2 hm.a0 hm.a1) (by simp) (fun x hx => by rw [List.mem_singleton.1 hx]; omega) hA
  have cd := fun W A c h1 h2 (q1 : smM o = true) (q2 : smM me = true) (q3 : t.length ≤ 300) hA => cmAny_any A c [t ++ Cm.anyP] o me W h1 h2 (smM_fit q1 ho.a0 ho.a1) (smM_fit q2 hm.a0 hm.a1) (by simp) (fun x hx => by rw [List.mem_singleton.1 hx, List.length_append]; have : Cm.anyP.length = 2 := rfl; omega) hA
  have ce := fun W h1 h2 (q3 : t.length ≤ 300) => cmParse_any t W h1 h2 (by omega)
  have cf := fun W h1 h2 (q3 : t.length ≤ 300) => cmParse_any (t ++ Cm.anyP) W h1 h2 (by rw [List.length_append]; have : Cm.anyP.length = 2 := rfl; omega)
  have hport := @Cm.any_port t o me
  rw [Cm.http_all] at ca
  rw [Cm.https_all] at cb
  obtain ⟨k1, e1⟩ : ∃ k, Cm.parse t = k := ⟨_, rfl⟩
  obtain ⟨k2, e2⟩ : ∃ k, Cm.parse (t ++ Cm.anyP) = k := ⟨_, rfl⟩
  obtain ⟨vc, e3⟩ : ∃ k, Cm.anyB [t] o me = k := ⟨_, rfl⟩
  obtain ⟨vd, e4⟩ : ∃ k, Cm.anyB [t ++ Cm.anyP] o me = k := ⟨_, rfl⟩
  rw [e1, e2, e3, e4] at hport
  rw [e1] at ce; rw [e2] at cf; rw [e3] at cc; rw [e4] at cd
  have HPO : Hid (k1.kind = 4 → k2.kind = 4 → vc = true → vd = true) := Lib.hid hport
  have HL := Lib.hid hs
  unfold origV srcV at *
  unfold oCells srcC at *
  have CA := Lib.hid ca; have CB := Lib.hid cb; have CC := Lib.hid cc; have CD := Lib.hid cd; have CE := Lib.hid ce; have CF := Lib.hid cf
  clear h0 hT hT8 ho hm hs ca cb cc cd ce cf hport e1 e2 e3 e4
  go_enter Tryz.func10, Tryz.ntmps10
  obtain ⟨w1, hw1⟩ : ∃ W, ((w.alloc (.cells #[.bool o.op, .int .i64 o.id, .string (bA o.scheme), .string (bA o.host.name), .bool o.host.v4, .int .u32 o.host.addr, .int .i64 o.port] 31)).alloc (.cells #[.bool me.op, .int .i64 me.id, .string (bA me.scheme), .string (bA me.host.name), .bool me.host.v4, .int .u32 me.host.addr, .int .i64 me.port] 31)) = W := ⟨_, rfl⟩
  have hX1 : RdyB w w.heap.size (w.heap.size + 1) o me w1 := by rw [← hw1]; exact HX.out
  go_wp2_with fail
  clear hw1 HX
  obtain ⟨B, hB⟩ : ∃ B, w.heap.size = B := ⟨_, rfl⟩
  obtain ⟨C, hC⟩ : ∃ C, B + 1 = C := ⟨_, rfl⟩
  simp only [hB, hC] at hX1 ⊢
  clear hB hC
  refine (HAW.out _ hX1.tab hX1.tab8).mono ?_
  rintro e w2 ⟨rfl, hb2⟩
  have hX2 := hX1.below hb2
  clear hb2 hX1
  obtain ⟨x0, x1, x2, x3, x4, x5, x6⟩ := hX2.r.x.all
  go_wp2_with fail
  refine (HSO.out _).mono ?_
  rintro e w3 ⟨rfl, hb3⟩
  have hX3 := hX2.below hb3
  clear hb3 hX2 x0 x1 x2 x3 x4 x5 x6 HSO HAW
  cases hso : smM o with
  | false =>
    go_wp2_with fail
    go_ret
    exact ⟨rfl, hX3.r.bel⟩
  | true =>
  have HO := Lib.hid hso
  clear hso
  obtain ⟨x0, x1, x2, x3, x4, x5, x6⟩ := hX3.r.y.all
  go_wp2_with fail
  refine (HSM.out _).mono ?_
  rintro e w4 ⟨rfl, hb4⟩
  have hX4 := hX3.below hb4
  clear hb4 hX3 x0 x1 x2 x3 x4 x5 x6 HSM
  cases hsm : smM me with
  | false =>
    go_wp2_with fail
    go_ret
    exact ⟨rfl, hX4.r.bel⟩
  | true =>
  have HM := Lib.hid hsm
  clear hsm
  by_cases q3 : 300 < t.length
  · have q3' : (300 : Int) < (t.length : Int) := by omega
    go_wp2_with fail
    go_ret
    exact ⟨rfl, hX4.r.bel⟩
  have q3' : ¬ (300 : Int) < (t.length : Int) := by omega
  have Q3 : Hid (t.length ≤ 300) := Lib.hid (by omega)
  clear q3
  have x0 := fun ob => (hX4.alloc ob).r.x.c0; have x1 := fun ob => (hX4.alloc ob).r.x.c1; have x2 := fun ob => (hX4.alloc ob).r.x.c2; have x3 := fun ob => (hX4.alloc ob).r.x.c3; have x4 := fun ob => (hX4.alloc ob).r.x.c4; have x5 := fun ob => (hX4.alloc ob).r.x.c5; have x6 := fun ob => (hX4.alloc ob).r.x.c6
  have y0 := fun ob => (hX4.alloc ob).r.y.c0; have y1 := fun ob => (hX4.alloc ob).r.y.c1; have y2 := fun ob => (hX4.alloc ob).r.y.c2; have y3 := fun ob => (hX4.alloc ob).r.y.c3; have y4 := fun ob => (hX4.alloc ob).r.y.c4; have y5 := fun ob => (hX4.alloc ob).r.y.c5; have y6 := fun ob => (hX4.alloc ob).r.y.c6
  go_wp2_with fail
  refine (CA.out _ _ _ (hX4.alloc _).tab (hX4.alloc _).tab8 HO.out HM.out (seen_one _ _)).mono ?_
  rintro e w5 ⟨rfl, hb5⟩
  have hX5 := (hX4.alloc _).below hb5
  clear hb5 hX4 x0 x1 x2 x3 x4 x5 x6 y0 y1 y2 y3 y4 y5 y6 CA q3'
  have x0 := fun ob => (hX5.alloc ob).r.x.c0; have x1 := fun ob => (hX5.alloc ob).r.x.c1; have x2 := fun ob => (hX5.alloc ob).r.x.c2; have x3 := fun ob => (hX5.alloc ob).r.x.c3; have x4 := fun ob => (hX5.alloc ob).r.x.c4; have x5 := fun ob => (hX5.alloc ob).r.x.c5; have x6 := fun ob => (hX5.alloc ob).r.x.c6
  have y0 := fun ob => (hX5.alloc ob).r.y.c0; have y1 := fun ob => (hX5.alloc ob).r.y.c1; have y2 := fun ob => (hX5.alloc ob).r.y.c2; have y3 := fun ob => (hX5.alloc ob).r.y.c3; have y4 := fun ob => (hX5.alloc ob).r.y.c4; have y5 := fun ob => (hX5.alloc ob).r.y.c5; have y6 := fun ob => (hX5.alloc ob).r.y.c6
  go_wp2_with fail
  refine (CB.out _ _ _ (hX5.alloc _).tab (hX5.alloc _).tab8 HO.out HM.out (seen_one _ _)).mono ?_
  rintro e w6 ⟨rfl, hb6⟩
  have hX6 := (hX5.alloc _).below hb6
  clear hb6 hX5 x0 x1 x2 x3 x4 x5 x6 y0 y1 y2 y3 y4 y5 y6 CB
  have z0 := hX6.r.x.c0; have z2 := hX6.r.x.c2
  obtain ⟨web, hweb⟩ : ∃ b, (!o.op && (o.scheme == sHttp || o.scheme == sHttps)) = b := ⟨_, rfl⟩
  obtain ⟨vb, hvb⟩ : ∃ b, (!o.op && o.scheme == sHttps) = b := ⟨_, rfl⟩
  rw [hweb, hvb]
  have HWEB := Lib.hid hweb; have HVB := Lib.hid hvb
  clear hweb hvb
  go_upto_region 6 with fail
  go_cut [10] from 37 to 49 (fun v wx => v = .bool web ∧ wx = w6)
  case first =>
    have hw := HWEB.out
    obtain ⟨p, q1⟩ : ∃ x, (o.scheme == sHttp) = x := ⟨_, rfl⟩
    obtain ⟨q, q2⟩ : ∃ x, (o.scheme == sHttps) = x := ⟨_, rfl⟩
    obtain ⟨op, q0⟩ : ∃ x, o.op = x := ⟨_, rfl⟩
    rw [q0, q1, q2] at hw
    rw [q0] at z0
    have HW := Lib.hid hw
    unfold sHttp at q1
    unfold sHttps at q2
    clear hw q0
    cases op
    · cases p
      · cases q
        · go_wp2_with fail
          go_meet
          exact ⟨by rw [← HW.out]; rfl, rfl⟩
        · go_wp2_with fail
          go_meet
          exact ⟨by rw [← HW.out]; rfl, rfl⟩
      · go_wp2_with fail
        go_meet
        exact ⟨by rw [← HW.out]; rfl, rfl⟩
    · go_wp2_with fail
      go_meet
      exact ⟨by rw [← HW.out]; rfl, rfl⟩
  case rest =>
  obtain ⟨rfl, rfl⟩ := hcut
  clear z0 z2
  have x0 := fun ob => (hX6.alloc ob).r.x.c0; have x1 := fun ob => (hX6.alloc ob).r.x.c1; have x2 := fun ob => (hX6.alloc ob).r.x.c2; have x3 := fun ob => (hX6.alloc ob).r.x.c3; have x4 := fun ob => (hX6.alloc ob).r.x.c4; have x5 := fun ob => (hX6.alloc ob).r.x.c5; have x6 := fun ob => (hX6.alloc ob).r.x.c6
  have y0 := fun ob => (hX6.alloc ob).r.y.c0; have y1 := fun ob => (hX6.alloc ob).r.y.c1; have y2 := fun ob => (hX6.alloc ob).r.y.c2; have y3 := fun ob => (hX6.alloc ob).r.y.c3; have y4 := fun ob => (hX6.alloc ob).r.y.c4; have y5 := fun ob => (hX6.alloc ob).r.y.c5; have y6 := fun ob => (hX6.alloc ob).r.y.c6
  go_wp2_with fail
  refine (CC.out _ _ _ (hX6.alloc _).tab (hX6.alloc _).tab8 HO.out HM.out Q3.out (seen_one _ _)).mono ?_
  rintro e w7 ⟨rfl, hb7⟩
  have hX7 := (hX6.alloc _).below hb7
  clear hb7 hX6 x0 x1 x2 x3 x4 x5 x6 y0 y1 y2 y3 y4 y5 y6 CC
  have hcat : bA t ++ (⟨#[58, 42]⟩ : ByteArray) = bA (t ++ Cm.anyP) := bA_app t Cm.anyP
  have hL63 : ¬ 9223372036854775807 < t.length + 2 := by have := Q3.out; omega
  have x0 := fun ob => (hX7.alloc ob).r.x.c0; have x1 := fun ob => (hX7.alloc ob).r.x.c1; have x2 := fun ob => (hX7.alloc ob).r.x.c2; have x3 := fun ob => (hX7.alloc ob).r.x.c3; have x4 := fun ob => (hX7.alloc ob).r.x.c4; have x5 := fun ob => (hX7.alloc ob).r.x.c5; have x6 := fun ob => (hX7.alloc ob).r.x.c6
  have y0 := fun ob => (hX7.alloc ob).r.y.c0; have y1 := fun ob => (hX7.alloc ob).r.y.c1; have y2 := fun ob => (hX7.alloc ob).r.y.c2; have y3 := fun ob => (hX7.alloc ob).r.y.c3; have y4 := fun ob => (hX7.alloc ob).r.y.c4; have y5 := fun ob => (hX7.alloc ob).r.y.c5; have y6 := fun ob => (hX7.alloc ob).r.y.c6
  go_wp2_with fail
  refine (CD.out _ _ _ (hX7.alloc _).tab (hX7.alloc _).tab8 HO.out HM.out Q3.out (seen_one _ _)).mono ?_
  rintro e w8 ⟨rfl, hb8⟩
  have hX8 := (hX7.alloc _).below hb8
  clear hb8 hX7 x0 x1 x2 x3 x4 x5 x6 y0 y1 y2 y3 y4 y5 y6 CD
  obtain ⟨hb, hhb⟩ : ∃ b, (k1.kind == 4 && k2.kind == 4) = b := ⟨_, rfl⟩
  have HHB := Lib.hid hhb
  clear hhb
  have hHX := Lib.hid hX8
  have hX8b : Hid (RdyB w B C o me w8) := Lib.hid hX8
  go_upto_region 9 with fail
  go_cut [13] from 61 to 71 (fun v wx => v = .bool hb ∧ Hid (RdyB w B C o me wx))
  case first =>
    go_wp2_with fail
    refine (CE.out _ hX8.tab hX8.tab8 Q3.out).mono ?_
    rintro e w9 ⟨rfl, hb9⟩
    have hX9 := hX8.below hb9
    have hh := HHB.out
    have hf1 := field_kind k1; have hf2 := field_kind k2
    cases g1 : k1.kind == 4 with
    | false =>
      rw [g1] at hh
      have HH := Lib.hid hh
      clear hh
      go_wp2_with fail
      go_meet
      exact ⟨by rw [← HH.out]; rfl, Lib.hid hX9⟩
    | true =>
      rw [g1] at hh
      have HH := Lib.hid hh
      clear hh
      go_wp2_with fail
      refine (CF.out _ hX9.tab hX9.tab8 Q3.out).mono ?_
      rintro e w10 ⟨rfl, hb10⟩
      have hX10 := hX9.below hb10
      go_wp2_with fail
      go_meet
      exact ⟨by rw [← HH.out]; rfl, Lib.hid hX10⟩
  case rest =>
  obtain ⟨rfl, HXF⟩ := hcut
  have z2 := HXF.out.r.x.c2
  have hbel := HXF.out.r.bel
  obtain ⟨q, q2⟩ : ∃ x, (o.scheme == sHttps) = x := ⟨_, rfl⟩
  have hvw : vb = (web && q) := by
    rw [← HVB.out, ← HWEB.out, q2]
    cases o.op <;> cases (o.scheme == sHttp) <;> cases q <;> rfl
  have hcon : hb = false ∨ (hb = true ∧ vc = false) ∨ (hb = true ∧ vc = true ∧ vd = true) := by
    have h1 := HHB.out; have h2 := HPO.out
    cases hb
    · simp
    · cases vc
      · simp
      · rw [Bool.and_eq_true, beq_iff_eq, beq_iff_eq] at h1
        exact .inr (.inr ⟨rfl, rfl, h2 h1.1 h1.2 rfl⟩)
  subst hvw
  unfold sHttps at q2
  clear HVB HWEB HHB HPO CE CF HXF hHX hX8b hX8 hcat hL63
  cases web <;> cases q <;> rcases hcon with rfl | ⟨rfl, rfl⟩ | ⟨rfl, rfl, rfl⟩
  all_goals
    go_wp2_with fail
    go_ret
    exact ⟨rfl, hbel⟩
end Go.Proofs.YtinjkpbpkedfnaaGreatDoor

/- The walk of the statement on one's own origin. -/
namespace Go.Proofs.YtinjkpbpkedfnaaGreatDoor
open Go.RowKit Go.Deep

theorem fit_good {u : Urp.URL} (g : Urp.Good u) (id : Int) : FitM (ofO u id) := by
  have h := Urp.host_small g.host
  rw [ofO_net g.net]
  refine ⟨h.1, h.2.1, by show u.host.name.length ≤ _; have := h.2.2; omega, ?_⟩
  show u.scheme.length ≤ _
  rcases Urp.net_cases g.net with h | h <;> rw [h] <;> decide
/-- The origin of a read URL. -/
theorem fit_of {l : List UInt8} {u : Urp.URL} (h : Urp.parse l = .ok u) (id : Int) : FitM (ofO u id) ∧ ((ofO u id).op = false → Urp.netB (ofO u id).scheme = true) := by
  cases hi : Urp.innerU u with
  | some v =>
    have hn := inner_net hi
    have hv : ∃ y, Urp.parse y = .ok v := by
      unfold Urp.innerU at hi
      split at hi
      · rw [Urp.netU_parse] at hi
        cases hp : Urp.parse u.rest with
        | error e => rw [hp] at hi; cases hi
        | ok y =>
          rw [hp] at hi
          simp only at hi
          split at hi
          · cases hi; exact ⟨_, hp⟩
          · cases hi
      · cases hi
    obtain ⟨y, hy⟩ := hv
    have g := (Urp.parse_good hy hn).1
    have e : ofO u id = ofO v id := by
      unfold ofO
      rw [hi, inner_of_net hn]
      rfl
    rw [e]
    exact ⟨fit_good g id, fun _ => by rw [ofO_net g.net]; exact g.net⟩
  | none =>
    cases hn : Urp.netB u.scheme with
    | true =>
      have g := (Urp.parse_good h hn).1
      exact ⟨fit_good g id, fun _ => by rw [ofO_net g.net]; exact g.net⟩
    | false =>
      have ho : (ofO u id).op = true := by rw [ofO_op, hn, hi]; rfl
      rw [ofO_opaq u id ho]
      exact ⟨⟨Int.le_refl _, by show (0 : Int) ≤ 4294967295; decide, Nat.zero_le _, Nat.zero_le _⟩, fun h => by cases h⟩
theorem scheme_len {l : List UInt8} {u : Urp.URL} (h : Urp.parse l = .ok u) : u.scheme.length ≤ l.length := by
  obtain ⟨s, a, hc, _, hs, _⟩ := Urp.parse_ok h
  have h3 := (Urp.cutS_ok hc).2.2.2.2.1
  have h1 := Urp.bef_len 58 (Urp.trimU l)
  have h2 := Urp.trimU_len l
  rw [hs, h3, Oct.lower_length]; omega
/-- What stands while the statement runs: an expression's block, a URL's, an origin's; the tables. -/
structure RdyU (w0 : World) (A U : Nat) (x : Cm.Src) (u : Urp.URL) (W : World) : Prop where
  bel : Below w0.heap.size w0 W
  s : CBox W A 24 (srcC x)
  u : UBox W U u
  tab : Tab W
  tab8 : Tab8 W
theorem RdyU.below {w0 : World} {A U : Nat} {x : Cm.Src} {u : Urp.URL} {W W' : World} (h : RdyU w0 A U x u W) (hb : Below W.heap.size W W') : RdyU w0 A U x u W' := ⟨Below.onto h.bel hb, h.s.keep hb, h.u.keep hb, tab_below h.tab hb, h.tab8.below hb⟩
structure RdyV (w0 : World) (A U O : Nat) (x : Cm.Src) (u : Urp.URL) (o : Orig) (W : World) : Prop where
  r : RdyU w0 A U x u W
  x : OBox W O o
theorem RdyV.below {w0 : World} {A U O : Nat} {x : Cm.Src} {u : Urp.URL} {o : Orig} {W W' : World} (h : RdyV w0 A U O x u o W) (hb : Below W.heap.size W W') : RdyV w0 A U O x u o W' := ⟨h.r.below hb, h.x.keep hb⟩
theorem RdyV.alloc {w0 : World} {A U O : Nat} {x : Cm.Src} {u : Urp.URL} {o : Orig} {W : World} (h : RdyV w0 A U O x u o W) (ob : Obj) : RdyV w0 A U O x u o (W.alloc ob) := h.below ((Below.refl _ _).alloc (Nat.le_refl _) _)
theorem seen_three (w : World) (a b c : List UInt8) : SeenT (w.alloc (.cells #[.string (bA a), .string (bA b), .string (bA c)] 9)) (some ⟨w.heap.size, 0, none⟩) [a, b, c] := fun _ =>
  ⟨w.heap.size, 0, rfl, by simp, fun i hi => by
    have hi' : i < 3 := hi
    match i, hi' with
    | 0, _ => exact (CBox.new w 9 #[.string (bA a), .string (bA b), .string (bA c)]).c 0
    | 1, _ => exact (CBox.new w 9 #[.string (bA a), .string (bA b), .string (bA c)]).c 1
    | 2, _ => exact (CBox.new w 9 #[.string (bA a), .string (bA b), .string (bA c)]).c 2⟩
theorem self_of {l : List UInt8} {u : Urp.URL} {o : Orig} (h : Urp.parse l = .ok u) (hl : l.length ≤ 3000) (id : Int) (ho : ofO u id = o) : FitM o ∧ (o.op = false → Urp.netB o.scheme = true) ∧ u.scheme.length ≤ 3000 ∧ u.rest.length ≤ 4000 := by
  have h1 := fit_of h id
  rw [ho] at h1
  have h2 := scheme_len h
  have h3 := rest_len l (by omega)
  rw [h] at h3
  exact ⟨h1.1, h1.2, by omega, h3⟩
set_option maxHeartbeats 8000000 in
set_option maxRecDepth 20000 in
theorem walk_CspmatchSelf (s : ByteArray) (x : Cm.Src) (w : World) (hs : s.size ≤ maxLen) (hx : WideS x) (hT : Tab w) (hT8 : Tab8 w) :
    Calls Tryz.prog 8 #[.string s, srcV x] w fun e w' => e = .returned (.bool true) ∧ Below w.heap.size w w' := by
  obtain ⟨t, rfl⟩ : ∃ t, s = bA t := ⟨s.data.toList, rfl⟩
  rw [bA_size] at hs
  unfold maxLen at hs
  have hb0 : Below w.heap.size w (w.alloc (.cells (srcC x) 24)) := (Below.refl _ w).alloc (Nat.le_refl _) _
  have HB := Lib.hid hb0; have HS0 := Lib.hid (CBox.new w 24 (srcC x))
  have HTB := Lib.hid (tab_below hT hb0); have HTB8 := Lib.hid (hT8.below hb0)
  have HAW := Lib.hid (fun W h1 h2 => awake11_any W h1 h2)
  have xsc := hx.sc; have xhs := hx.hs
  have HXS := Lib.hid xsc; have HXH := Lib.hid xhs
  obtain ⟨u, hu⟩ : ∃ u, getU (Urp.parse t) = u := ⟨_, rfl⟩
  obtain ⟨er, her⟩ : ∃ e, errU (Urp.parse t) = e := ⟨_, rfl⟩
  have HPA := Lib.hid (fun W hW => uparse_lis hu her (by omega) W hW)
  have HER := Lib.hid her; have HU := Lib.hid hu
  clear hT hT8 hb0 hx xsc xhs hu her
  unfold srcV
  unfold srcC at *
  go_enter Tryz.func8, Tryz.ntmps8
  go_wp2_with fail
  refine (HAW.out _ HTB.out HTB8.out).mono ?_
  rintro e w1 ⟨rfl, hb1⟩
  have b1 := Below.onto HB.out hb1
  have s1 := HS0.out.keep hb1
  have t1 := tab_below HTB.out hb1; have t2 := HTB8.out.below hb1
  clear hb1 HB HS0 HTB HTB8 HAW
  go_wp2_with fail
  refine (HPA.out _ t2).mono ?_
  rintro e w2 ⟨rfl, hb2⟩
  have hU2 : RdyU w w.heap.size w2.heap.size x u (w2.alloc (.cells (uCells u) 43)) :=
    ⟨(Below.onto b1 hb2).alloc (Below.onto b1 hb2).size _, (s1.keep hb2).alloc _, UBox.new w2 u, tab_below (tab_below t1 hb2) ((Below.refl _ _).alloc (Nat.le_refl _) _), (t2.below hb2).below ((Below.refl _ _).alloc (Nat.le_refl _) _)⟩
  unfold uCells at hU2
  clear b1 s1 t1 t2 hb2 HPA
  obtain ⟨w3, hw3⟩ : ∃ W, w2.alloc (.cells #[.string (bA u.scheme), .string (bA u.host.name), .bool u.host.v4, .int .u32 u.host.addr, .int .i64 u.port, .string (bA u.path), .bool u.hasq, .string (bA u.query), .string (bA u.rest)] 43) = W := ⟨_, rfl⟩
  rw [hw3] at hU2
  obtain ⟨A, hA⟩ : ∃ A, w.heap.size = A := ⟨_, rfl⟩
  obtain ⟨U, hU⟩ : ∃ U, w2.heap.size = U := ⟨_, rfl⟩
  rw [hA, hU] at hU2
  have hbel := hU2.bel
  rw [hA] at hbel
  have HUU := Lib.hid hU2
  have c2 : w3.cell? ⟨A, 2, none⟩ = some (.string (bA x.host)) := hU2.s.c 2
  simp only [hA]
  go_upto_region 3 with fail
  clear hw3 hA hU
  by_cases q1 : 3000 < t.length
  · have q1' : (3000 : Int) < (t.length : Int) := by omega
    clear hU2
    go_wp2_with fail
    go_ret
    exact ⟨rfl, HUU.out.bel⟩
  have q1' : ¬ (3000 : Int) < (t.length : Int) := by omega
  rcases errU_ways t with ⟨q2, q2'⟩ | ⟨u', hok⟩
  · rw [HER.out] at q2 q2'
    clear hU2
    go_wp2_with fail
    go_ret
    exact ⟨rfl, HUU.out.bel⟩
  have he0 : er = 0 := by rw [← HER.out, hok]; rfl
  have huu : u' = u := by rw [← HU.out, hok]; rfl
  subst huu; subst he0
  by_cases q3 : 1000 < x.host.length
  · have q3' : (1000 : Int) < (x.host.length : Int) := by omega
    clear hU2
    go_wp2_with fail
    go_ret
    exact ⟨rfl, HUU.out.bel⟩
  have q3' : ¬ (1000 : Int) < (x.host.length : Int) := by omega
  obtain ⟨o, ho⟩ : ∃ o, ofO u' 1 = o := ⟨_, rfl⟩
  obtain ⟨hfit, hnet, hul, hrest⟩ := self_of hok (by omega) 1 ho
  have HOF := Lib.hid (fun W hW => of_any u' 1 W hrest hW)
  rw [ho] at HOF
  unfold origV urlV at HOF
  unfold oCells uCells at HOF
  have HFIT := Lib.hid hfit; have HNET := Lib.hid hnet; have HUL := Lib.hid hul
  have HFS : Hid (FitS x) := Lib.hid ⟨by omega, HXS.out⟩
  have u0 := hU2.u.c 0; have u1 := hU2.u.c 1; have u2 := hU2.u.c 2; have u3 := hU2.u.c 3; have u4 := hU2.u.c 4; have u5 := hU2.u.c 5; have u6 := hU2.u.c 6; have u7 := hU2.u.c 7; have u8 := hU2.u.c 8
  unfold uCells at u0 u1 u2 u3 u4 u5 u6 u7 u8
  have ht8 := hU2.tab8
  clear q1 q3 ho hok hfit hnet hul hrest hU2 HER HU HXS HXH
  go_wp2_with fail
  refine (HOF.out _ ht8).mono ?_
  rintro e w4 ⟨rfl, hb4⟩
  have hV4 : RdyV w A U w4.heap.size x u' o (w4.alloc (.cells (oCells o) 31)) := ⟨(HUU.out.below hb4).below ((Below.refl _ _).alloc (Nat.le_refl _) _), OBox.new w4 o⟩
  unfold oCells at hV4
  clear hb4 HOF HUU hbel ht8 c2 u0 u1 u2 u3 u4 u5 u6 u7 u8 q1' q3'
  obtain ⟨w5, hw5⟩ : ∃ W, w4.alloc (.cells #[.bool o.op, .int .i64 o.id, .string (bA o.scheme), .string (bA o.host.name), .bool o.host.v4, .int .u32 o.host.addr, .int .i64 o.port] 31) = W := ⟨_, rfl⟩
  rw [hw5] at hV4
  obtain ⟨O, hO⟩ : ∃ O, w4.heap.size = O := ⟨_, rfl⟩
  rw [hO] at hV4
  obtain ⟨b, hb⟩ : ∃ b, o.op = b := ⟨_, rfl⟩
  have HOP := Lib.hid hb
  have y0 := hV4.x.c0
  rw [hb] at y0
  clear hb
  cases b with
  | true =>
    have hno := Cm.any_op [[42], [39, 115, 101, 108, 102, 39], u'.scheme ++ [58]] o HOP.out
    have ca := fun W A c h1 h2 hA => cmAny_any A c [[42], [39, 115, 101, 108, 102, 39], u'.scheme ++ [58]] o o W h1 h2 HFIT.out HFIT.out (by simp) (fun y hy => by
      rcases List.mem_cons.1 hy with rfl | hy
      · decide
      · rcases List.mem_cons.1 hy with rfl | hy
        · decide
        · rw [List.mem_singleton.1 hy, List.length_append]; have := HUL.out; simp; omega) hA
    rw [hno] at ca
    have hnm := Cm.match_op x o HOP.out
    have cm := fun W h1 h2 => cmMatch_any x o o W h1 h2 HFS.out HFIT.out HFIT.out
    rw [hnm] at cm
    unfold origV at ca cm
    unfold oCells at ca cm
    unfold srcV srcC at cm
    have CA := Lib.hid ca; have CM := Lib.hid cm
    have z0 : w5.cell? ⟨U, 0, none⟩ = some (.string (bA u'.scheme)) := hV4.r.u.c 0
    have hcat : bA u'.scheme ++ (⟨#[58]⟩ : ByteArray) = bA (u'.scheme ++ [58]) := bA_app u'.scheme [58]
    have hL63 : ¬ 9223372036854775807 < u'.scheme.length + 1 := by have := HUL.out; omega
    clear hno ca hnm cm HFS HFIT HNET
    have x0 := fun ob => (hV4.alloc ob).x.c0; have x1 := fun ob => (hV4.alloc ob).x.c1; have x2 := fun ob => (hV4.alloc ob).x.c2; have x3 := fun ob => (hV4.alloc ob).x.c3; have x4 := fun ob => (hV4.alloc ob).x.c4; have x5 := fun ob => (hV4.alloc ob).x.c5; have x6 := fun ob => (hV4.alloc ob).x.c6
    go_wp2_with fail
    refine (CA.out _ _ _ (hV4.alloc _).r.tab (hV4.alloc _).r.tab8 (seen_three _ _ _ _)).mono ?_
    rintro e w6 ⟨rfl, hb6⟩
    have hV6 := (hV4.alloc _).below hb6
    clear hb6 x0 x1 x2 x3 x4 x5 x6 z0
    have s0 := hV6.r.s.c 0; have s1 := hV6.r.s.c 1; have s2 := hV6.r.s.c 2; have s3 := hV6.r.s.c 3
    have x0 := hV6.x.c0; have x1 := hV6.x.c1; have x2 := hV6.x.c2; have x3 := hV6.x.c3; have x4 := hV6.x.c4; have x5 := hV6.x.c5; have x6 := hV6.x.c6
    unfold srcC at s0 s1 s2 s3
    go_wp2_with fail
    refine (CM.out _ hV6.r.tab hV6.r.tab8).mono ?_
    rintro e w7 ⟨rfl, hb7⟩
    have hV7 := hV6.below hb7
    go_wp2_with fail
    go_ret
    exact ⟨rfl, hV7.r.bel⟩
  | false =>
    have hnet := HNET.out HOP.out
    have hsl : o.scheme.length ≤ 5 := by rcases Urp.net_cases hnet with h | h <;> rw [h] <;> decide
    have c1 := fun W A c h1 h2 hA => cmAny_any A c [Cm.SELF] o o W h1 h2 HFIT.out HFIT.out (by decide) (by decide) hA
    have c2 := fun W A c h1 h2 hA => cmAny_any A c [[42]] o o W h1 h2 HFIT.out HFIT.out (by decide) (by decide) hA
    have c3 := fun W A c h1 h2 hA => cmAny_any A c [o.scheme ++ [58]] o o W h1 h2 HFIT.out HFIT.out (by simp) (fun y hy => by rw [List.mem_singleton.1 hy, List.length_append]; simp; omega) hA
    rw [Cm.self_self HOP.out] at c1
    rw [Cm.any_any o HOP.out] at c2
    rw [Cm.own_scheme o HOP.out hnet] at c3
    unfold origV at c1 c2 c3
    unfold oCells at c1 c2 c3
    have C1 := Lib.hid c1; have C2 := Lib.hid c2; have C3 := Lib.hid c3
    have z2 := hV4.x.c2
    have hcat : bA o.scheme ++ (⟨#[58]⟩ : ByteArray) = bA (o.scheme ++ [58]) := bA_app o.scheme [58]
    have hL63 : ¬ 9223372036854775807 < o.scheme.length + 1 := by omega
    clear hnet hsl c1 c2 c3 HFS HFIT HNET HUL
    have hV5 := hV4.alloc (.cells #[.string (bA (o.scheme ++ [58]))] 9)
    have hS5 := seen_one w5 (o.scheme ++ [58])
    obtain ⟨w6, hw6⟩ : ∃ W, w5.alloc (.cells #[.string (bA (o.scheme ++ [58]))] 9) = W := ⟨_, rfl⟩
    rw [hw6] at hV5 hS5
    have x0 := fun ob => (hV5.alloc ob).x.c0; have x1 := fun ob => (hV5.alloc ob).x.c1; have x2 := fun ob => (hV5.alloc ob).x.c2; have x3 := fun ob => (hV5.alloc ob).x.c3; have x4 := fun ob => (hV5.alloc ob).x.c4; have x5 := fun ob => (hV5.alloc ob).x.c5; have x6 := fun ob => (hV5.alloc ob).x.c6
    go_wp2_with fail
    clear hw6 hV4 z2 y0
    refine (C1.out _ _ _ (hV5.alloc _).r.tab (hV5.alloc _).r.tab8 (seen_one _ _)).mono ?_
    rintro e w7 ⟨rfl, hb7⟩
    have hV7 := (hV5.alloc _).below hb7
    have hS7 := (hS5.below ((Below.refl _ _).alloc (Nat.le_refl _) _)).below hb7
    clear hb7 hV5 hS5 x0 x1 x2 x3 x4 x5 x6
    have x0 := fun ob => (hV7.alloc ob).x.c0; have x1 := fun ob => (hV7.alloc ob).x.c1; have x2 := fun ob => (hV7.alloc ob).x.c2; have x3 := fun ob => (hV7.alloc ob).x.c3; have x4 := fun ob => (hV7.alloc ob).x.c4; have x5 := fun ob => (hV7.alloc ob).x.c5; have x6 := fun ob => (hV7.alloc ob).x.c6
    go_wp2_with fail
    refine (C2.out _ _ _ (hV7.alloc _).r.tab (hV7.alloc _).r.tab8 (seen_one _ _)).mono ?_
    rintro e w8 ⟨rfl, hb8⟩
    have hV8 := (hV7.alloc _).below hb8
    have hS8 := (hS7.below ((Below.refl _ _).alloc (Nat.le_refl _) _)).below hb8
    clear hb8 hV7 hS7 x0 x1 x2 x3 x4 x5 x6
    have x0 := hV8.x.c0; have x1 := hV8.x.c1; have x2 := hV8.x.c2; have x3 := hV8.x.c3; have x4 := hV8.x.c4; have x5 := hV8.x.c5; have x6 := hV8.x.c6
    go_wp2_with fail
    refine (C3.out _ _ _ hV8.r.tab hV8.r.tab8 hS8).mono ?_
    rintro e w9 ⟨rfl, hb9⟩
    have hV9 := hV8.below hb9
    go_wp2_with fail
    go_ret
    exact ⟨rfl, hV9.r.bel⟩
end Go.Proofs.YtinjkpbpkedfnaaGreatDoor

/- The walk of the statement on an origin's own text. -/
namespace Go.Proofs.YtinjkpbpkedfnaaGreatDoor
open Go.RowKit Go.Deep

theorem otext_len {u : Urp.URL} (g : Urp.Good u) (id : Int) : (otextL (ofO u id)).length ≤ (utextL u).length := by
  rw [otext_good g, Urp.utext_net g.net]
  unfold Urp.afterC
  simp only [List.length_append, List.length_cons, List.length_nil]
  omega
theorem small_good2 {u : Urp.URL} (g : Urp.Good u) (hl : (utextL u).length ≤ 3900) (id : Int) : SmallO (ofO u id) := by
  obtain ⟨s1, s2, a0, a1, p0, p1, _, _, _⟩ := Urp.good_small g hl
  rw [ofO_net g.net]
  refine ⟨by show u.scheme.length ≤ _; omega, s2, a0, a1, ?_, ?_⟩
  all_goals
    show _ ≤ _
    dsimp only
    split
    · rcases Urp.net_cases g.net with h | h <;> rw [h] <;> decide
    · assumption
theorem own_of {l : List UInt8} {u : Urp.URL} {o : Orig} (h : Urp.parse l = .ok u) (hn : Urp.netB u.scheme = true) (hl : l.length ≤ 2000) (ho : ofO u 1 = o) : FitM o ∧ SmallO o ∧ (otextL o).length ≤ 2001 ∧ u.rest.length ≤ 4000 ∧ ∀ me, Cm.anyB [otextL o] o me = true ∧ Cm.anyB [otextL o ++ [47, 120]] o me = true := by
  subst ho
  obtain ⟨g, hg⟩ := Urp.parse_good h hn
  refine ⟨fit_good g 1, small_good2 g (by omega) 1, Nat.le_trans (otext_len g 1) (by omega), by rw [g.rest]; simp, fun me => ⟨?_, Cm.own_text g 1 me _ (.inr rfl)⟩⟩
  have := Cm.own_text g 1 me [] (.inl rfl)
  rwa [List.append_nil] at this
/-- What stands while the statement runs: two origins' blocks, and the tables. -/
structure RdyO (w0 : World) (O A : Nat) (o me : Orig) (W : World) : Prop where
  bel : Below w0.heap.size w0 W
  x : OBox W O o
  y : OBox W A me
  tab : Tab W
  tab8 : Tab8 W
theorem RdyO.below {w0 : World} {O A : Nat} {o me : Orig} {W W' : World} (h : RdyO w0 O A o me W) (hb : Below W.heap.size W W') : RdyO w0 O A o me W' := ⟨Below.onto h.bel hb, h.x.keep hb, h.y.keep hb, tab_below h.tab hb, h.tab8.below hb⟩
theorem RdyO.alloc {w0 : World} {O A : Nat} {o me : Orig} {W : World} (h : RdyO w0 O A o me W) (ob : Obj) : RdyO w0 O A o me (W.alloc ob) := h.below ((Below.refl _ _).alloc (Nat.le_refl _) _)
theorem RdyO.drew {w0 : World} {O A : Nat} {o me : Orig} {W : World} (h : RdyO w0 O A o me W) : RdyO w0 O A o me W.drew := h.below (Below.refl _ _).drew
theorem RdyO.cs {w0 : World} {O A : Nat} {o me : Orig} {W : World} (h : RdyO w0 O A o me W) : W.cell? ⟨O, 0, none⟩ = some (.bool o.op) ∧ W.cell? ⟨O, 1, none⟩ = some (.int .i64 o.id) ∧ W.cell? ⟨O, 2, none⟩ = some (.string (bA o.scheme)) ∧ W.cell? ⟨O, 3, none⟩ = some (.string (bA o.host.name)) ∧ W.cell? ⟨O, 4, none⟩ = some (.bool o.host.v4) ∧ W.cell? ⟨O, 5, none⟩ = some (.int .u32 o.host.addr) ∧ W.cell? ⟨O, 6, none⟩ = some (.int .i64 o.port) ∧ W.cell? ⟨A, 0, none⟩ = some (.bool me.op) ∧ W.cell? ⟨A, 1, none⟩ = some (.int .i64 me.id) ∧ W.cell? ⟨A, 2, none⟩ = some (.string (bA me.scheme)) ∧ W.cell? ⟨A, 3, none⟩ = some (.string (bA me.host.name)) ∧ W.cell? ⟨A, 4, none⟩ = some (.bool me.host.v4) ∧ W.cell? ⟨A, 5, none⟩ = some (.int .u32 me.host.addr) ∧ W.cell? ⟨A, 6, none⟩ = some (.int .i64 me.port) ∧ RdyO w0 O A o me W :=
  ⟨h.x.c0, h.x.c1, h.x.c2, h.x.c3, h.x.c4, h.x.c5, h.x.c6, h.y.c0, h.y.c1, h.y.c2, h.y.c3, h.y.c4, h.y.c5, h.y.c6, h⟩
structure RdyP (w0 : World) (A U : Nat) (me : Orig) (u : Urp.URL) (W : World) : Prop where
  bel : Below w0.heap.size w0 W
  y : OBox W A me
  u : UBox W U u
  tab : Tab W
  tab8 : Tab8 W
theorem RdyP.below {w0 : World} {A U : Nat} {me : Orig} {u : Urp.URL} {W W' : World} (h : RdyP w0 A U me u W) (hb : Below W.heap.size W W') : RdyP w0 A U me u W' := ⟨Below.onto h.bel hb, h.y.keep hb, h.u.keep hb, tab_below h.tab hb, h.tab8.below hb⟩
set_option maxHeartbeats 8000000 in
set_option maxRecDepth 20000 in
theorem walk_CspmatchOwn (s : ByteArray) (me : Orig) (w : World) (hs : s.size ≤ maxLen) (hm : WideO me) (hT : Tab w) (hT8 : Tab8 w) :
    Calls Tryz.prog 9 #[.string s, origV me] w fun e w' => e = .returned (.bool true) ∧ Below w.heap.size w w' := by
  obtain ⟨t, rfl⟩ : ∃ t, s = bA t := ⟨s.data.toList, rfl⟩
  rw [bA_size] at hs
  unfold maxLen at hs
  have hb0 : Below w.heap.size w (w.alloc (.cells (oCells me) 31)) := (Below.refl _ w).alloc (Nat.le_refl _) _
  have HB := Lib.hid hb0; have HS0 := Lib.hid (OBox.new w me)
  have HTB := Lib.hid (tab_below hT hb0); have HTB8 := Lib.hid (hT8.below hb0)
  have HAW := Lib.hid (fun W h1 h2 => awake11_any W h1 h2)
  have HSM := Lib.hid (fun W => smallM_any me W)
  have hfm : smM me = true → FitM me := fun h => smM_fit h hm.a0 hm.a1
  have HFM := Lib.hid hfm
  obtain ⟨u, hu⟩ : ∃ u, getU (Urp.parse t) = u := ⟨_, rfl⟩
  obtain ⟨er, her⟩ : ∃ e, errU (Urp.parse t) = e := ⟨_, rfl⟩
  have HPA := Lib.hid (fun W hW => uparse_lis hu her (by omega) W hW)
  have HNT := Lib.hid (fun W => net_any u W)
  have HER := Lib.hid her; have HU := Lib.hid hu
  clear hT hT8 hb0 hm hfm hu her
  unfold origV urlV at *
  unfold oCells uCells at *
  go_enter Tryz.func9, Tryz.ntmps9
  go_wp2_with fail
  refine (HAW.out _ HTB.out HTB8.out).mono ?_
  rintro e w1 ⟨rfl, hb1⟩
  have b1 := Below.onto HB.out hb1
  have s1 := HS0.out.keep hb1
  have t1 := tab_below HTB.out hb1; have t2 := HTB8.out.below hb1
  clear hb1 HB HS0 HTB HTB8 HAW
  go_wp2_with fail
  refine (HPA.out _ t2).mono ?_
  rintro e w2 ⟨rfl, hb2⟩
  have hP2 : RdyP w w.heap.size w2.heap.size me u (w2.alloc (.cells (uCells u) 43)) :=
    ⟨(Below.onto b1 hb2).alloc (Below.onto b1 hb2).size _, (s1.keep hb2).alloc _, UBox.new w2 u, tab_below (tab_below t1 hb2) ((Below.refl _ _).alloc (Nat.le_refl _) _), (t2.below hb2).below ((Below.refl _ _).alloc (Nat.le_refl _) _)⟩
  unfold uCells at hP2
  clear b1 s1 t1 t2 hb2 HPA
  obtain ⟨w3, hw3⟩ : ∃ W, w2.alloc (.cells #[.string (bA u.scheme), .string (bA u.host.name), .bool u.host.v4, .int .u32 u.host.addr, .int .i64 u.port, .string (bA u.path), .bool u.hasq, .string (bA u.query), .string (bA u.rest)] 43) = W := ⟨_, rfl⟩
  rw [hw3] at hP2
  obtain ⟨A, hA⟩ : ∃ A, w.heap.size = A := ⟨_, rfl⟩
  obtain ⟨U, hU⟩ : ∃ U, w2.heap.size = U := ⟨_, rfl⟩
  rw [hA, hU] at hP2
  simp only [hA]
  have u0 := hP2.u.c 0; have u1 := hP2.u.c 1; have u2 := hP2.u.c 2; have u3 := hP2.u.c 3; have u4 := hP2.u.c 4; have u5 := hP2.u.c 5; have u6 := hP2.u.c 6; have u7 := hP2.u.c 7; have u8 := hP2.u.c 8
  unfold uCells at u0 u1 u2 u3 u4 u5 u6 u7 u8
  go_wp2_with fail
  clear hw3 hA hU
  refine (HNT.out _).mono ?_
  rintro e w4 ⟨rfl, hb4⟩
  have hP4 := hP2.below hb4
  clear hb4 hP2 u0 u1 u2 u3 u4 u5 u6 u7 u8
  obtain ⟨nb, hnb⟩ : ∃ b, Urp.netB u.scheme = b := ⟨_, rfl⟩
  rw [hnb]
  have HNB := Lib.hid hnb
  clear hnb HNT
  go_upto_region 4 with fail
  by_cases q1 : 2000 < t.length
  · have q1' : (2000 : Int) < (t.length : Int) := by omega
    go_wp2_with fail
    go_ret
    exact ⟨rfl, hP4.bel⟩
  have q1' : ¬ (2000 : Int) < (t.length : Int) := by omega
  rcases errU_ways t with ⟨q2, q2'⟩ | ⟨u', hok⟩
  · rw [HER.out] at q2 q2'
    go_wp2_with fail
    go_ret
    exact ⟨rfl, hP4.bel⟩
  have he0 : er = 0 := by rw [← HER.out, hok]; rfl
  have huu : u' = u := by rw [← HU.out, hok]; rfl
  subst huu; subst he0
  cases nb with
  | false =>
    go_wp2_with fail
    go_ret
    exact ⟨rfl, hP4.bel⟩
  | true =>
  obtain ⟨o, ho⟩ : ∃ o, ofO u' 1 = o := ⟨_, rfl⟩
  obtain ⟨hfit, hsmall, htl, hrest, hany⟩ := own_of hok HNB.out (by omega) ho
  have HOF := Lib.hid (fun W hW => of_any u' 1 W hrest hW)
  rw [ho] at HOF
  have HFIT := Lib.hid hfit
  have HTX := Lib.hid (fun W hW => otext_any o W hsmall hW)
  obtain ⟨tx, htx⟩ : ∃ x, otextL o = x := ⟨_, rfl⟩
  rw [htx] at htl hany HTX
  have ca := fun W A c h1 h2 (q : smM me = true) hA => cmAny_any A c [tx] o me W h1 h2 HFIT.out (HFM.out q) (by simp) (fun y hy => by rw [List.mem_singleton.1 hy]; omega) hA
  have cb := fun W A c h1 h2 (q : smM me = true) hA => cmAny_any A c [tx ++ [47, 120]] o me W h1 h2 HFIT.out (HFM.out q) (by simp) (fun y hy => by rw [List.mem_singleton.1 hy, List.length_append]; simp; omega) hA
  rw [(hany me).1] at ca
  rw [(hany me).2] at cb
  unfold origV at HOF HTX ca cb
  unfold urlV at HOF
  unfold oCells uCells at HOF
  unfold oCells at HTX ca cb
  have CA := Lib.hid ca; have CB := Lib.hid cb
  have HTL := Lib.hid htl
  clear q1 hok ho hfit hsmall htl hrest hany htx ca cb HER HU HNB HFM HFIT
  obtain ⟨y0, y1, y2, y3, y4, y5, y6⟩ := hP4.y.all
  go_wp2_with fail
  refine (HSM.out _).mono ?_
  rintro e w5 ⟨rfl, hb5⟩
  have hP5 := hP4.below hb5
  clear hb5 hP4 y0 y1 y2 y3 y4 y5 y6 HSM
  cases hsm : smM me with
  | false =>
    go_wp2_with fail
    go_ret
    exact ⟨rfl, hP5.bel⟩
  | true =>
  have HM := Lib.hid hsm
  clear hsm q1'
  have u0 := hP5.u.c 0; have u1 := hP5.u.c 1; have u2 := hP5.u.c 2; have u3 := hP5.u.c 3; have u4 := hP5.u.c 4; have u5 := hP5.u.c 5; have u6 := hP5.u.c 6; have u7 := hP5.u.c 7; have u8 := hP5.u.c 8
  unfold uCells at u0 u1 u2 u3 u4 u5 u6 u7 u8
  go_wp2_with fail
  refine (HOF.out _ hP5.tab8).mono ?_
  rintro e w6 ⟨rfl, hb6⟩
  have hP6 := hP5.below hb6
  have hO6 : RdyO w w6.heap.size A o me (w6.alloc (.cells (oCells o) 31)) := ⟨hP6.bel.alloc hP6.bel.size _, OBox.new w6 o, hP6.y.alloc _, tab_below hP6.tab ((Below.refl _ _).alloc (Nat.le_refl _) _), hP6.tab8.below ((Below.refl _ _).alloc (Nat.le_refl _) _)⟩
  unfold oCells at hO6
  clear hb6 hP5 hP6 HOF u0 u1 u2 u3 u4 u5 u6 u7 u8
  obtain ⟨w7, hw7⟩ : ∃ W, w6.alloc (.cells #[.bool o.op, .int .i64 o.id, .string (bA o.scheme), .string (bA o.host.name), .bool o.host.v4, .int .u32 o.host.addr, .int .i64 o.port] 31) = W := ⟨_, rfl⟩
  rw [hw7] at hO6
  obtain ⟨O, hO⟩ : ∃ O, w6.heap.size = O := ⟨_, rfl⟩
  rw [hO] at hO6
  have hR1 := hO6
  have hcat : bA tx ++ (⟨#[47, 120]⟩ : ByteArray) = bA (tx ++ [47, 120]) := bA_app tx [47, 120]
  have hL63 : ¬ 9223372036854775807 < tx.length + 2 := by have := HTL.out; omega
  go_upto_region 7 with fail
  clear hw7 hO hO6
  go_region_held_law (fun W => W.cell? ⟨O, 0, none⟩ = some (.bool o.op) ∧ W.cell? ⟨O, 1, none⟩ = some (.int .i64 o.id) ∧ W.cell? ⟨O, 2, none⟩ = some (.string (bA o.scheme)) ∧ W.cell? ⟨O, 3, none⟩ = some (.string (bA o.host.name)) ∧ W.cell? ⟨O, 4, none⟩ = some (.bool o.host.v4) ∧ W.cell? ⟨O, 5, none⟩ = some (.int .u32 o.host.addr) ∧ W.cell? ⟨O, 6, none⟩ = some (.int .i64 o.port) ∧ W.cell? ⟨A, 0, none⟩ = some (.bool me.op) ∧ W.cell? ⟨A, 1, none⟩ = some (.int .i64 me.id) ∧ W.cell? ⟨A, 2, none⟩ = some (.string (bA me.scheme)) ∧ W.cell? ⟨A, 3, none⟩ = some (.string (bA me.host.name)) ∧ W.cell? ⟨A, 4, none⟩ = some (.bool me.host.v4) ∧ W.cell? ⟨A, 5, none⟩ = some (.int .u32 me.host.addr) ∧ W.cell? ⟨A, 6, none⟩ = some (.int .i64 me.port) ∧ RdyO w O A o me W)
    (first
      | exact hR5.cs
      | exact hR5.drew.cs
      | exact (hR5.alloc _).cs
      | exact (hR5.alloc _).drew.cs
      | exact (hR5.drew.alloc _).cs
      | exact hR4.cs
      | exact hR4.drew.cs
      | exact (hR4.alloc _).cs
      | exact (hR4.alloc _).drew.cs
      | exact (hR4.drew.alloc _).cs
      | exact hR3.cs
      | exact hR3.drew.cs
      | exact (hR3.alloc _).cs
      | exact (hR3.alloc _).drew.cs
      | exact (hR3.drew.alloc _).cs
      | exact hR2.cs
      | exact hR2.drew.cs
      | exact (hR2.alloc _).cs
      | exact (hR2.alloc _).drew.cs
      | exact (hR2.drew.alloc _).cs
      | exact hR1.cs
      | exact hR1.drew.cs
      | exact (hR1.alloc _).cs
      | exact (hR1.alloc _).drew.cs
      | exact (hR1.drew.alloc _).cs)
    (first
      | (go_at_call 18; refine (CB.out _ _ _ (hR4.alloc _).tab (hR4.alloc _).tab8 HM.out (seen_one _ _)).mono ?_; rintro e w5 ⟨rfl, hb5⟩; have hR5 := (hR4.alloc _).below hb5)
      | (go_at_call 18; refine (CB.out _ _ _ (hR4.alloc _).drew.tab (hR4.alloc _).drew.tab8 HM.out (SeenT.drew (seen_one _ _))).mono ?_; rintro e w5 ⟨rfl, hb5⟩; have hR5 := (hR4.alloc _).drew.below hb5)
      | (go_at_call 25; refine (HTX.out _ hR3.tab).mono ?_; rintro e w4 ⟨rfl, hb4⟩; have hR4 := hR3.below hb4)
      | (go_at_call 25; refine (HTX.out _ hR3.drew.tab).mono ?_; rintro e w4 ⟨rfl, hb4⟩; have hR4 := hR3.drew.below hb4)
      | (go_at_call 18; refine (CA.out _ _ _ (hR2.alloc _).tab (hR2.alloc _).tab8 HM.out (seen_one _ _)).mono ?_; rintro e w3 ⟨rfl, hb3⟩; have hR3 := (hR2.alloc _).below hb3)
      | (go_at_call 18; refine (CA.out _ _ _ (hR2.alloc _).drew.tab (hR2.alloc _).drew.tab8 HM.out (SeenT.drew (seen_one _ _))).mono ?_; rintro e w3 ⟨rfl, hb3⟩; have hR3 := (hR2.alloc _).drew.below hb3)
      | (go_at_call 25; refine (HTX.out _ hR1.tab).mono ?_; rintro e w2 ⟨rfl, hb2⟩; have hR2 := hR1.below hb2)
      | (go_at_call 25; refine (HTX.out _ hR1.drew.tab).mono ?_; rintro e w2 ⟨rfl, hb2⟩; have hR2 := hR1.drew.below hb2))
  all_goals
    go_wp2_with fail
    go_ret
    exact ⟨rfl, hR5.bel⟩
end Go.Proofs.YtinjkpbpkedfnaaGreatDoor
