/- The walk of the statement on any origin and any source expression. -/
import Derived.Test.YtinjkpbpkedfnaaGreatDoorCmLaws1
namespace Go.Proofs.YtinjkpbpkedfnaaGreatDoor
open Go.RowKit Go.Deep

/-- Is an origin small? -/
def smM (o : Orig) : Bool := decide (o.host.name.length ≤ 1000) && decide (o.scheme.length ≤ 1000)
theorem smM_fit {o : Orig} (h : smM o = true) (a0 : 0 ≤ o.host.addr) (a1 : o.host.addr ≤ 4294967295) : FitM o := by
  unfold smM at h
  rw [Bool.and_eq_true, decide_eq_true_iff, decide_eq_true_iff] at h
  exact ⟨a0, a1, by omega, by unfold maxLen; omega⟩
set_option maxHeartbeats 2000000 in
theorem smallM_any (o : Orig) (w : World) : Calls Tryz.prog 14 #[origV o] w fun e w' => e = .returned (.bool (smM o)) ∧ Below w.heap.size w w' := by
  have hb0 : Below w.heap.size w (w.alloc (.cells (oCells o) 31)) := (Below.refl _ w).alloc (Nat.le_refl _) _
  have HB := Lib.hid hb0
  clear hb0
  unfold origV smM
  unfold oCells at HB ⊢
  obtain ⟨x, e1⟩ : ∃ x, decide ((o.host.name.length : Int) ≤ 1000) = x := ⟨_, rfl⟩
  obtain ⟨y, e2⟩ : ∃ x, decide ((o.scheme.length : Int) ≤ 1000) = x := ⟨_, rfl⟩
  have E1 : Hid (decide (o.host.name.length ≤ 1000) = x) := Lib.hid (by rw [← e1]; simp only [decide_eq_decide]; omega)
  have E2 : Hid (decide (o.scheme.length ≤ 1000) = y) := Lib.hid (by rw [← e2]; simp only [decide_eq_decide]; omega)
  rw [E1.out, E2.out]
  cases x <;> cases y
  all_goals
    go_enter Tryz.func14, Tryz.ntmps14
    go_wp2_with fail
    go_ret
    exact ⟨rfl, HB.out⟩
/-- What stands while the statement runs. -/
structure RdyN (w0 : World) (A B C : Nat) (s : Cm.Src) (o me : Orig) (W : World) : Prop where
  r : RdyM w0 A B C s o me W
  tab8 : Tab8 W
theorem RdyN.below {w0 : World} {A B C : Nat} {s : Cm.Src} {o me : Orig} {W W' : World} (h : RdyN w0 A B C s o me W) (hb : Below W.heap.size W W') : RdyN w0 A B C s o me W' := ⟨h.r.below hb, h.tab8.below hb⟩
theorem RdyN.drew {w0 : World} {A B C : Nat} {s : Cm.Src} {o me : Orig} {W : World} (h : RdyN w0 A B C s o me W) : RdyN w0 A B C s o me W.drew := h.below (Below.refl _ _).drew
theorem RdyN.cs {w0 : World} {A B C : Nat} {s : Cm.Src} {o me : Orig} {W : World} (h : RdyN w0 A B C s o me W) : W.cell? ⟨A, 0, none⟩ = some (.int .i64 s.kind) ∧ W.cell? ⟨A, 1, none⟩ = some (.string (bA s.scheme)) ∧ W.cell? ⟨A, 2, none⟩ = some (.string (bA s.host)) ∧ W.cell? ⟨A, 3, none⟩ = some (.int .i64 s.port) ∧ W.cell? ⟨B, 0, none⟩ = some (.bool o.op) ∧ W.cell? ⟨B, 1, none⟩ = some (.int .i64 o.id) ∧ W.cell? ⟨B, 2, none⟩ = some (.string (bA o.scheme)) ∧ W.cell? ⟨B, 3, none⟩ = some (.string (bA o.host.name)) ∧ W.cell? ⟨B, 4, none⟩ = some (.bool o.host.v4) ∧ W.cell? ⟨B, 5, none⟩ = some (.int .u32 o.host.addr) ∧ W.cell? ⟨B, 6, none⟩ = some (.int .i64 o.port) ∧ W.cell? ⟨C, 0, none⟩ = some (.bool me.op) ∧ W.cell? ⟨C, 1, none⟩ = some (.int .i64 me.id) ∧ W.cell? ⟨C, 2, none⟩ = some (.string (bA me.scheme)) ∧ W.cell? ⟨C, 3, none⟩ = some (.string (bA me.host.name)) ∧ W.cell? ⟨C, 4, none⟩ = some (.bool me.host.v4) ∧ W.cell? ⟨C, 5, none⟩ = some (.int .u32 me.host.addr) ∧ W.cell? ⟨C, 6, none⟩ = some (.int .i64 me.port) ∧ RdyN w0 A B C s o me W :=
  ⟨h.r.s.c 0, h.r.s.c 1, h.r.s.c 2, h.r.s.c 3, h.r.x.c0, h.r.x.c1, h.r.x.c2, h.r.x.c3, h.r.x.c4, h.r.x.c5, h.r.x.c6, h.r.y.c0, h.r.y.c1, h.r.y.c2, h.r.y.c3, h.r.y.c4, h.r.y.c5, h.r.y.c6, h⟩
set_option maxHeartbeats 8000000 in
set_option maxRecDepth 20000 in
theorem walk_CspmatchMatches (s : Cm.Src) (o me : Orig) (w : World) (hs : WideS s) (ho : WideO o) (hm : WideO me) (hT : Tab w) (hT8 : Tab8 w) :
    Calls Tryz.prog 5 #[srcV s, origV o, origV me] w fun e w' => e = .returned (.bool true) ∧ Below w.heap.size w w' := by
  have h0 := RdyM.mk0 w s o me hT
  have HX := Lib.hid (RdyN.mk h0 (hT8.below h0.bel))
  have HAW := Lib.hid (fun W h1 h2 => awake11_any W h1 h2)
  have HSO := Lib.hid (fun W => smallM_any o W)
  have HSM := Lib.hid (fun W => smallM_any me W)
  have c1 := fun W h1 h2 (q1 : smM o = true) (q2 : smM me = true) (q3 : s.host.length ≤ 1000) => cmMatch_any s o me W h1 h2 ⟨by omega, hs.sc⟩ (smM_fit q1 ho.a0 ho.a1) (smM_fit q2 hm.a0 hm.a1)
  have c2 := fun W h1 (q1 : smM o = true) (q3 : s.host.length ≤ 1000) => rmatch_any s o me W h1 (smM_fit q1 ho.a0 ho.a1).fit (by omega)
  have l1 := hs.hs; have l2 := hs.sc
  clear h0 hT hT8 hs ho hm
  obtain ⟨m, hm⟩ : ∃ b, Cm.matchB s o me = b := ⟨_, rfl⟩
  rw [hm] at c1 c2
  unfold srcV origV at *
  unfold srcC oCells at *
  have C1 := Lib.hid c1; have C2 := Lib.hid c2; have L1 := Lib.hid l1; have L2 := Lib.hid l2
  clear hm c1 c2 l1 l2
  go_enter Tryz.func5, Tryz.ntmps5
  obtain ⟨w1, hw1⟩ : ∃ W, ((w.alloc (.cells #[.int .i64 s.kind, .string (bA s.scheme), .string (bA s.host), .int .i64 s.port] 24)).alloc (.cells #[.bool o.op, .int .i64 o.id, .string (bA o.scheme), .string (bA o.host.name), .bool o.host.v4, .int .u32 o.host.addr, .int .i64 o.port] 31)).alloc (.cells #[.bool me.op, .int .i64 me.id, .string (bA me.scheme), .string (bA me.host.name), .bool me.host.v4, .int .u32 me.host.addr, .int .i64 me.port] 31) = W := ⟨_, rfl⟩
  have hX1 : RdyN w w.heap.size (w.heap.size + 1) (w.heap.size + 1 + 1) s o me w1 := by rw [← hw1]; exact HX.out
  go_wp2_with fail
  clear hw1 HX
  obtain ⟨A, hA⟩ : ∃ A, w.heap.size = A := ⟨_, rfl⟩
  obtain ⟨B, hB⟩ : ∃ B, A + 1 = B := ⟨_, rfl⟩
  obtain ⟨C, hC⟩ : ∃ C, B + 1 = C := ⟨_, rfl⟩
  simp only [hA, hB, hC] at hX1 ⊢
  clear hA hB hC
  refine (HAW.out _ hX1.r.tab hX1.tab8).mono ?_
  rintro e w2 ⟨rfl, hb2⟩
  have hX2 := hX1.below hb2
  clear hb2 hX1
  obtain ⟨x0, x1, x2, x3, x4, x5, x6⟩ := hX2.r.x.all
  go_wp2_with fail
  refine (HSO.out _).mono ?_
  rintro e w3 ⟨rfl, hb3⟩
  have hX3 := hX2.below hb3
  clear hb3 hX2 x0 x1 x2 x3 x4 x5 x6 HSO HAW
  cases hso : smM o with
  | false =>
    go_wp2_with fail
    go_ret
    exact ⟨rfl, hX3.r.bel⟩
  | true =>
  have HO := Lib.hid hso
  clear hso
  obtain ⟨x0, x1, x2, x3, x4, x5, x6⟩ := hX3.r.y.all
  go_wp2_with fail
  refine (HSM.out _).mono ?_
  rintro e w4 ⟨rfl, hb4⟩
  have hX4 := hX3.below hb4
  clear hb4 hX3 x0 x1 x2 x3 x4 x5 x6 HSM
  cases hsm : smM me with
  | false =>
    go_wp2_with fail
    go_ret
    exact ⟨rfl, hX4.r.bel⟩
  | true =>
  have HM := Lib.hid hsm
  clear hsm
  have s1 : w4.cell? ⟨A, 1, none⟩ = some (.string (bA s.scheme)) := hX4.r.s.c 1
  have s2 : w4.cell? ⟨A, 2, none⟩ = some (.string (bA s.host)) := hX4.r.s.c 2
  by_cases q3 : 1000 < s.host.length
  · have q3' : (1000 : Int) < (s.host.length : Int) := by omega
    go_wp2_with fail
    go_ret
    exact ⟨rfl, hX4.r.bel⟩
  have q3' : ¬ (1000 : Int) < (s.host.length : Int) := by omega
  have Q3 : Hid (s.host.length ≤ 1000) := Lib.hid (by omega)
  by_cases q4 : 1000 < s.scheme.length
  · have q4' : (1000 : Int) < (s.scheme.length : Int) := by omega
    go_wp2_with fail
    go_ret
    exact ⟨rfl, hX4.r.bel⟩
  have q4' : ¬ (1000 : Int) < (s.scheme.length : Int) := by omega
  go_upto_region 4 with fail
  clear q3 q3' q4 q4' s1 s2
  go_region_held_law (fun W => W.cell? ⟨A, 0, none⟩ = some (.int .i64 s.kind) ∧ W.cell? ⟨A, 1, none⟩ = some (.string (bA s.scheme)) ∧ W.cell? ⟨A, 2, none⟩ = some (.string (bA s.host)) ∧ W.cell? ⟨A, 3, none⟩ = some (.int .i64 s.port) ∧ W.cell? ⟨B, 0, none⟩ = some (.bool o.op) ∧ W.cell? ⟨B, 1, none⟩ = some (.int .i64 o.id) ∧ W.cell? ⟨B, 2, none⟩ = some (.string (bA o.scheme)) ∧ W.cell? ⟨B, 3, none⟩ = some (.string (bA o.host.name)) ∧ W.cell? ⟨B, 4, none⟩ = some (.bool o.host.v4) ∧ W.cell? ⟨B, 5, none⟩ = some (.int .u32 o.host.addr) ∧ W.cell? ⟨B, 6, none⟩ = some (.int .i64 o.port) ∧ W.cell? ⟨C, 0, none⟩ = some (.bool me.op) ∧ W.cell? ⟨C, 1, none⟩ = some (.int .i64 me.id) ∧ W.cell? ⟨C, 2, none⟩ = some (.string (bA me.scheme)) ∧ W.cell? ⟨C, 3, none⟩ = some (.string (bA me.host.name)) ∧ W.cell? ⟨C, 4, none⟩ = some (.bool me.host.v4) ∧ W.cell? ⟨C, 5, none⟩ = some (.int .u32 me.host.addr) ∧ W.cell? ⟨C, 6, none⟩ = some (.int .i64 me.port) ∧ RdyN w A B C s o me W)
    (first
      | exact hX4.cs
      | exact hX4.drew.cs
      | exact hX5.cs
      | exact hX5.drew.cs
      | exact hX6.cs
      | exact hX6.drew.cs)
    (first
      | (go_at_call 16; refine (C2.out _ hX5.drew.r.tab HO.out Q3.out).mono ?_; rintro e w6 ⟨rfl, hb6⟩; have hX6 := hX5.drew.below hb6)
      | (go_at_call 16; refine (C2.out _ hX5.r.tab HO.out Q3.out).mono ?_; rintro e w6 ⟨rfl, hb6⟩; have hX6 := hX5.below hb6)
      | (go_at_call 15; refine (C1.out _ hX4.r.tab hX4.tab8 HO.out HM.out Q3.out).mono ?_; rintro e w5 ⟨rfl, hb5⟩; have hX5 := hX4.below hb5)
      | (go_at_call 15; refine (C1.out _ hX4.drew.r.tab hX4.drew.tab8 HO.out HM.out Q3.out).mono ?_; rintro e w5 ⟨rfl, hb5⟩; have hX5 := hX4.drew.below hb5))
  all_goals
    go_wp2_with fail
    go_ret
    exact ⟨by simp, hX6.r.bel⟩
end Go.Proofs.YtinjkpbpkedfnaaGreatDoor
