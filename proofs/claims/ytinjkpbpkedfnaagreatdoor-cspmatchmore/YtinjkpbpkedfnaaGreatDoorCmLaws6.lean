/- The walk of the statement on policies and ancestors. -/
import Derived.Test.YtinjkpbpkedfnaaGreatDoorCmApps
namespace Go.Proofs.YtinjkpbpkedfnaaGreatDoor
open Go.RowKit Go.Deep

/-- What stands while the statement runs: a policy's block, an origin's; lists that lie somewhere; the tables. -/
structure RdyG (w0 : World) (B C : Nat) (p : Cs.Pol) (A1 : Option Addr) (c1 : Nat) (A2 : Option Addr) (c2 : Nat) (me : Orig) (A : Option Addr) (l : List Orig) (W : World) : Prop where
  r : RdyF w0 B C p A1 c1 A2 c2 me A l W
  tab8 : Tab8 W
theorem RdyG.below {w0 : World} {B C : Nat} {p : Cs.Pol} {A1 : Option Addr} {c1 : Nat} {A2 : Option Addr} {c2 : Nat} {me : Orig} {A : Option Addr} {l : List Orig} {W W' : World} (h : RdyG w0 B C p A1 c1 A2 c2 me A l W) (hb : Below W.heap.size W W') : RdyG w0 B C p A1 c1 A2 c2 me A l W' := ⟨h.r.below hb, h.tab8.below hb⟩
theorem RdyG.drew {w0 : World} {B C : Nat} {p : Cs.Pol} {A1 : Option Addr} {c1 : Nat} {A2 : Option Addr} {c2 : Nat} {me : Orig} {A : Option Addr} {l : List Orig} {W : World} (h : RdyG w0 B C p A1 c1 A2 c2 me A l W) : RdyG w0 B C p A1 c1 A2 c2 me A l W.drew := h.below (Below.refl _ _).drew
theorem RdyG.alloc {w0 : World} {B C : Nat} {p : Cs.Pol} {A1 : Option Addr} {c1 : Nat} {A2 : Option Addr} {c2 : Nat} {me : Orig} {A : Option Addr} {l : List Orig} {W : World} (h : RdyG w0 B C p A1 c1 A2 c2 me A l W) (ob : Obj) : RdyG w0 B C p A1 c1 A2 c2 me A l (W.alloc ob) := h.below ((Below.refl _ _).alloc (Nat.le_refl _) _)
theorem RdyG.cs {w0 : World} {B C : Nat} {xa : Bool} {pa : List (List UInt8)} {xb : Bool} {pb : List (List UInt8)} {A1 : Option Addr} {c1 : Nat} {A2 : Option Addr} {c2 : Nat} {me : Orig} {A : Option Addr} {l : List Orig} {W : World} (h : RdyG w0 B C ⟨xa, pa, xb, pb⟩ A1 c1 A2 c2 me A l W) : W.cell? ⟨B, 0, none⟩ = some (.bool xa) ∧ W.cell? ⟨B, 1, none⟩ = some (.slice A1 pa.length c1) ∧ W.cell? ⟨B, 2, none⟩ = some (.bool xb) ∧ W.cell? ⟨B, 3, none⟩ = some (.slice A2 pb.length c2) ∧ W.cell? ⟨C, 0, none⟩ = some (.bool me.op) ∧ W.cell? ⟨C, 1, none⟩ = some (.int .i64 me.id) ∧ W.cell? ⟨C, 2, none⟩ = some (.string (bA me.scheme)) ∧ W.cell? ⟨C, 3, none⟩ = some (.string (bA me.host.name)) ∧ W.cell? ⟨C, 4, none⟩ = some (.bool me.host.v4) ∧ W.cell? ⟨C, 5, none⟩ = some (.int .u32 me.host.addr) ∧ W.cell? ⟨C, 6, none⟩ = some (.int .i64 me.port) ∧ RdyG w0 B C ⟨xa, pa, xb, pb⟩ A1 c1 A2 c2 me A l W :=
  ⟨h.r.b.c 0, h.r.b.c 1, h.r.b.c 2, h.r.b.c 3, h.r.y.c0, h.r.y.c1, h.r.y.c2, h.r.y.c3, h.r.y.c4, h.r.y.c5, h.r.y.c6, h⟩
theorem RdyG.mk0 (w : World) (p : Cs.Pol) (A1 : Option Addr) (c1 : Nat) (A2 : Option Addr) (c2 : Nat) (me : Orig) (A : Option Addr) (l : List Orig) (hT : Tab w) (hT8 : Tab8 w) (hp : SeenT w A1 p.anc) (hA : SeenOs w A l) :
    RdyG w w.heap.size (w.heap.size + 1) p A1 c1 A2 c2 me A l ((w.alloc (.cells (polC p A1 c1 A2 c2) 36)).alloc (.cells (oCells me) 31)) := by
  have hb0 : Below w.heap.size w ((w.alloc (.cells (polC p A1 c1 A2 c2) 36)).alloc (.cells (oCells me) 31)) := ((Below.refl _ w).alloc (Nat.le_refl _) _).alloc (by simp) _
  exact ⟨⟨hb0, (CBox.new w _ _).alloc _, by have := OBox.new (w.alloc (.cells (polC p A1 c1 A2 c2) 36)) me; simpa using this, hp.below hb0, hA.below hb0, tab_below hT hb0⟩, hT8.below hb0⟩
theorem fits_all {an : List Orig} (h : ∀ o ∈ an, smM o = true) (hw : ∀ o ∈ an, WideO o) : ∀ o ∈ an, FitM o := fun o ho => smM_fit (h o ho) (hw o ho).a0 (hw o ho).a1
set_option maxHeartbeats 8000000 in
set_option maxRecDepth 20000 in
theorem walk_CspmatchFrames (p : Cs.Pol) (A1 : Option Addr) (c1 : Nat) (A2 : Option Addr) (c2 : Nat) (me : Orig) (A : Option Addr) (c : Nat) (l : List Orig) (w : World) (hp : WidePol w p A1 c1 A2 c2) (hm : WideO me) (hl : WideOs w A c l) (hT : Tab w) (hT8 : Tab8 w) :
    Calls Tryz.prog 6 #[.agg (polC p A1 c1 A2 c2), origV me, .slice A l.length c] w fun e w' => e = .returned (.bool true) ∧ Below w.heap.size w w' := by
  have HX := Lib.hid (RdyG.mk0 w p A1 c1 A2 c2 me A l hT hT8 hp.anc.seen hl.seen)
  have HAW := Lib.hid (fun W h1 h2 => awake11_any W h1 h2)
  have HFE := Lib.hid (fun W h1 h2 => fewM_any p A1 c1 A2 c2 A c l W h1 h2)
  have HSM := Lib.hid (fun W => smallM_any me W)
  have c1' := fun W h1 h2 (q : FewM p.anc l) (qm : smM me = true) hA => cmAny_any A1 c1 p.anc me me W h1 h2 (smM_fit qm hm.a0 hm.a1) (smM_fit qm hm.a0 hm.a1) (Nat.le_trans q.ta (by decide)) (fun t ht => Nat.le_trans (q.each t ht) (by decide)) hA
  have c2' := fun W h1 (q : FewM p.anc l) (qm : smM me = true) hA => rany_any A1 c1 p.anc me me W h1 (smM_fit qm hm.a0 hm.a1).fit (Nat.le_trans q.ta (by decide)) (fun t ht => Nat.le_trans (q.each t ht) (by decide)) hA
  have c3' := fun W h1 h2 (q : FewM p.anc l) (qm : smM me = true) hs hA => cmFrames_any p A1 c1 A2 c2 me A c l W h1 h2 (smM_fit qm hm.a0 hm.a1) (fits_all q.small hl.each) (Nat.le_trans q.na (by decide)) (Nat.le_trans q.ta (by decide)) (fun t ht => Nat.le_trans (q.each t ht) (by decide)) hs hA
  have c4' := fun W h1 (q : FewM p.anc l) hs hA => rframes_any p A1 c1 A2 c2 me A c l W h1 (fun o ho => (fits_all q.small hl.each o ho).fit) (Nat.le_trans q.na (by decide)) (Nat.le_trans q.ta (by decide)) (fun t ht => Nat.le_trans (q.each t ht) (by decide)) hs hA
  obtain ⟨v1, e1⟩ : ∃ b, Cm.anyB p.anc me me = b := ⟨_, rfl⟩
  obtain ⟨v2, e2⟩ : ∃ b, Cm.framesB p.hasAnc p.anc me l = b := ⟨_, rfl⟩
  rw [e1] at c1' c2'
  rw [e2] at c3' c4'
  clear hp hm hl hT hT8 e1 e2
  obtain ⟨xa, pa, xb, pb⟩ := p
  unfold origV at *
  unfold polC at *
  unfold oCells at *
  dsimp only at *
  have C1 := Lib.hid c1'; have C2 := Lib.hid c2'; have C3 := Lib.hid c3'; have C4 := Lib.hid c4'
  clear c1' c2' c3' c4'
  go_enter Tryz.func6, Tryz.ntmps6
  obtain ⟨w1, hw1⟩ : ∃ W, ((w.alloc (.cells #[.bool xa, .slice A1 pa.length c1, .bool xb, .slice A2 pb.length c2] 36)).alloc (.cells #[.bool me.op, .int .i64 me.id, .string (bA me.scheme), .string (bA me.host.name), .bool me.host.v4, .int .u32 me.host.addr, .int .i64 me.port] 31)) = W := ⟨_, rfl⟩
  have hX1 : RdyG w w.heap.size (w.heap.size + 1) ⟨xa, pa, xb, pb⟩ A1 c1 A2 c2 me A l w1 := by rw [← hw1]; exact HX.out
  go_wp2_with fail
  clear hw1 HX
  obtain ⟨B, hB⟩ : ∃ A, w.heap.size = A := ⟨_, rfl⟩
  obtain ⟨C, hC⟩ : ∃ C, B + 1 = C := ⟨_, rfl⟩
  simp only [hB, hC] at hX1 ⊢
  clear hB hC
  refine (HAW.out _ hX1.r.tab hX1.tab8).mono ?_
  rintro e w2 ⟨rfl, hb2⟩
  have hX2 := hX1.below hb2
  clear hb2 hX1 HAW
  have p0 : w2.cell? ⟨B, 0, none⟩ = some (.bool xa) := hX2.r.b.c 0
  have p1 : w2.cell? ⟨B, 1, none⟩ = some (.slice A1 pa.length c1) := hX2.r.b.c 1
  have p2 : w2.cell? ⟨B, 2, none⟩ = some (.bool xb) := hX2.r.b.c 2
  have p3 : w2.cell? ⟨B, 3, none⟩ = some (.slice A2 pb.length c2) := hX2.r.b.c 3
  go_wp2_with fail
  refine (HFE.out _ hX2.r.t hX2.r.l).mono ?_
  rintro e w3 ⟨rfl, hb3⟩
  have hX3 := hX2.below hb3
  clear hb3 hX2 p0 p1 p2 p3 HFE
  cases hfe : fewM pa l with
  | false =>
    go_wp2_with fail
    go_ret
    exact ⟨rfl, hX3.r.bel⟩
  | true =>
  have HF := Lib.hid (fewM_is hfe)
  clear hfe
  obtain ⟨y0, y1, y2, y3, y4, y5, y6⟩ := hX3.r.y.all
  go_wp2_with fail
  refine (HSM.out _).mono ?_
  rintro e w4 ⟨rfl, hb4⟩
  have hX4 := hX3.below hb4
  clear hb4 hX3 y0 y1 y2 y3 y4 y5 y6 HSM
  cases hsm : smM me with
  | false =>
    go_wp2_with fail
    go_ret
    exact ⟨rfl, hX4.r.bel⟩
  | true =>
  have HM := Lib.hid hsm
  clear hsm
  go_upto_region 5 with fail
  go_cut [31] from 21 to 31 (fun v wx => v = .bool false ∧ Hid (RdyG w B C ⟨xa, pa, xb, pb⟩ A1 c1 A2 c2 me A l wx))
  case first =>
    go_region_held_law (fun W => W.cell? ⟨B, 0, none⟩ = some (.bool xa) ∧ W.cell? ⟨B, 1, none⟩ = some (.slice A1 pa.length c1) ∧ W.cell? ⟨B, 2, none⟩ = some (.bool xb) ∧ W.cell? ⟨B, 3, none⟩ = some (.slice A2 pb.length c2) ∧ W.cell? ⟨C, 0, none⟩ = some (.bool me.op) ∧ W.cell? ⟨C, 1, none⟩ = some (.int .i64 me.id) ∧ W.cell? ⟨C, 2, none⟩ = some (.string (bA me.scheme)) ∧ W.cell? ⟨C, 3, none⟩ = some (.string (bA me.host.name)) ∧ W.cell? ⟨C, 4, none⟩ = some (.bool me.host.v4) ∧ W.cell? ⟨C, 5, none⟩ = some (.int .u32 me.host.addr) ∧ W.cell? ⟨C, 6, none⟩ = some (.int .i64 me.port) ∧ RdyG w B C ⟨xa, pa, xb, pb⟩ A1 c1 A2 c2 me A l W)
      (first
      | exact hX6.cs
      | exact hX6.drew.cs
      | exact hX5.cs
      | exact hX5.drew.cs
      | exact hX4.cs
      | exact hX4.drew.cs)
      (first
        | (go_at_call 19; refine (C2.out _ hX5.drew.r.tab HF.out HM.out hX5.drew.r.t).mono ?_; rintro e w6 ⟨rfl, hb6⟩; have hX6 := hX5.drew.below hb6)
        | (go_at_call 19; refine (C2.out _ hX5.r.tab HF.out HM.out hX5.r.t).mono ?_; rintro e w6 ⟨rfl, hb6⟩; have hX6 := hX5.below hb6)
        | (go_at_call 18; refine (C1.out _ hX4.r.tab hX4.tab8 HF.out HM.out hX4.r.t).mono ?_; rintro e w5 ⟨rfl, hb5⟩; have hX5 := hX4.below hb5)
        | (go_at_call 18; refine (C1.out _ hX4.drew.r.tab hX4.drew.tab8 HF.out HM.out hX4.drew.r.t).mono ?_; rintro e w5 ⟨rfl, hb5⟩; have hX5 := hX4.drew.below hb5))
    all_goals
      go_wp2_with fail
      go_meet
      exact ⟨by simp, Lib.hid hX6⟩
  case rest =>
  obtain ⟨rfl, HX7⟩ := hcut
  have hX7 := HX7.out
  clear hX4 C1 C2 HX7
  go_upto_region 7 with fail
  go_region_held_law (fun W => W.cell? ⟨B, 0, none⟩ = some (.bool xa) ∧ W.cell? ⟨B, 1, none⟩ = some (.slice A1 pa.length c1) ∧ W.cell? ⟨B, 2, none⟩ = some (.bool xb) ∧ W.cell? ⟨B, 3, none⟩ = some (.slice A2 pb.length c2) ∧ W.cell? ⟨C, 0, none⟩ = some (.bool me.op) ∧ W.cell? ⟨C, 1, none⟩ = some (.int .i64 me.id) ∧ W.cell? ⟨C, 2, none⟩ = some (.string (bA me.scheme)) ∧ W.cell? ⟨C, 3, none⟩ = some (.string (bA me.host.name)) ∧ W.cell? ⟨C, 4, none⟩ = some (.bool me.host.v4) ∧ W.cell? ⟨C, 5, none⟩ = some (.int .u32 me.host.addr) ∧ W.cell? ⟨C, 6, none⟩ = some (.int .i64 me.port) ∧ RdyG w B C ⟨xa, pa, xb, pb⟩ A1 c1 A2 c2 me A l W)
    (first
      | exact hX9.cs
      | exact hX9.drew.cs
      | exact hX8.cs
      | exact hX8.drew.cs
      | exact hX7.cs
      | exact hX7.drew.cs)
    (first
      | (go_at_call 21; refine (C4.out _ hX8.drew.r.tab HF.out hX8.drew.r.t hX8.drew.r.l).mono ?_; rintro e w9 ⟨rfl, hb9⟩; have hX9 := hX8.drew.below hb9)
      | (go_at_call 21; refine (C4.out _ hX8.r.tab HF.out hX8.r.t hX8.r.l).mono ?_; rintro e w9 ⟨rfl, hb9⟩; have hX9 := hX8.below hb9)
      | (go_at_call 20; refine (C3.out _ hX7.r.tab hX7.tab8 HF.out HM.out hX7.r.t hX7.r.l).mono ?_; rintro e w8 ⟨rfl, hb8⟩; have hX8 := hX7.below hb8)
      | (go_at_call 20; refine (C3.out _ hX7.drew.r.tab hX7.drew.tab8 HF.out HM.out hX7.drew.r.t hX7.drew.r.l).mono ?_; rintro e w8 ⟨rfl, hb8⟩; have hX8 := hX7.drew.below hb8))
  all_goals
    go_wp2_with fail
    go_ret
    exact ⟨by simp, hX9.r.bel⟩
end Go.Proofs.YtinjkpbpkedfnaaGreatDoor
