/- The walk of the statement on one expression more, one ancestor more. -/
import Derived.Test.YtinjkpbpkedfnaaGreatDoorCmLaws6
import Derived.Test.YtinjkpbpkedfnaaGreatDoorCmApps
namespace Go.Proofs.YtinjkpbpkedfnaaGreatDoor
open Go.RowKit Go.Deep

/-- What stands while the statement runs: a policy's block, two origins'; lists that lie somewhere; the tables. -/
structure RdyH (w0 : World) (B C D : Nat) (p : Cs.Pol) (A1 : Option Addr) (c1 : Nat) (A2 : Option Addr) (c2 : Nat) (me o : Orig) (A : Option Addr) (l : List Orig) (W : World) : Prop where
  g : RdyG w0 B C p A1 c1 A2 c2 me A l W
  x : OBox W D o
theorem RdyH.below {w0 : World} {B C D : Nat} {p : Cs.Pol} {A1 : Option Addr} {c1 : Nat} {A2 : Option Addr} {c2 : Nat} {me o : Orig} {A : Option Addr} {l : List Orig} {W W' : World} (h : RdyH w0 B C D p A1 c1 A2 c2 me o A l W) (hb : Below W.heap.size W W') : RdyH w0 B C D p A1 c1 A2 c2 me o A l W' := ⟨h.g.below hb, h.x.keep hb⟩
theorem RdyH.drew {w0 : World} {B C D : Nat} {p : Cs.Pol} {A1 : Option Addr} {c1 : Nat} {A2 : Option Addr} {c2 : Nat} {me o : Orig} {A : Option Addr} {l : List Orig} {W : World} (h : RdyH w0 B C D p A1 c1 A2 c2 me o A l W) : RdyH w0 B C D p A1 c1 A2 c2 me o A l W.drew := h.below (Below.refl _ _).drew
theorem RdyH.alloc {w0 : World} {B C D : Nat} {p : Cs.Pol} {A1 : Option Addr} {c1 : Nat} {A2 : Option Addr} {c2 : Nat} {me o : Orig} {A : Option Addr} {l : List Orig} {W : World} (h : RdyH w0 B C D p A1 c1 A2 c2 me o A l W) (ob : Obj) : RdyH w0 B C D p A1 c1 A2 c2 me o A l (W.alloc ob) := h.below ((Below.refl _ _).alloc (Nat.le_refl _) _)
theorem RdyH.cs {w0 : World} {B C D : Nat} {xa : Bool} {pa : List (List UInt8)} {xb : Bool} {pb : List (List UInt8)} {A1 : Option Addr} {c1 : Nat} {A2 : Option Addr} {c2 : Nat} {me o : Orig} {A : Option Addr} {l : List Orig} {W : World} (h : RdyH w0 B C D ⟨xa, pa, xb, pb⟩ A1 c1 A2 c2 me o A l W) : W.cell? ⟨B, 0, none⟩ = some (.bool xa) ∧ W.cell? ⟨B, 1, none⟩ = some (.slice A1 pa.length c1) ∧ W.cell? ⟨B, 2, none⟩ = some (.bool xb) ∧ W.cell? ⟨B, 3, none⟩ = some (.slice A2 pb.length c2) ∧ W.cell? ⟨C, 0, none⟩ = some (.bool me.op) ∧ W.cell? ⟨C, 1, none⟩ = some (.int .i64 me.id) ∧ W.cell? ⟨C, 2, none⟩ = some (.string (bA me.scheme)) ∧ W.cell? ⟨C, 3, none⟩ = some (.string (bA me.host.name)) ∧ W.cell? ⟨C, 4, none⟩ = some (.bool me.host.v4) ∧ W.cell? ⟨C, 5, none⟩ = some (.int .u32 me.host.addr) ∧ W.cell? ⟨C, 6, none⟩ = some (.int .i64 me.port) ∧ W.cell? ⟨D, 0, none⟩ = some (.bool o.op) ∧ W.cell? ⟨D, 1, none⟩ = some (.int .i64 o.id) ∧ W.cell? ⟨D, 2, none⟩ = some (.string (bA o.scheme)) ∧ W.cell? ⟨D, 3, none⟩ = some (.string (bA o.host.name)) ∧ W.cell? ⟨D, 4, none⟩ = some (.bool o.host.v4) ∧ W.cell? ⟨D, 5, none⟩ = some (.int .u32 o.host.addr) ∧ W.cell? ⟨D, 6, none⟩ = some (.int .i64 o.port) ∧ RdyH w0 B C D ⟨xa, pa, xb, pb⟩ A1 c1 A2 c2 me o A l W :=
  ⟨h.g.r.b.c 0, h.g.r.b.c 1, h.g.r.b.c 2, h.g.r.b.c 3, h.g.r.y.c0, h.g.r.y.c1, h.g.r.y.c2, h.g.r.y.c3, h.g.r.y.c4, h.g.r.y.c5, h.g.r.y.c6, h.x.c0, h.x.c1, h.x.c2, h.x.c3, h.x.c4, h.x.c5, h.x.c6, h⟩
theorem RdyH.mk0 (w : World) (p : Cs.Pol) (A1 : Option Addr) (c1 : Nat) (A2 : Option Addr) (c2 : Nat) (me o : Orig) (A : Option Addr) (l : List Orig) (hT : Tab w) (hT8 : Tab8 w) (hp : SeenT w A1 p.anc) (hA : SeenOs w A l) :
    RdyH w w.heap.size (w.heap.size + 1) (w.heap.size + 1 + 1) p A1 c1 A2 c2 me o A l (((w.alloc (.cells (polC p A1 c1 A2 c2) 36)).alloc (.cells (oCells me) 31)).alloc (.cells (oCells o) 31)) := by
  have h := (RdyG.mk0 w p A1 c1 A2 c2 me A l hT hT8 hp hA).alloc (.cells (oCells o) 31)
  refine ⟨h, ?_⟩
  have := OBox.new ((w.alloc (.cells (polC p A1 c1 A2 c2) 36)).alloc (.cells (oCells me) 31)) o
  simpa using this
set_option maxHeartbeats 8000000 in
set_option maxRecDepth 20000 in
theorem walk_CspmatchMore (p : Cs.Pol) (A1 : Option Addr) (c1 : Nat) (A2 : Option Addr) (c2 : Nat) (me : Orig) (A : Option Addr) (c : Nat) (l : List Orig) (s : ByteArray) (o : Orig) (w : World) (hp : WidePol w p A1 c1 A2 c2) (hm : WideO me) (hl : WideOs w A c l) (hs : s.size ≤ maxLen) (ho : WideO o) (hT : Tab w) (hT8 : Tab8 w) :
    Calls Tryz.prog 7 #[.agg (polC p A1 c1 A2 c2), origV me, .slice A l.length c, .string s, origV o] w fun e w' => e = .returned (.bool true) ∧ Below w.heap.size w w' := by
  obtain ⟨t, rfl⟩ : ∃ t, s = bA t := ⟨s.data.toList, rfl⟩
  rw [bA_size] at hs
  have HX := Lib.hid (RdyH.mk0 w p A1 c1 A2 c2 me o A l hT hT8 hp.anc.seen hl.seen)
  have HAW := Lib.hid (fun W h1 h2 => awake11_any W h1 h2)
  have HFE := Lib.hid (fun W h1 h2 => fewM_any p A1 c1 A2 c2 A c l W h1 h2)
  have HSM := Lib.hid (fun W => smallM_any me W)
  have HSO := Lib.hid (fun W => smallM_any o W)
  have hnl := hl.nl
  have d1 := fun W h1 h2 (q : FewM p.anc l) (qm : smM me = true) hs hA => cmFrames_any p A1 c1 A2 c2 me A c l W h1 h2 (smM_fit qm hm.a0 hm.a1) (fits_all q.small hl.each) (Nat.le_trans q.na (by decide)) (Nat.le_trans q.ta (by decide)) (fun t ht => Nat.le_trans (q.each t ht) (by decide)) hs hA
  have d2 : ∀ (W : World) (A1' : Option Addr) (c1' : Nat), Tab W → Tab8 W → FewM p.anc l → smM me = true → t.length ≤ 300 → SeenT W A1' (p.anc ++ [t]) → SeenOs W A l → Calls Tryz.prog 20 #[.agg #[.bool p.hasAnc, .slice A1' (p.anc.length + 1) c1', .bool p.hasBox, .slice A2 p.box.length c2], origV me, .slice A l.length c] W fun e w' => e = .returned (.bool (Cm.framesB p.hasAnc (p.anc ++ [t]) me l)) ∧ Below W.heap.size W w' := fun W A1' c1' h1 h2 q qm q3 hs hA => by
    have := cmFrames_any ⟨p.hasAnc, p.anc ++ [t], p.hasBox, p.box⟩ A1' c1' A2 c2 me A c l W h1 h2 (smM_fit qm hm.a0 hm.a1) (fits_all q.small hl.each) (Nat.le_trans q.na (by decide)) (by have := q.ta; simp; omega) (fun y hy => by
      rcases List.mem_append.1 hy with hy | hy
      · exact Nat.le_trans (q.each y hy) (by decide)
      · rw [List.mem_singleton.1 hy]; omega) hs hA
    unfold polC at this
    dsimp only at this
    rw [List.length_append] at this
    exact this
  have d3 : ∀ (W : World) (A' : Option Addr) (c' : Nat), Tab W → Tab8 W → FewM p.anc l → smM me = true → smM o = true → SeenT W A1 p.anc → SeenOs W A' (l ++ [o]) → Calls Tryz.prog 20 #[.agg (polC p A1 c1 A2 c2), origV me, .slice A' (l.length + 1) c'] W fun e w' => e = .returned (.bool (Cm.framesB p.hasAnc p.anc me (l ++ [o]))) ∧ Below W.heap.size W w' := fun W A' c' h1 h2 q qm qo hs hA => by
    have := cmFrames_any p A1 c1 A2 c2 me A' c' (l ++ [o]) W h1 h2 (smM_fit qm hm.a0 hm.a1) (fun y hy => by
      rcases List.mem_append.1 hy with hy | hy
      · exact fits_all q.small hl.each y hy
      · rw [List.mem_singleton.1 hy]; exact smM_fit qo ho.a0 ho.a1) (by have := q.na; simp; omega) (Nat.le_trans q.ta (by decide)) (fun t ht => Nat.le_trans (q.each t ht) (by decide)) hs hA
    rw [List.length_append] at this
    exact this
  have d4 : ∀ (W : World) (A' : Option Addr) (c' : Nat), Tab W → Tab8 W → FewM p.anc l → smM me = true → smM o = true → SeenT W A1 p.anc → SeenOs W A' [o] → Calls Tryz.prog 20 #[.agg (polC p A1 c1 A2 c2), origV me, .slice A' 1 c'] W fun e w' => e = .returned (.bool (Cm.framesB p.hasAnc p.anc me [o])) ∧ Below W.heap.size W w' := fun W A' c' h1 h2 q qm qo hs hA =>
    cmFrames_any p A1 c1 A2 c2 me A' c' [o] W h1 h2 (smM_fit qm hm.a0 hm.a1) (fun y hy => by rw [List.mem_singleton.1 hy]; exact smM_fit qo ho.a0 ho.a1) (by simp) (Nat.le_trans q.ta (by decide)) (fun t ht => Nat.le_trans (q.each t ht) (by decide)) hs hA
  rw [Cm.frames_one] at d3
  have hmore := @Cm.frames_more p.hasAnc p.anc me l t
  obtain ⟨va, e1⟩ : ∃ b, Cm.framesB p.hasAnc p.anc me l = b := ⟨_, rfl⟩
  obtain ⟨vb, e2⟩ : ∃ b, Cm.framesB p.hasAnc (p.anc ++ [t]) me l = b := ⟨_, rfl⟩
  obtain ⟨vd, e3⟩ : ∃ b, Cm.framesB p.hasAnc p.anc me [o] = b := ⟨_, rfl⟩
  rw [e1] at d1; rw [e2] at d2; rw [e1, e3] at d3; rw [e3] at d4; rw [e1, e2] at hmore
  have HMO := Lib.hid hmore
  clear hp hm hl ho hT hT8 hs e1 e2 e3 hmore
  obtain ⟨xa, pa, xb, pb⟩ := p
  unfold origV at *
  unfold polC at *
  unfold oCells at *
  dsimp only at *
  have D1 := Lib.hid d1; have D2 := Lib.hid d2; have D3 := Lib.hid d3; have D4 := Lib.hid d4
  have HNL := Lib.hid hnl
  clear d1 d2 d3 d4 hnl
  go_enter Tryz.func7, Tryz.ntmps7
  obtain ⟨w1, hw1⟩ : ∃ W, (((w.alloc (.cells #[.bool xa, .slice A1 pa.length c1, .bool xb, .slice A2 pb.length c2] 36)).alloc (.cells #[.bool me.op, .int .i64 me.id, .string (bA me.scheme), .string (bA me.host.name), .bool me.host.v4, .int .u32 me.host.addr, .int .i64 me.port] 31)).alloc (.cells #[.bool o.op, .int .i64 o.id, .string (bA o.scheme), .string (bA o.host.name), .bool o.host.v4, .int .u32 o.host.addr, .int .i64 o.port] 31)) = W := ⟨_, rfl⟩
  have hX1 : RdyH w w.heap.size (w.heap.size + 1) (w.heap.size + 1 + 1) ⟨xa, pa, xb, pb⟩ A1 c1 A2 c2 me o A l w1 := by rw [← hw1]; exact HX.out
  go_wp2_with fail
  clear hw1 HX
  obtain ⟨B, hB⟩ : ∃ A, w.heap.size = A := ⟨_, rfl⟩
  obtain ⟨C, hC⟩ : ∃ C, B + 1 = C := ⟨_, rfl⟩
  obtain ⟨D, hD⟩ : ∃ D, C + 1 = D := ⟨_, rfl⟩
  simp only [hB, hC, hD] at hX1 ⊢
  clear hB hC hD
  refine (HAW.out _ hX1.g.r.tab hX1.g.tab8).mono ?_
  rintro e w2 ⟨rfl, hb2⟩
  have hX2 := hX1.below hb2
  clear hb2 hX1 HAW
  have p0 : w2.cell? ⟨B, 0, none⟩ = some (.bool xa) := hX2.g.r.b.c 0
  have p1 : w2.cell? ⟨B, 1, none⟩ = some (.slice A1 pa.length c1) := hX2.g.r.b.c 1
  have p2 : w2.cell? ⟨B, 2, none⟩ = some (.bool xb) := hX2.g.r.b.c 2
  have p3 : w2.cell? ⟨B, 3, none⟩ = some (.slice A2 pb.length c2) := hX2.g.r.b.c 3
  go_wp2_with fail
  refine (HFE.out _ hX2.g.r.t hX2.g.r.l).mono ?_
  rintro e w3 ⟨rfl, hb3⟩
  have hX3 := hX2.below hb3
  clear hb3 hX2 p0 p1 p2 p3 HFE
  cases hfe : fewM pa l with
  | false =>
    go_wp2_with fail
    go_ret
    exact ⟨rfl, hX3.g.r.bel⟩
  | true =>
  have HF := Lib.hid (fewM_is hfe)
  clear hfe
  have p1 : w3.cell? ⟨B, 1, none⟩ = some (.slice A1 pa.length c1) := hX3.g.r.b.c 1
  go_upto_region 3 with fail
  by_cases q1 : 49 < pa.length
  · have q1' : (49 : Int) < (pa.length : Int) := by omega
    go_wp2_with fail
    go_ret
    exact ⟨rfl, hX3.g.r.bel⟩
  have q1' : ¬ (49 : Int) < (pa.length : Int) := by omega
  by_cases q2 : 300 < t.length
  · have q2' : (300 : Int) < (t.length : Int) := by omega
    go_wp2_with fail
    go_ret
    exact ⟨rfl, hX3.g.r.bel⟩
  have q2' : ¬ (300 : Int) < (t.length : Int) := by omega
  have Q1 : Hid (pa.length ≤ 49) := Lib.hid (by omega)
  have Q2 : Hid (t.length ≤ 300) := Lib.hid (by omega)
  clear q1 q2
  have y0 := hX3.g.r.y.c0; have y1 := hX3.g.r.y.c1; have y2 := hX3.g.r.y.c2; have y3 := hX3.g.r.y.c3; have y4 := hX3.g.r.y.c4; have y5 := hX3.g.r.y.c5; have y6 := hX3.g.r.y.c6
  go_wp2_with fail
  refine (HSM.out _).mono ?_
  rintro e w4 ⟨rfl, hb4⟩
  have hX4 := hX3.below hb4
  clear hb4 hX3 y0 y1 y2 y3 y4 y5 y6 p1 HSM
  cases hsm : smM me with
  | false =>
    go_wp2_with fail
    go_ret
    exact ⟨rfl, hX4.g.r.bel⟩
  | true =>
  have HM := Lib.hid hsm
  clear hsm
  obtain ⟨y0, y1, y2, y3, y4, y5, y6⟩ := hX4.x.all
  go_wp2_with fail
  refine (HSO.out _).mono ?_
  rintro e w5 ⟨rfl, hb5⟩
  have hX5 := hX4.below hb5
  clear hb5 hX4 y0 y1 y2 y3 y4 y5 y6 HSO
  cases hso : smM o with
  | false =>
    go_wp2_with fail
    go_ret
    exact ⟨rfl, hX5.g.r.bel⟩
  | true =>
  have HO := Lib.hid hso
  clear hso q1' q2'
  have p0 : w5.cell? ⟨B, 0, none⟩ = some (.bool xa) := hX5.g.r.b.c 0
  have p1 : w5.cell? ⟨B, 1, none⟩ = some (.slice A1 pa.length c1) := hX5.g.r.b.c 1
  have p2 : w5.cell? ⟨B, 2, none⟩ = some (.bool xb) := hX5.g.r.b.c 2
  have p3 : w5.cell? ⟨B, 3, none⟩ = some (.slice A2 pb.length c2) := hX5.g.r.b.c 3
  have y0 := hX5.g.r.y.c0; have y1 := hX5.g.r.y.c1; have y2 := hX5.g.r.y.c2; have y3 := hX5.g.r.y.c3; have y4 := hX5.g.r.y.c4; have y5 := hX5.g.r.y.c5; have y6 := hX5.g.r.y.c6
  go_wp2_with fail
  refine (D1.out _ hX5.g.r.tab hX5.g.tab8 HF.out HM.out hX5.g.r.t hX5.g.r.l).mono ?_
  rintro e w6 ⟨rfl, hb6⟩
  have hX6 := hX5.below hb6
  clear hb6 hX5 p0 p1 p2 p3 y0 y1 y2 y3 y4 y5 y6 D1
  have p0 : w6.cell? ⟨B, 0, none⟩ = some (.bool xa) := hX6.g.r.b.c 0
  have p1 : w6.cell? ⟨B, 1, none⟩ = some (.slice A1 pa.length c1) := hX6.g.r.b.c 1
  have p2 : w6.cell? ⟨B, 2, none⟩ = some (.bool xb) := hX6.g.r.b.c 2
  have p3 : w6.cell? ⟨B, 3, none⟩ = some (.slice A2 pb.length c2) := hX6.g.r.b.c 3
  have B7 : Below w6.heap.size w6 (w6.alloc (.cells #[.bool xa, .slice A1 pa.length c1, .bool xb, .slice A2 pb.length c2] 36)) := (Below.refl _ _).alloc (Nat.le_refl _) _
  have hQ7 := CBox.new w6 36 #[.bool xa, .slice A1 pa.length c1, .bool xb, .slice A2 pb.length c2]
  obtain ⟨w7, hw7⟩ : ∃ W, w6.alloc (.cells #[.bool xa, .slice A1 pa.length c1, .bool xb, .slice A2 pb.length c2] 36) = W := ⟨_, rfl⟩
  have hz7 : w7.heap.size = w6.heap.size + 1 := by rw [← hw7]; simp
  rw [hw7] at B7 hQ7
  have hX7 := hX6.below B7
  obtain ⟨Q, hQ⟩ : ∃ Q, w6.heap.size = Q := ⟨_, rfl⟩
  have HQZ : Hid (w6.heap.size = Q ∧ w7.heap.size = Q + 1) := Lib.hid ⟨hQ, by rw [hz7, hQ]⟩
  rw [hQ] at hQ7
  go_upto_region 7 with fail
  clear hw7 hz7 p0 p1 p2 p3
  have p1 := fun ob => (show (w7.alloc ob).cell? ⟨B, 1, none⟩ = some (.slice A1 pa.length c1) from (hX7.alloc ob).g.r.b.c 1)
  have HX7 := Lib.hid hX7; have HB7 := Lib.hid B7; have HQ7 := Lib.hid hQ7
  go_upto_region 8 with (first
    | (at_builtin; refine wp_appT rfl _ _ rfl w7.heap.size _ ([] ++ pa) [t] rfl (World.ownsRow.alloc hown8 _) _ _ rfl (seen_one _ _) (by have := Q1.out; unfold maxLen; simp; omega) (by have := Q1.out; simp; omega) (by have := hb8.size; simp at this ⊢; omega) ?_; intro v9 w9 hown9 hg9 hb9; obtain ⟨A9, c9, rfl, hcap9⟩ := own_cap hown9; have hQ9 : CBox w9 Q 36 #[.bool xa, .slice A1 pa.length c1, .bool xb, .slice A2 pb.length c2] := ((((HQ7.out.alloc _).below hb8 (by have := HQZ.out.2; omega)).alloc _).below hb9 (by have := HQZ.out.2; omega)); have fq := hQ9.fr 1; have cq := hQ9.c 1)
    | (at_builtin; refine wp_appT rfl _ _ rfl w7.heap.size _ [] pa rfl (OwnT.none (World.alloc_heap_new w7 _) (Nat.le_refl _)) A1 c1 rfl (hX7.alloc _).g.r.t (by have := Q1.out; unfold maxLen; simp; omega) (by have := Q1.out; simp; omega) (by simp) ?_; intro v8 w8 hown8 hg8 hb8)
    | fail)
  have B10 : Below w6.heap.size w6 (w9.setCell ⟨Q, 1, none⟩ (.slice A9 (([] ++ pa) ++ [t]).length c9)) := by
    have h1 := HB7.out
    have hz1 := HQZ.out.1; have hz2 := HQZ.out.2
    have h2 : Below w6.heap.size w6 w8 := (below_al2 h1 h1.size _).trans (hb8.mono h1.size)
    have h3 : Below w6.heap.size w6 w9 := (below_al2 h2 h2.size _).trans (hb9.mono h1.size)
    exact h3.setCell (p := ⟨Q, 1, none⟩) (by show w6.heap.size ≤ Q; omega) _
  have hQ10 : CBox (w9.setCell ⟨Q, 1, none⟩ (.slice A9 (([] ++ pa) ++ [t]).length c9)) Q 36 #[.bool xa, .slice A9 (([] ++ pa) ++ [t]).length c9, .bool xb, .slice A2 pb.length c2] := hQ9.set (i := 1) _
  have hT10 : SeenT (w9.setCell ⟨Q, 1, none⟩ (.slice A9 (([] ++ pa) ++ [t]).length c9)) A9 (([] ++ pa) ++ [t]) := ((own_texts hown9).kept (KeptT.box (by decide) hQ9 (g_set (g_refl w9 (some Q)) _ (.inr rfl)))).seen
  have hlen10 : (([] ++ pa) ++ [t]).length = pa.length + 1 := by simp
  rw [hlen10] at B10 hQ10 hT10
  have hX10 := hX6.below B10
  obtain ⟨w10, hw10⟩ : ∃ W, w9.setCell ⟨Q, 1, none⟩ (.slice A9 (pa.length + 1) c9) = W := ⟨_, rfl⟩
  rw [hw10] at hX10 hQ10 hT10
  rw [List.nil_append] at hT10
  have n0 := hQ10.c 0; have n1 := hQ10.c 1; have n2 := hQ10.c 2; have n3 := hQ10.c 3
  have y0 := hX10.g.r.y.c0; have y1 := hX10.g.r.y.c1; have y2 := hX10.g.r.y.c2; have y3 := hX10.g.r.y.c3; have y4 := hX10.g.r.y.c4; have y5 := hX10.g.r.y.c5; have y6 := hX10.g.r.y.c6
  clear hX6 hX7 hQ7 B7 p1 HX7 HB7 HQ7 hown8 hg8 hb8 hown9 hg9 hb9 hcap9 hQ9 fq cq B10 hQ10 hlen10 hQ HQZ
  go_wp2_with fail
  refine (D2.out _ A9 c9 hX10.g.r.tab hX10.g.tab8 HF.out HM.out Q2.out hT10 hX10.g.r.l).mono ?_
  rintro e w11 ⟨rfl, hb11⟩
  have hX11 := hX10.below hb11
  clear hw10 hb11 hX10 hT10 n0 n1 n2 n3 y0 y1 y2 y3 y4 y5 y6 D2
  have hb0 : Below w11.heap.size w11 w11 := Below.refl _ _
  have hnl := HNL.out
  have hna : l.length ≤ 50 := HF.out.na
  have h63 : l.length ≤ maxLen := by unfold maxLen; omega
  have hm63 : l.length + 1 ≤ maxLen := by unfold maxLen; omega
  have hby1 : l.length * 64 ≤ 140737488355328 := by omega
  have hby2 : (l.length + 1) * 64 ≤ 140737488355328 := by omega
  have hse : ∀ W, Below w11.heap.size w11 W → SeenOs W A l := fun W hb => (hX11.below hb).g.r.l
  go_upto_region 9 with fail
  go_cut [16] from 63 to 71 (fun v wx => v = .bool (va && vd) ∧ Hid (RdyH w B C D ⟨xa, pa, xb, pb⟩ A1 c1 A2 c2 me o A l wx))
  case first =>
    go_region_held_law (fun W => W.cell? ⟨B, 0, none⟩ = some (.bool xa) ∧ W.cell? ⟨B, 1, none⟩ = some (.slice A1 pa.length c1) ∧ W.cell? ⟨B, 2, none⟩ = some (.bool xb) ∧ W.cell? ⟨B, 3, none⟩ = some (.slice A2 pb.length c2) ∧ W.cell? ⟨C, 0, none⟩ = some (.bool me.op) ∧ W.cell? ⟨C, 1, none⟩ = some (.int .i64 me.id) ∧ W.cell? ⟨C, 2, none⟩ = some (.string (bA me.scheme)) ∧ W.cell? ⟨C, 3, none⟩ = some (.string (bA me.host.name)) ∧ W.cell? ⟨C, 4, none⟩ = some (.bool me.host.v4) ∧ W.cell? ⟨C, 5, none⟩ = some (.int .u32 me.host.addr) ∧ W.cell? ⟨C, 6, none⟩ = some (.int .i64 me.port) ∧ W.cell? ⟨D, 0, none⟩ = some (.bool o.op) ∧ W.cell? ⟨D, 1, none⟩ = some (.int .i64 o.id) ∧ W.cell? ⟨D, 2, none⟩ = some (.string (bA o.scheme)) ∧ W.cell? ⟨D, 3, none⟩ = some (.string (bA o.host.name)) ∧ W.cell? ⟨D, 4, none⟩ = some (.bool o.host.v4) ∧ W.cell? ⟨D, 5, none⟩ = some (.int .u32 o.host.addr) ∧ W.cell? ⟨D, 6, none⟩ = some (.int .i64 o.port) ∧ RdyH w B C D ⟨xa, pa, xb, pb⟩ A1 c1 A2 c2 me o A l W)
      (first
        | exact hX7.cs
        | exact (hX11.below hb6).cs
        | exact (hX11.below hb6).drew.cs
        | exact (hX11.below (below_al2 hb4 hb4.size _)).cs
        | exact (hX11.below (below_al2 hb4 hb4.size _)).drew.cs
        | exact (hX11.below hb4).cs
        | exact (hX11.below hb4).drew.cs
        | exact (hX11.below (below_al2 (below_al2 hb0 (Nat.le_refl _) _) (below_al2 hb0 (Nat.le_refl _) _).size _)).drew.cs
        | exact (hX11.below (below_al2 (below_al2 hb0 (Nat.le_refl _) _) (below_al2 hb0 (Nat.le_refl _) _).size _)).cs
        | exact (hX11.below (below_al2 hb0 (Nat.le_refl _) _)).drew.cs
        | exact (hX11.below (below_al2 hb0 (Nat.le_refl _) _)).cs
        | exact hX11.drew.cs
        | exact hX11.cs)
      (first
        | (go_at_call 20; refine (D3.out _ A6 c6 (hX11.below hb6).g.r.tab (hX11.below hb6).g.tab8 HF.out HM.out HO.out (hX11.below hb6).g.r.t hown6.seen).mono ?_; rintro e w7 ⟨rfl, hb7⟩; have hX7 := (hX11.below hb6).below hb7)
        | (refine step_appO rfl _ _ rfl w11.heap.size _ l [o] rfl (World.ownsRow.alloc hown4 _) _ 1 _ (l.length + 1) rfl rfl (fun e => by cases e) (seen_org w4 o) rfl hm63 hby2 (below_al2 hb4 hb4.size _).size ?_; intro A6 c6 w6' hown6 hg6 hbb6; have hb6 := (below_al2 hb4 hb4.size _).trans hbb6)
        | (refine step_appO rfl _ _ rfl w11.heap.size _ l [o] rfl hown4 _ 1 _ (l.length + 1) rfl rfl (fun e => by cases e) (orgs_kept (hp_second w11 _ _) hg4 (fun e => Nat.succ_ne_self _ (Option.some.inj e))) rfl hm63 hby2 hb4.size ?_; intro A6 c6 w6' hown6 hg6 hbb6; have hb6 := hb4.trans hbb6)
        | (refine step_appO rfl _ _ rfl w11.heap.size _ l [o] rfl hown4 _ 1 _ (l.length + 1) rfl rfl (fun e => by cases e) (orgs_kept (hp_first w11 _ _) hg4 (fun e => Nat.succ_ne_self _ (Option.some.inj e).symm)) rfl hm63 hby2 hb4.size ?_; intro A6 c6 w6' hown6 hg6 hbb6; have hb6 := hb4.trans hbb6)
        | (refine step_appO rfl _ _ rfl w11.heap.size _ [] l rfl (OwnO.none (World.alloc_heap_new w11 _) (Nat.le_refl _)) A l.length c l.length rfl rfl hnl (hse _ (below_al2 hb0 (Nat.le_refl _) _).drew) (Nat.zero_add _) h63 hby1 (below_al2 hb0 (Nat.le_refl _) _).drew.size ?_; intro A4 c4 w4 hown4 hg4 hbb4; have hb4 := (below_al2 hb0 (Nat.le_refl _) _).drew.trans hbb4)
        | (refine step_appO rfl _ _ rfl w11.heap.size _ [] l rfl (OwnO.none (hp_first w11 _ _) (Nat.le_refl _)) A l.length c l.length rfl rfl hnl (hse _ (below_al2 (below_al2 hb0 (Nat.le_refl _) _) (below_al2 hb0 (Nat.le_refl _) _).size _).drew) (Nat.zero_add _) h63 hby1 (below_al2 (below_al2 hb0 (Nat.le_refl _) _) (below_al2 hb0 (Nat.le_refl _) _).size _).drew.size ?_; intro A4 c4 w4 hown4 hg4 hbb4; have hb4 := (below_al2 (below_al2 hb0 (Nat.le_refl _) _) (below_al2 hb0 (Nat.le_refl _) _).size _).drew.trans hbb4)
        | (refine step_appO rfl _ _ rfl w11.heap.size _ [] l rfl (OwnO.none (hp_second w11 _ _) (Nat.le_succ _)) A l.length c l.length rfl rfl hnl (hse _ (below_al2 (below_al2 hb0 (Nat.le_refl _) _) (below_al2 hb0 (Nat.le_refl _) _).size _).drew) (Nat.zero_add _) h63 hby1 (below_al2 (below_al2 hb0 (Nat.le_refl _) _) (below_al2 hb0 (Nat.le_refl _) _).size _).drew.size ?_; intro A4 c4 w4 hown4 hg4 hbb4; have hb4 := (below_al2 (below_al2 hb0 (Nat.le_refl _) _) (below_al2 hb0 (Nat.le_refl _) _).size _).drew.trans hbb4))
    all_goals
      go_wp2_with fail
      go_meet
      exact ⟨rfl, Lib.hid hX7⟩
  case rest =>
  obtain ⟨rfl, HX12⟩ := hcut
  have hX12 := HX12.out
  clear HX12 hX11 hb0 hnl hna h63 hm63 hby1 hby2 hse D3
  have p0 : wc.cell? ⟨B, 0, none⟩ = some (.bool xa) := hX12.g.r.b.c 0
  have p1 : wc.cell? ⟨B, 1, none⟩ = some (.slice A1 pa.length c1) := hX12.g.r.b.c 1
  have p2 : wc.cell? ⟨B, 2, none⟩ = some (.bool xb) := hX12.g.r.b.c 2
  have p3 : wc.cell? ⟨B, 3, none⟩ = some (.slice A2 pb.length c2) := hX12.g.r.b.c 3
  have y0 := hX12.g.r.y.c0; have y1 := hX12.g.r.y.c1; have y2 := hX12.g.r.y.c2; have y3 := hX12.g.r.y.c3; have y4 := hX12.g.r.y.c4; have y5 := hX12.g.r.y.c5; have y6 := hX12.g.r.y.c6
  have x0 := hX12.x.c0; have x1 := hX12.x.c1; have x2 := hX12.x.c2; have x3 := hX12.x.c3; have x4 := hX12.x.c4; have x5 := hX12.x.c5; have x6 := hX12.x.c6
  go_wp2_with fail
  refine (D4.out _ _ _ (hX12.alloc _).g.r.tab (hX12.alloc _).g.tab8 HF.out HM.out HO.out (hX12.alloc _).g.r.t (seen_org _ _)).mono ?_
  rintro e w13 ⟨rfl, hb13⟩
  have hbel := ((hX12.alloc _).below hb13).g.r.bel
  clear hX12 hb13 p0 p1 p2 p3 y0 y1 y2 y3 y4 y5 y6 x0 x1 x2 x3 x4 x5 x6 D4
  have hmo := HMO.out
  cases va with
  | false =>
    cases vb <;> cases vd
    all_goals
      go_wp2_with fail
      go_ret
      exact ⟨rfl, hbel⟩
  | true =>
    obtain rfl : vb = true := hmo rfl
    cases vd
    all_goals
      go_wp2_with fail
      go_ret
      exact ⟨rfl, hbel⟩
end Go.Proofs.YtinjkpbpkedfnaaGreatDoor
