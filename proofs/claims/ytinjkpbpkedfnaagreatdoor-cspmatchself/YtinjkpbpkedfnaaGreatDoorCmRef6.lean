/- The contracts of the document's hosted and Match. -/
import Derived.Test.YtinjkpbpkedfnaaGreatDoorCmRef5
import Derived.Deep.Cut
import Derived.Deep.CutRange
import Derived.Deep.RegionHeld3
namespace Go.Proofs.YtinjkpbpkedfnaaGreatDoor
open Go.RowKit
open Urp (sHttp sHttps)

theorem tab_below {w w' : World} (h : Tab w) (hb : Below w.heap.size w w') : Tab w' := h.below hb
/-- What stands while a source expression is held against an origin: the blocks of the three arguments. -/
structure RdyM (w0 : World) (A B C : Nat) (s : Cm.Src) (o me : Orig) (W : World) : Prop where
  bel : Below w0.heap.size w0 W
  s : CBox W A 24 (srcC s)
  x : OBox W B o
  y : OBox W C me
  tab : Tab W
theorem RdyM.below {w0 : World} {A B C : Nat} {s : Cm.Src} {o me : Orig} {W W' : World} (h : RdyM w0 A B C s o me W) (hb : Below W.heap.size W W') : RdyM w0 A B C s o me W' := ⟨Below.onto h.bel hb, h.s.keep hb, h.x.keep hb, h.y.keep hb, tab_below h.tab hb⟩
theorem RdyM.drew {w0 : World} {A B C : Nat} {s : Cm.Src} {o me : Orig} {W : World} (h : RdyM w0 A B C s o me W) : RdyM w0 A B C s o me W.drew := h.below (Below.refl _ _).drew
theorem RdyM.mk0 (w : World) (s : Cm.Src) (o me : Orig) (hT : Tab w) : RdyM w w.heap.size (w.heap.size + 1) (w.heap.size + 1 + 1) s o me (((w.alloc (.cells (srcC s) 24)).alloc (.cells (oCells o) 31)).alloc (.cells (oCells me) 31)) := by
  have hb : Below w.heap.size w (((w.alloc (.cells (srcC s) 24)).alloc (.cells (oCells o) 31)).alloc (.cells (oCells me) 31)) := (((Below.refl _ w).alloc (Nat.le_refl _) _).alloc (by simp) _).alloc (by simp; omega) _
  refine ⟨hb, ((CBox.new w _ _).alloc _).alloc _, ?_, ?_, tab_below hT hb⟩
  · have := (OBox.new (w.alloc (.cells (srcC s) 24)) o).alloc (.cells (oCells me) 31)
    simpa using this
  · have := OBox.new ((w.alloc (.cells (srcC s) 24)).alloc (.cells (oCells o) 31)) me
    simpa using this
/-- The cells that the region of the host's test loads. -/
theorem RdyM.cs {w0 : World} {A B C : Nat} {s : Cm.Src} {o me : Orig} {W : World} (h : RdyM w0 A B C s o me W) : W.cell? ⟨A, 2, none⟩ = some (.string (bA s.host)) ∧ W.cell? ⟨B, 3, none⟩ = some (.string (bA o.host.name)) ∧ W.cell? ⟨B, 4, none⟩ = some (.bool o.host.v4) ∧ W.cell? ⟨B, 5, none⟩ = some (.int .u32 o.host.addr) ∧ RdyM w0 A B C s o me W :=
  ⟨h.s.c 2, h.x.c3, h.x.c4, h.x.c5, h⟩
theorem port_ways : ∀ p1 p2 p3 d p4 p5 p6 : Bool, p1 = true ∨ (p1 = false ∧ p2 = true) ∨ (p1 = false ∧ p2 = false ∧ p3 = true ∧ d = true) ∨ (p1 = false ∧ p2 = false ∧ p3 = true ∧ d = false ∧ p4 = false) ∨ (p1 = false ∧ p2 = false ∧ p3 = true ∧ d = false ∧ p4 = true ∧ p5 = false) ∨ (p1 = false ∧ p2 = false ∧ p3 = true ∧ d = false ∧ p4 = true ∧ p5 = true ∧ (p6 = true ∨ p6 = false)) ∨ (p1 = false ∧ p2 = false ∧ p3 = false ∧ p4 = false) ∨ (p1 = false ∧ p2 = false ∧ p3 = false ∧ p4 = true ∧ p5 = false) ∨ (p1 = false ∧ p2 = false ∧ p3 = false ∧ p4 = true ∧ p5 = true ∧ (p6 = true ∨ p6 = false)) := by
  intro p1 p2 p3 d p4 p5 p6
  cases p1 <;> cases p2 <;> cases p3 <;> cases d <;> cases p4 <;> cases p5 <;> cases p6 <;> simp
set_option maxHeartbeats 8000000 in
set_option maxRecDepth 20000 in
theorem rhosted_any (s : Cm.Src) (o me : Orig) (w : World) (hT : Tab w) (a0 : 0 ≤ o.host.addr) (a1 : o.host.addr ≤ 4294967295) (h1 : s.host.length ≤ 100000000) (h2 : (textL o.host).length ≤ 100000000) :
    Calls Tryz.prog 45 #[srcV s, origV o, origV me] w fun e w' => e = .returned (.bool (Cm.schemeB s o me && (Cm.hostB s.host (textL o.host) && Cm.portB s o))) ∧ Below w.heap.size w w' := by
  have HX := Lib.hid (RdyM.mk0 w s o me hT)
  have HT1 := Lib.hid (fun W => rtog_any me.scheme o.scheme W)
  have HT2 := Lib.hid (fun W => rtog_any s.scheme o.scheme W)
  have HOW := Lib.hid (fun W => rown_any o W)
  have htx : ∀ W : World, Tab W → Calls Tryz.prog 78 #[.agg #[.string (bA o.host.name), .bool o.host.v4, .int .u32 o.host.addr]] W fun e w' => e = .returned (.string (bA (textL o.host))) ∧ Below W.heap.size W w' := fun W hW => rtext_any (bA o.host.name) o.host.v4 o.host.addr W hW a0 a1
  have hho := fun W => rhost_any s.host (textL o.host) W h1 h2
  obtain ⟨b1, e1⟩ : ∃ b, Cm.hostB s.host (textL o.host) = b := ⟨_, rfl⟩
  obtain ⟨tx, e2⟩ : ∃ b, textL o.host = b := ⟨_, rfl⟩
  rw [e1] at hho ⊢
  rw [e2] at hho htx
  have HTX := Lib.hid htx; have HHO := Lib.hid hho
  clear htx hho e1 e2 a0 a1 h1 h2 hT
  obtain ⟨bs, ebs⟩ : ∃ b, Cm.schemeB s o me = b := ⟨_, rfl⟩
  obtain ⟨bp, ebp⟩ : ∃ b, Cm.portB s o = b := ⟨_, rfl⟩
  rw [ebs, ebp]
  have HBS := Lib.hid ebs; have HBP := Lib.hid ebp
  clear ebs ebp
  unfold srcV origV
  unfold srcC oCells at *
  go_enter Tryz.func45, Tryz.ntmps45
  obtain ⟨w1, hw1⟩ : ∃ W, ((w.alloc (.cells #[.int .i64 s.kind, .string (bA s.scheme), .string (bA s.host), .int .i64 s.port] 24)).alloc (.cells #[.bool o.op, .int .i64 o.id, .string (bA o.scheme), .string (bA o.host.name), .bool o.host.v4, .int .u32 o.host.addr, .int .i64 o.port] 31)).alloc (.cells #[.bool me.op, .int .i64 me.id, .string (bA me.scheme), .string (bA me.host.name), .bool me.host.v4, .int .u32 me.host.addr, .int .i64 me.port] 31) = W := ⟨_, rfl⟩
  have HX1 : Hid (RdyM w w.heap.size (w.heap.size + 1) (w.heap.size + 1 + 1) s o me w1) := Lib.hid (by rw [← hw1]; exact HX.out)
  go_upto_region 1 with fail
  clear hw1 HX
  obtain ⟨A, hA⟩ : ∃ A, w.heap.size = A := ⟨_, rfl⟩
  obtain ⟨B, hB⟩ : ∃ B, A + 1 = B := ⟨_, rfl⟩
  obtain ⟨C, hC⟩ : ∃ C, B + 1 = C := ⟨_, rfl⟩
  simp only [hA, hB, hC] at HX1 ⊢
  clear hA hB hC
  obtain ⟨x0, x1, x2, x3, x4, x5, x6⟩ := HX1.out.x.all
  obtain ⟨y0, y1, y2, y3, y4, y5, y6⟩ := HX1.out.y.all
  obtain ⟨s0, s1, s2, s3, s4, s5, s6, s7⟩ := HX1.out.s.all4
  go_cut [7] from 11 to 18 (fun v wx => v = .bool (Urp.netB o.scheme) ∧ wx = w1)
  case first =>
    have hnet : Urp.netB o.scheme = (o.scheme == sHttp || o.scheme == sHttps) := rfl
    obtain ⟨x, q1⟩ : ∃ x, (o.scheme == sHttp) = x := ⟨_, rfl⟩
    obtain ⟨y, q2⟩ : ∃ x, (o.scheme == sHttps) = x := ⟨_, rfl⟩
    rw [q1, q2] at hnet
    have HN := Lib.hid hnet
    clear hnet
    unfold sHttp at q1
    unfold sHttps at q2
    cases x <;> cases y
    all_goals
      go_wp2_with fail
      go_meet
      exact ⟨by rw [HN.out]; rfl, rfl⟩
  case rest =>
  obtain ⟨rfl, rfl⟩ := hcut
  go_upto_if 21 with fail
  go_cut [2, 7] from 19 to 26 (fun _ v wx => v = .bool (if me.op then Urp.netB o.scheme else Cm.tog me.scheme o.scheme) ∧ wx = wc)
  case first =>
    cases hq : me.op with
    | true =>
      go_wp2_with fail
      go_meet
      exact ⟨by rw [hq]; rfl, rfl⟩
    | false =>
      go_wp2_with fail
      refine (HT1.out _).mono ?_
      rintro e w2 ⟨rfl, rfl⟩
      go_wp2_with fail
      go_meet
      exact ⟨by rw [hq]; rfl, rfl⟩
  case rest =>
  obtain ⟨rfl, rfl⟩ := hcut
  have hbs : Cm.schemeB s o me = if s.scheme = [] then (if me.op then Urp.netB o.scheme else Cm.tog me.scheme o.scheme) else Cm.tog s.scheme o.scheme := rfl
  rw [HBS.out] at hbs
  obtain ⟨z, hz⟩ : ∃ z, (if me.op then Urp.netB o.scheme else Cm.tog me.scheme o.scheme) = z := ⟨_, rfl⟩
  rw [hz] at hbs ⊢
  have HZ := Lib.hid hbs
  clear hz hbs HT1
  go_upto_if 29 with fail
  go_cut [7] from 27 to 34 (fun v wx => v = .bool bs ∧ wx = wc)
  case first =>
    have hz := HZ.out
    cases q : s.scheme.isEmpty with
    | true =>
      rw [if_pos (List.isEmpty_iff.1 q)] at hz
      subst hz
      go_wp2_with fail
      go_meet
      exact ⟨rfl, rfl⟩
    | false =>
      rw [if_neg (fun e => by rw [e] at q; cases q)] at hz
      subst hz
      go_wp2_with fail
      refine (HT2.out _).mono ?_
      rintro e w2 ⟨rfl, rfl⟩
      go_wp2_with fail
      go_meet
      exact ⟨rfl, rfl⟩
  case rest =>
  obtain ⟨rfl, rfl⟩ := hcut
  clear HZ HT2 HBS x0 x1 x2 x3 x4 x5 x6 y0 y1 y2 y3 y4 y5 y6 s0 s1 s2 s3 s4 s5 s6 s7
  have hR1 := HX1.out
  go_upto_region 6 with fail
  go_cut [8] from 35 to 40 (fun v wx => v = .bool b1 ∧ Hid (RdyM w A B C s o me wx))
  case first =>
    go_region_held3 (fun w' => w'.cell? ⟨A, 2, none⟩ = some (.string (bA s.host)) ∧ w'.cell? ⟨B, 3, none⟩ = some (.string (bA o.host.name)) ∧ w'.cell? ⟨B, 4, none⟩ = some (.bool o.host.v4) ∧ w'.cell? ⟨B, 5, none⟩ = some (.int .u32 o.host.addr) ∧ RdyM w A B C s o me w')
      (first
        | exact hR2.cs
        | exact hR1.drew.cs
        | exact hR1.cs)
      (first
        | (go_at_call 78; refine (HTX.out _ hR1.drew.tab).mono ?_; rintro e w2 ⟨rfl, hb2⟩; have hR2 := RdyM.below hR1.drew hb2)
        | (go_at_call 77; refine (HHO.out _).mono ?_; rintro e w3 ⟨rfl, rfl⟩))
    go_wp2_with fail
    go_meet
    exact ⟨rfl, Lib.hid hR2⟩
  case rest =>
  obtain ⟨rfl, HX2⟩ := hcut
  clear HX1 hR1 HTX HHO
  have x := HX2.out.x.all
  obtain ⟨x0, x1, x2, x3, x4, x5, x6⟩ := x
  unfold origV oCells at HOW
  go_wp2_with fail
  refine (HOW.out _).mono ?_
  rintro e w3 ⟨rfl, hb3⟩
  have HX3 := Lib.hid (HX2.out.below hb3)
  have hbp : ((s.port == -2 || s.port == o.port) || ((s.port == -1 && Cm.dflt o) || (s.port == 80 && (o.scheme == sHttps && o.port == 443)))) = bp := HBP.out
  obtain ⟨d, hd⟩ : ∃ d, Cm.dflt o = d := ⟨_, rfl⟩
  obtain ⟨p1, q1⟩ : ∃ d, (s.port == -2) = d := ⟨_, rfl⟩
  obtain ⟨p2, q2⟩ : ∃ d, (s.port == o.port) = d := ⟨_, rfl⟩
  obtain ⟨p3, q3⟩ : ∃ d, (s.port == -1) = d := ⟨_, rfl⟩
  obtain ⟨p4, q4⟩ : ∃ d, (s.port == 80) = d := ⟨_, rfl⟩
  obtain ⟨p5, q5⟩ : ∃ d, (o.scheme == sHttps) = d := ⟨_, rfl⟩
  obtain ⟨p6, q6⟩ : ∃ d, (o.port == 443) = d := ⟨_, rfl⟩
  rw [hd, q1, q2, q3, q4, q5, q6] at hbp
  rw [hd]
  have HBB := Lib.hid hbp
  unfold sHttps at q5
  clear hb3 hd hbp HBP HOW HX2 x0 x1 x2 x3 x4 x5 x6
  obtain ⟨x0, x1, x2, x3, x4, x5, x6⟩ := HX3.out.x.all
  obtain ⟨s0, s1, s2, s3, s4, s5, s6, s7⟩ := HX3.out.s.all4
  go_upto_region 8 with fail
  go_cut [10] from 43 to 75 (fun v wx => v = .bool bp ∧ wx = w3)
  case first =>
    rcases port_ways p1 p2 p3 d p4 p5 p6 with rfl | ⟨rfl, rfl⟩ | ⟨rfl, rfl, rfl, rfl⟩ | ⟨rfl, rfl, rfl, rfl, rfl⟩ | ⟨rfl, rfl, rfl, rfl, rfl, rfl⟩ | ⟨rfl, rfl, rfl, rfl, rfl, rfl, rfl | rfl⟩ | ⟨rfl, rfl, rfl, rfl⟩ | ⟨rfl, rfl, rfl, rfl, rfl⟩ | ⟨rfl, rfl, rfl, rfl, rfl, rfl | rfl⟩
    all_goals
      go_wp2_with fail
      go_meet
      exact ⟨by rw [← HBB.out]; simp, rfl⟩
  case rest =>
  obtain ⟨rfl, rfl⟩ := hcut
  clear HBB q1 q2 q3 q4 q5 q6 x0 x1 x2 x3 x4 x5 x6 s0 s1 s2 s3 s4 s5 s6 s7
  have hbel := HX3.out.bel
  clear HX3
  cases bs <;> cases b1 <;> cases bp
  all_goals
    go_wp2_with fail
    go_ret
    exact ⟨rfl, hbel⟩
end Go.Proofs.YtinjkpbpkedfnaaGreatDoor
