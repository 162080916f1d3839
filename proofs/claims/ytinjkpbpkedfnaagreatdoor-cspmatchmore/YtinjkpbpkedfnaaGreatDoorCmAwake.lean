/- The contracts of the statements' of, and of their head (awake). -/
import Derived.Test.YtinjkpbpkedfnaaGreatDoorCmCode
import Derived.Test.YtinjkpbpkedfnaaGreatDoorOrigAll
import Derived.Test.YtinjkpbpkedfnaaGreatDoorCmMathAll
import Derived.Deep.RegionHeldLaw
namespace Go.Proofs.YtinjkpbpkedfnaaGreatDoor
open Go.RowKit Go.Deep

set_option maxHeartbeats 1000000 in
theorem cmOf_any (l : List UInt8) (w : World) (hl : l.length ≤ 4000) (hT : Tab8 w) : Calls Tryz.prog 26 #[.string (bA l)] w fun e w' => e = .returned (origV (ofO (getU (Urp.parse l)) 0)) ∧ Below w.heap.size w w' := by
  have hb0 : Below w.heap.size w (w.alloc (.cells (oCells zeroO) 31)) := (Below.refl _ w).alloc (Nat.le_refl _) _
  have HT8 := Lib.hid hT
  have HP := Lib.hid (uparse_any l _ hl (hT.below hb0))
  have q0 := OBox.new w zeroO
  have HQ := Lib.hid q0
  have HB := Lib.hid hb0
  unfold resV at HP
  obtain ⟨u, hu⟩ : ∃ u, getU (Urp.parse l) = u := ⟨_, rfl⟩
  obtain ⟨er, her⟩ : ∃ u, errU (Urp.parse l) = u := ⟨_, rfl⟩
  rw [hu] at HP ⊢
  rw [her] at HP
  have hrl : u.rest.length ≤ 4000 := by
    rw [← hu]
    exact rest_len l hl
  obtain ⟨o, ho⟩ : ∃ o, ofO u 0 = o := ⟨_, rfl⟩
  have HO := Lib.hid (fun W h => of_any u 0 W hrl h)
  rw [ho] at HO ⊢
  clear hT hb0 q0 hu her hrl ho
  unfold origV urlV uCells at HO
  unfold oCells at HO
  unfold urlV uCells at HP
  unfold oCells at HP HQ HB
  go_enter Tryz.func26, Tryz.ntmps26
  go_wp2_with fail
  refine HP.out.mono ?_
  rintro e w1 ⟨rfl, hb1⟩
  have b1 := below_on HB.out hb1
  have q1 := OBox.keep HQ.out hb1
  have b2 := b1.alloc (o := .cells (uCells u) 43) b1.size
  have q2 := q1.alloc (.cells (uCells u) 43)
  have HT2 := Lib.hid (HT8.out.below b2)
  clear hb1 b1 q1
  go_wp2_with fail
  refine (HO.out _ HT2.out).mono ?_
  rintro e w3 ⟨rfl, hb3⟩
  have b3 := below_on b2 hb3
  have o3 := q2.keep hb3
  clear hb3 b2 q2
  have c0 := o3.c0; have c1 := o3.c1; have c2 := o3.c2; have c3 := o3.c3; have c4 := o3.c4; have c5 := o3.c5; have c6 := o3.c6
  have f := o3.fr
  go_wp2_with fail
  exact bodyPost_ret (results_orig rfl _ _ rfl (o3.set o)) rfl ⟨rfl, below_set7 b3 (Nat.le_refl _) o⟩
/-! ### what the document fixes -/
def cwA : List UInt8 := [104, 116, 116, 112, 115, 58, 47, 47, 97, 47]
def cwX : List UInt8 := [104, 116, 116, 112, 115, 58, 47, 47, 120, 46, 98, 47]
def cwB : List UInt8 := [104, 116, 116, 112, 115, 58, 47, 47, 98, 47]
def cwH : List UInt8 := [104, 116, 116, 112, 58, 47, 47, 97, 47]
def cwS : List UInt8 := [104, 116, 116, 112, 58, 47, 47, 42, 46, 66, 58, 56, 48]
def cwN : List UInt8 := [39, 110, 111, 110, 101, 39]
def cwP : List UInt8 := [42, 46, 98]
def oA : Orig := ⟨false, 0, [104, 116, 116, 112, 115], ⟨[97], false, 0⟩, 443⟩
def oX : Orig := ⟨false, 0, [104, 116, 116, 112, 115], ⟨[120, 46, 98], false, 0⟩, 443⟩
def oB : Orig := ⟨false, 0, [104, 116, 116, 112, 115], ⟨[98], false, 0⟩, 443⟩
def oH : Orig := ⟨false, 0, [104, 116, 116, 112], ⟨[97], false, 0⟩, 80⟩
def sS : Cm.Src := ⟨4, [104, 116, 116, 112], [42, 46, 98], 80⟩
theorem oA_is : ofO (getU (Urp.parse cwA)) 0 = oA := by rfl
theorem oX_is : ofO (getU (Urp.parse cwX)) 0 = oX := by rfl
theorem oB_is : ofO (getU (Urp.parse cwB)) 0 = oB := by rfl
theorem oH_is : ofO (getU (Urp.parse cwH)) 0 = oH := by rfl
theorem sS_is : Cm.parse cwS = sS := by rfl
theorem y1_is : Cm.anyB [cwN, cwP] oX oA = true := by decide +kernel
theorem y2_is : Cm.anyB [cwP] oB oA = false := by decide +kernel
theorem m1_is : Cm.matchB ⟨1, [], [], 0⟩ oA oA = true := by decide +kernel
theorem m2_is : Cm.matchB ⟨1, [], [], 0⟩ oH oA = false := by decide +kernel
theorem f1_is : Cm.framesB false [] oA [oA] = true := by decide +kernel
theorem f2_is : Cm.framesB true [] oA [oA] = false := by decide +kernel
theorem fitA : FitM oA := ⟨by decide, by decide, by decide, by decide⟩
theorem fitX : FitM oX := ⟨by decide, by decide, by decide, by decide⟩
theorem fitB : FitM oB := ⟨by decide, by decide, by decide, by decide⟩
theorem fitH : FitM oH := ⟨by decide, by decide, by decide, by decide⟩
theorem fitS1 : FitS ⟨1, [], [], 0⟩ := ⟨by decide, by decide⟩
/-- What stands while one's own origin lies in a block. -/
structure RdyW (w0 : World) (B : Nat) (o : Orig) (W : World) : Prop where
  bel : Below w0.heap.size w0 W
  x : OBox W B o
  tab : Tab W
  tab8 : Tab8 W
theorem RdyW.below {w0 : World} {B : Nat} {o : Orig} {W W' : World} (h : RdyW w0 B o W) (hb : Below W.heap.size W W') : RdyW w0 B o W' := ⟨Below.onto h.bel hb, h.x.keep hb, tab_below h.tab hb, h.tab8.below hb⟩
theorem RdyW.drew {w0 : World} {B : Nat} {o : Orig} {W : World} (h : RdyW w0 B o W) : RdyW w0 B o W.drew := h.below (Below.refl _ _).drew
theorem RdyW.alloc {w0 : World} {B : Nat} {o : Orig} {W : World} (h : RdyW w0 B o W) (x : Obj) : RdyW w0 B o (W.alloc x) := h.below ((Below.refl _ _).alloc (Nat.le_refl _) _)
theorem RdyW.cs {w0 : World} {B : Nat} {o : Orig} {W : World} (h : RdyW w0 B o W) :
    W.cell? ⟨B, 0, none⟩ = some (.bool o.op) ∧ W.cell? ⟨B, 1, none⟩ = some (.int .i64 o.id) ∧ W.cell? ⟨B, 2, none⟩ = some (.string (bA o.scheme)) ∧ W.cell? ⟨B, 3, none⟩ = some (.string (bA o.host.name)) ∧ W.cell? ⟨B, 4, none⟩ = some (.bool o.host.v4) ∧ W.cell? ⟨B, 5, none⟩ = some (.int .u32 o.host.addr) ∧ W.cell? ⟨B, 6, none⟩ = some (.int .i64 o.port) ∧ RdyW w0 B o W :=
  ⟨h.x.c0, h.x.c1, h.x.c2, h.x.c3, h.x.c4, h.x.c5, h.x.c6, h⟩
/-- A list of texts, just laid. -/
theorem seen_two (w : World) (a b : List UInt8) : SeenT (w.alloc (.cells #[.string (bA a), .string (bA b)] 9)) (some ⟨w.heap.size, 0, none⟩) [a, b] := fun _ =>
  ⟨w.heap.size, 0, rfl, by simp, fun i hi => by
    have hi' : i < 2 := hi
    match i, hi' with
    | 0, _ => exact (CBox.new w 9 #[.string (bA a), .string (bA b)]).c 0
    | 1, _ => exact (CBox.new w 9 #[.string (bA a), .string (bA b)]).c 1⟩
theorem seen_one (w : World) (a : List UInt8) : SeenT (w.alloc (.cells #[.string (bA a)] 9)) (some ⟨w.heap.size, 0, none⟩) [a] := fun _ =>
  ⟨w.heap.size, 0, rfl, by simp, fun i hi => by
    have hi' : i < 1 := hi
    match i, hi' with
    | 0, _ => exact (CBox.new w 9 #[.string (bA a)]).c 0⟩
theorem SeenT.drew {w : World} {A : Option Addr} {l : List (List UInt8)} (h : SeenT w A l) : SeenT w.drew A l := h
theorem SeenOs.drew {w : World} {A : Option Addr} {l : List Orig} (h : SeenOs w A l) : SeenOs w.drew A l := h
/-- A list of one origin, just laid. -/
theorem seen_org (w : World) (o : Orig) : SeenOs (w.alloc (.cells (oCells o) 31)) (some ⟨w.heap.size, 0, none⟩) [o] := fun _ =>
  ⟨w.heap.size, 0, rfl, by simp, fun i hi j hj => by
    have hi' : i < 1 := hi
    match i, hi' with
    | 0, _ =>
      have := (OBox.new w o).c j
      simp only [Nat.zero_mul, Nat.zero_add]
      exact this⟩
set_option maxHeartbeats 1500000 in
set_option maxRecDepth 100000 in
theorem awake11_any (w : World) (hT : Tab w) (hT8 : Tab8 w) : Calls Tryz.prog 11 #[] w fun e w' => e = .returned (.bool true) ∧ Below w.heap.size w w' := by
  have OA : ∀ W : World, Tab8 W → Calls Tryz.prog 26 #[.string (bA cwA)] W fun e w' => e = .returned (origV oA) ∧ Below W.heap.size W w' := fun W hW => by have h := cmOf_any cwA W (by decide) hW; rw [oA_is] at h; exact h
  have OX : ∀ W : World, Tab8 W → Calls Tryz.prog 26 #[.string (bA cwX)] W fun e w' => e = .returned (origV oX) ∧ Below W.heap.size W w' := fun W hW => by have h := cmOf_any cwX W (by decide) hW; rw [oX_is] at h; exact h
  have OB : ∀ W : World, Tab8 W → Calls Tryz.prog 26 #[.string (bA cwB)] W fun e w' => e = .returned (origV oB) ∧ Below W.heap.size W w' := fun W hW => by have h := cmOf_any cwB W (by decide) hW; rw [oB_is] at h; exact h
  have OH : ∀ W : World, Tab8 W → Calls Tryz.prog 26 #[.string (bA cwH)] W fun e w' => e = .returned (origV oH) ∧ Below W.heap.size W w' := fun W hW => by have h := cmOf_any cwH W (by decide) hW; rw [oH_is] at h; exact h
  have PS : ∀ W : World, Tab W → Tab8 W → Calls Tryz.prog 12 #[.string (bA cwS)] W fun e w' => e = .returned (srcV sS) ∧ Below W.heap.size W w' := fun W h1 h2 => by have h := cmParse_any cwS W h1 h2 (by decide); rw [sS_is] at h; exact h
  have Y1 : ∀ (W : World) (A : Option Addr) (c : Nat), Tab W → Tab8 W → SeenT W A [cwN, cwP] → Calls Tryz.prog 18 #[.slice A 2 c, origV oX, origV oA] W fun e w' => e = .returned (.bool true) ∧ Below W.heap.size W w' := fun W A c h1 h2 hs => by have h := cmAny_any A c [cwN, cwP] oX oA W h1 h2 fitX fitA (by decide) (by decide) hs; rw [y1_is] at h; exact h
  have Y2 : ∀ (W : World) (A : Option Addr) (c : Nat), Tab W → Tab8 W → SeenT W A [cwP] → Calls Tryz.prog 18 #[.slice A 1 c, origV oB, origV oA] W fun e w' => e = .returned (.bool false) ∧ Below W.heap.size W w' := fun W A c h1 h2 hs => by have h := cmAny_any A c [cwP] oB oA W h1 h2 fitB fitA (by decide) (by decide) hs; rw [y2_is] at h; exact h
  have M1 : ∀ W : World, Tab W → Tab8 W → Calls Tryz.prog 15 #[srcV ⟨1, [], [], 0⟩, origV oA, origV oA] W fun e w' => e = .returned (.bool true) ∧ Below W.heap.size W w' := fun W h1 h2 => by have h := cmMatch_any ⟨1, [], [], 0⟩ oA oA W h1 h2 fitS1 fitA fitA; rw [m1_is] at h; exact h
  have M2 : ∀ W : World, Tab W → Tab8 W → Calls Tryz.prog 15 #[srcV ⟨1, [], [], 0⟩, origV oH, origV oA] W fun e w' => e = .returned (.bool false) ∧ Below W.heap.size W w' := fun W h1 h2 => by have h := cmMatch_any ⟨1, [], [], 0⟩ oH oA W h1 h2 fitS1 fitH fitA; rw [m2_is] at h; exact h
  have F1 : ∀ (W : World) (A : Option Addr) (c : Nat), Tab W → Tab8 W → SeenOs W A [oA] → Calls Tryz.prog 20 #[.agg #[.bool false, .slice none 0 0, .bool false, .slice none 0 0], origV oA, .slice A 1 c] W fun e w' => e = .returned (.bool true) ∧ Below W.heap.size W w' := fun W A c h1 h2 hs => by have h := cmFrames_any ⟨false, [], false, []⟩ none 0 none 0 oA A c [oA] W h1 h2 fitA (fun o ho => by rw [List.mem_singleton.1 ho]; exact fitA) (by decide) (by decide) (fun _ h => by cases h) (SeenT.nil _ _) hs; rw [f1_is] at h; exact h
  have F2 : ∀ (W : World) (A : Option Addr) (c : Nat), Tab W → Tab8 W → SeenOs W A [oA] → Calls Tryz.prog 20 #[.agg #[.bool true, .slice none 0 0, .bool false, .slice none 0 0], origV oA, .slice A 1 c] W fun e w' => e = .returned (.bool false) ∧ Below W.heap.size W w' := fun W A c h1 h2 hs => by have h := cmFrames_any ⟨true, [], false, []⟩ none 0 none 0 oA A c [oA] W h1 h2 fitA (fun o ho => by rw [List.mem_singleton.1 ho]; exact fitA) (by decide) (by decide) (fun _ h => by cases h) (SeenT.nil _ _) hs; rw [f2_is] at h; exact h
  have HT := Lib.hid hT; have HT8 := Lib.hid hT8
  unfold srcV origV at *
  unfold srcC oCells at *
  have HOA := Lib.hid OA; have HOX := Lib.hid OX; have HOB := Lib.hid OB; have HOH := Lib.hid OH; have HPS := Lib.hid PS; have HY1 := Lib.hid Y1; have HY2 := Lib.hid Y2; have HM1 := Lib.hid M1; have HM2 := Lib.hid M2; have HF1 := Lib.hid F1; have HF2 := Lib.hid F2
  clear OA OX OB OH PS Y1 Y2 M1 M2 F1 F2 hT hT8
  go_enter Tryz.func11, Tryz.ntmps11
  go_wp2_with fail
  refine (HOA.out _ HT8.out).mono ?_
  rintro e w1 ⟨rfl, hb1⟩
  have hR2 : RdyW w w1.heap.size oA (w1.alloc (.cells (oCells oA) 31)) := ⟨hb1.alloc hb1.size _, OBox.new w1 oA, tab_below (tab_below HT.out hb1) ((Below.refl _ _).alloc (Nat.le_refl _) _), (HT8.out.below hb1).below ((Below.refl _ _).alloc (Nat.le_refl _) _)⟩
  clear hb1
  unfold oCells at hR2
  obtain ⟨w2, hw2⟩ : ∃ W, w1.alloc (.cells #[.bool oA.op, .int .i64 oA.id, .string (bA oA.scheme), .string (bA oA.host.name), .bool oA.host.v4, .int .u32 oA.host.addr, .int .i64 oA.port] 31) = W := ⟨_, rfl⟩
  rw [hw2] at hR2
  obtain ⟨B, hB⟩ : ∃ B, w1.heap.size = B := ⟨_, rfl⟩
  rw [hB] at hR2
  go_wp2_with fail
  refine (HPS.out _ hR2.tab hR2.tab8).mono ?_
  rintro e w3 ⟨rfl, hb3⟩
  have hR3 := (hR2.below hb3).alloc (.cells (srcC sS) 24)
  unfold srcC at hR3
  have hS3 := CBox.new w3 24 (srcC sS)
  unfold srcC at hS3
  clear hw2 hB hb3 hR2
  obtain ⟨w4, hw4⟩ : ∃ W, w3.alloc (.cells #[.int .i64 sS.kind, .string (bA sS.scheme), .string (bA sS.host), .int .i64 sS.port] 24) = W := ⟨_, rfl⟩
  rw [hw4] at hR3 hS3
  have s0 := hS3.c 0; have s1 := hS3.c 1; have s2 := hS3.c 2; have s3 := hS3.c 3
  go_upto_region 4 with fail
  clear hw4 hS3 s0 s1 s2 s3
  go_cut [4] from 12 to 22 (fun v wx => v = .bool true ∧ Hid (RdyW w B oA wx))
  case first =>
    go_region_held_law (fun w' => w'.cell? ⟨B, 0, none⟩ = some (.bool oA.op) ∧ w'.cell? ⟨B, 1, none⟩ = some (.int .i64 oA.id) ∧ w'.cell? ⟨B, 2, none⟩ = some (.string (bA oA.scheme)) ∧ w'.cell? ⟨B, 3, none⟩ = some (.string (bA oA.host.name)) ∧ w'.cell? ⟨B, 4, none⟩ = some (.bool oA.host.v4) ∧ w'.cell? ⟨B, 5, none⟩ = some (.int .u32 oA.host.addr) ∧ w'.cell? ⟨B, 6, none⟩ = some (.int .i64 oA.port) ∧ RdyW w B oA w')
      (first
        | exact hR8.cs
        | exact hR8.drew.cs
        | exact (hR8.alloc _).cs
        | exact (hR8.alloc _).drew.cs
        | exact hR7.cs
        | exact hR7.drew.cs
        | exact (hR7.alloc _).cs
        | exact (hR7.alloc _).drew.cs
        | exact hR6.cs
        | exact hR6.drew.cs
        | exact (hR6.alloc _).cs
        | exact (hR6.alloc _).drew.cs
        | exact hR5.cs
        | exact hR5.drew.cs
        | exact (hR5.alloc _).cs
        | exact (hR5.alloc _).drew.cs
        | exact hR3.cs
        | exact hR3.drew.cs
        | exact (hR3.alloc _).cs
        | exact (hR3.alloc _).drew.cs)
      (first
        | (go_at_call 26; refine (HOB.out _ (hR6.alloc _).drew.tab8).mono ?_; rintro e w7 ⟨rfl, hb7⟩; have hR7 := (hR6.alloc _).drew.below hb7; have hs7 := SeenT.below (SeenT.drew (seen_one _ cwP)) hb7)
        | (go_at_call 26; refine (HOB.out _ (hR6.alloc _).tab8).mono ?_; rintro e w7 ⟨rfl, hb7⟩; have hR7 := (hR6.alloc _).below hb7; have hs7 := SeenT.below (seen_one _ cwP) hb7)
        | (go_at_call 26; refine (HOB.out _ hR6.tab8).mono ?_; rintro e w7 ⟨rfl, hb7⟩; have hR7 := hR6.below hb7)
        | (go_at_call 26; refine (HOB.out _ hR6.drew.tab8).mono ?_; rintro e w7 ⟨rfl, hb7⟩; have hR7 := hR6.drew.below hb7)
        | (go_at_call 26; refine (HOX.out _ hR3.drew.tab8).mono ?_; rintro e w5 ⟨rfl, hb5⟩; have hR5 := hR3.drew.below hb5)
        | (go_at_call 18; refine (HY2.out _ _ _ hR7.tab hR7.tab8 hs7).mono ?_; rintro e w8 ⟨rfl, hb8⟩; have hR8 := hR7.below hb8)
        | (go_at_call 18; refine (HY2.out _ _ _ (hR7.alloc _).tab (hR7.alloc _).tab8 (seen_one _ _)).mono ?_; rintro e w8 ⟨rfl, hb8⟩; have hR8 := (hR7.alloc _).below hb8)
        | (go_at_call 18; refine (HY2.out _ _ _ (hR7.alloc _).drew.tab (hR7.alloc _).drew.tab8 (SeenT.drew (seen_one _ _))).mono ?_; rintro e w8 ⟨rfl, hb8⟩; have hR8 := (hR7.alloc _).drew.below hb8)
        | (go_at_call 18; refine (HY1.out _ _ _ hR5.tab hR5.tab8 hs5).mono ?_; rintro e w6 ⟨rfl, hb6⟩; have hR6 := hR5.below hb6)
        | (go_at_call 18; refine (HY1.out _ _ _ (hR5.alloc _).tab (hR5.alloc _).tab8 (seen_two _ _ _)).mono ?_; rintro e w6 ⟨rfl, hb6⟩; have hR6 := (hR5.alloc _).below hb6)
        | (go_at_call 18; refine (HY1.out _ _ _ (hR5.alloc _).drew.tab (hR5.alloc _).drew.tab8 (SeenT.drew (seen_two _ _ _))).mono ?_; rintro e w6 ⟨rfl, hb6⟩; have hR6 := (hR5.alloc _).drew.below hb6)
        | (go_at_call 26; refine (HOX.out _ (hR3.alloc _).drew.tab8).mono ?_; rintro e w5 ⟨rfl, hb5⟩; have hR5 := (hR3.alloc _).drew.below hb5; have hs5 := SeenT.below (SeenT.drew (seen_two _ cwN cwP)) hb5))
    all_goals
      go_wp2_with fail
      go_meet
      exact ⟨rfl, Lib.hid hR8⟩
  case rest =>
  obtain ⟨rfl, HR1⟩ := hcut
  have hR1 := HR1.out
  clear HOX HOB HY1 HY2 hR3 HPS
  go_upto_region 5 with fail
  go_cut [5] from 23 to 33 (fun v wx => v = .bool true ∧ Hid (RdyW w B oA wx))
  case first =>
    go_region_held_law (fun w' => w'.cell? ⟨B, 0, none⟩ = some (.bool oA.op) ∧ w'.cell? ⟨B, 1, none⟩ = some (.int .i64 oA.id) ∧ w'.cell? ⟨B, 2, none⟩ = some (.string (bA oA.scheme)) ∧ w'.cell? ⟨B, 3, none⟩ = some (.string (bA oA.host.name)) ∧ w'.cell? ⟨B, 4, none⟩ = some (.bool oA.host.v4) ∧ w'.cell? ⟨B, 5, none⟩ = some (.int .u32 oA.host.addr) ∧ w'.cell? ⟨B, 6, none⟩ = some (.int .i64 oA.port) ∧ RdyW w B oA w')
      (first
        | exact hR7.cs
        | exact hR7.drew.cs
        | exact (hR7.alloc _).cs
        | exact (hR7.alloc _).drew.cs
        | exact hR6.cs
        | exact hR6.drew.cs
        | exact (hR6.alloc _).cs
        | exact (hR6.alloc _).drew.cs
        | exact hR5.cs
        | exact hR5.drew.cs
        | exact (hR5.alloc _).cs
        | exact (hR5.alloc _).drew.cs
        | exact hR1.cs
        | exact hR1.drew.cs
        | exact (hR1.alloc _).cs
        | exact (hR1.alloc _).drew.cs)
      (first
        | (go_at_call 15; refine (HM2.out _ hR6.tab hR6.tab8).mono ?_; rintro e w7 ⟨rfl, hb7⟩; have hR7 := hR6.below hb7)
        | (go_at_call 15; refine (HM2.out _ hR6.drew.tab hR6.drew.tab8).mono ?_; rintro e w7 ⟨rfl, hb7⟩; have hR7 := hR6.drew.below hb7)
        | (go_at_call 26; refine (HOH.out _ hR5.tab8).mono ?_; rintro e w6 ⟨rfl, hb6⟩; have hR6 := hR5.below hb6)
        | (go_at_call 26; refine (HOH.out _ hR5.drew.tab8).mono ?_; rintro e w6 ⟨rfl, hb6⟩; have hR6 := hR5.drew.below hb6)
        | (go_at_call 15; refine (HM1.out _ hR1.drew.tab hR1.drew.tab8).mono ?_; rintro e w5 ⟨rfl, hb5⟩; have hR5 := hR1.drew.below hb5)
        | (go_at_call 15; refine (HM1.out _ hR1.tab hR1.tab8).mono ?_; rintro e w5 ⟨rfl, hb5⟩; have hR5 := hR1.below hb5))
    all_goals
      go_wp2_with fail
      go_meet
      exact ⟨rfl, Lib.hid hR7⟩
  case rest =>
  obtain ⟨rfl, HR2⟩ := hcut
  have hR2 := HR2.out
  clear HR1 hR1 HM1 HM2 HOH
  obtain ⟨x0, x1, x2, x3, x4, x5, x6⟩ := hR2.x.all
  go_wp2_with fail
  refine (HF1.out _ _ _ (hR2.alloc _).tab (hR2.alloc _).tab8 (seen_org _ _)).mono ?_
  rintro e w5 ⟨rfl, hb5⟩
  have hR5 := (hR2.alloc _).below hb5
  clear x0 x1 x2 x3 x4 x5 x6 hR2 HR2
  obtain ⟨x0, x1, x2, x3, x4, x5, x6⟩ := hR5.x.all
  go_wp2_with fail
  refine (HF2.out _ _ _ (hR5.alloc _).tab (hR5.alloc _).tab8 (seen_org _ _)).mono ?_
  rintro e w6 ⟨rfl, hb6⟩
  have hbel := ((hR5.alloc _).below hb6).bel
  clear x0 x1 x2 x3 x4 x5 x6 hb5 hb6
  go_wp2_with fail
  go_ret
  exact ⟨rfl, hbel⟩
end Go.Proofs.YtinjkpbpkedfnaaGreatDoor
