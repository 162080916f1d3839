/- The walk of the statement on classes. -/
import Derived.Test.YtehjnidggnfbfaaDoorOrigAwake
import Derived.Test.YtehjnidggnfbfaaDoorOrigOpen
namespace Go.Proofs.YtehjnidggnfbfaaDoor
open Go.RowKit

/-- What the calls of the statement ask of the world: three origins' blocks. -/
structure TriO (w0 : World) (A B C : Nat) (a b c : Orig) (D : Option Addr) (sx : List (List UInt8)) (W : World) : Prop where
  bel : Below w0.heap.size w0 W
  tab : Tab W
  seen : Seen W D sx
  x : OBox W A a
  y : OBox W B b
  z : OBox W C c
theorem TriO.below {w0 : World} {A B C : Nat} {a b c : Orig} {D : Option Addr} {sx : List (List UInt8)} {W W' : World} (hb : Below W.heap.size W W') (h : TriO w0 A B C a b c D sx W) : TriO w0 A B C a b c D sx W' := ⟨below_on h.bel hb, h.tab.below hb, h.seen.below hb, h.x.keep hb, h.y.keep hb, h.z.keep hb⟩
theorem tri_new (w : World) (a b c : Orig) (D : Option Addr) (sx : List (List UInt8)) (hT : Tab w) (hA : Seen w D sx) : TriO w w.heap.size (w.heap.size + 1) (w.heap.size + 2) a b c D sx (((w.alloc (.cells (oCells a) 26)).alloc (.cells (oCells b) 26)).alloc (.cells (oCells c) 26)) := by
  have hb0 : Below w.heap.size w (((w.alloc (.cells (oCells a) 26)).alloc (.cells (oCells b) 26)).alloc (.cells (oCells c) 26)) := (((Below.refl _ w).alloc (Nat.le_refl _) _).alloc (by simp) _).alloc (by simp; omega) _
  refine ⟨hb0, hT.below hb0, hA.below hb0, ((OBox.new w a).alloc _).alloc _, ?_, ?_⟩
  · have h := (OBox.new (w.alloc (.cells (oCells a) 26)) b).alloc (.cells (oCells c) 26)
    rw [show (w.alloc (.cells (oCells a) 26)).heap.size = w.heap.size + 1 by simp] at h
    exact h
  · have h := OBox.new ((w.alloc (.cells (oCells a) 26)).alloc (.cells (oCells b) 26)) c
    rw [show ((w.alloc (.cells (oCells a) 26)).alloc (.cells (oCells b) 26)).heap.size = w.heap.size + 2 by simp] at h
    exact h
theorem same_is {a b : Orig} {r : Bool} (h : sameO a b = r) (W : World) : Calls Tryd.prog 9 #[.agg #[.bool a.op, .int .i64 a.id, .string (bA a.scheme), .string (bA a.host.name), .bool a.host.v4, .int .u32 a.host.addr, .int .i64 a.port], .agg #[.bool b.op, .int .i64 b.id, .string (bA b.scheme), .string (bA b.host.name), .bool b.host.v4, .int .u32 b.host.addr, .int .i64 b.port]] W fun e w' => e = .returned (.bool r) ∧ Below W.heap.size W w' := by
  have := same_any a b W
  rw [h] at this
  exact this
theorem site_is {a b : Orig} {r : Bool} {sx : List (List UInt8)} (D : Option Addr) (c : Nat) (h : siteB a b sx = r) (W : World) (hT : Tab W) (ha : SmallH a) (hb : SmallH b) (hsx : Few sx) (hA : Seen W D sx) : Calls Tryd.prog 10 #[.agg #[.bool a.op, .int .i64 a.id, .string (bA a.scheme), .string (bA a.host.name), .bool a.host.v4, .int .u32 a.host.addr, .int .i64 a.port], .agg #[.bool b.op, .int .i64 b.id, .string (bA b.scheme), .string (bA b.host.name), .bool b.host.v4, .int .u32 b.host.addr, .int .i64 b.port], .slice D sx.length c] W fun e w' => e = .returned (.bool r) ∧ Below W.heap.size W w' := by
  have := sameSite_any a b D c sx W hT ha hb hsx hA
  rw [h] at this
  exact this

set_option maxHeartbeats 8000000 in
set_option maxRecDepth 100000 in
theorem walk_OriginClasses (a b c : Orig) (A : Option Addr) (cp : Nat) (sx : List (List UInt8)) (w : World) (ha : WideO a) (hb : WideO b) (hc : WideO c) (hA : Seen w A sx) (hsl : sx.length ≤ maxLen) (hsz : ∀ s ∈ sx, s.length ≤ maxLen) (hT : Tab w) (hT8 : Tab8 w) :
    Calls Tryd.prog 3 #[origV a, origV b, origV c, .slice A sx.length cp] w fun e w' => e = .returned (.bool true) ∧ Below w.heap.size w w' := by
  have h0 := tri_new w a b c A sx hT hA
  have hb0 := h0.bel
  have HAW := Lib.hid (awake_any _ h0.tab (hT8.below hb0))
  have HSM := Lib.hid (fun W (h : Seen W A sx) => small_any A cp sx W hsl hsz h)
  have HR := Lib.hid h0
  have na := ha.hn; have nb := hb.hn; have nc := hc.hn
  have ga := ha.a0; have gb := hb.a0; have gc := hc.a0
  have ka := ha.a1; have kb := hb.a1; have kc := hc.a1
  unfold maxLen at na nb nc hsl
  clear h0 hb0 hT hT8 hA hsz ha hb hc
  unfold oCells at HAW HR
  unfold origV oCells
  cases hsm : smallB sx with
  | false =>
    rw [hsm] at HSM
    clear hsm
    go_enter Tryd.func3, Tryd.ntmps3
    go_wp2_with fail
    refine HAW.out.mono ?_
    rintro e w1 ⟨rfl, hb1⟩
    have R1 := TriO.below hb1 HR.out
    go_wp2_with fail
    refine (HSM.out _ R1.seen).mono ?_
    rintro e w2 ⟨rfl, rfl⟩
    have B1 := R1.bel
    go_wp2_with fail
    go_ret
    exact ⟨rfl, B1⟩
  | true =>
    have hfew := few_of hsm
    rw [hsm] at HSM
    clear hsm
    by_cases h1 : 1000 < a.host.name.length
    · have h1' : (1000 : Int) < (a.host.name.length : Int) := by omega
      go_enter Tryd.func3, Tryd.ntmps3
      go_wp2_with fail
      refine HAW.out.mono ?_
      rintro e w1 ⟨rfl, hb1⟩
      have R1 := TriO.below hb1 HR.out
      go_wp2_with fail
      refine (HSM.out _ R1.seen).mono ?_
      rintro e w2 ⟨rfl, rfl⟩
      have B1 := R1.bel
      have i3 := R1.x.c3
      go_wp2_with fail
      go_ret
      exact ⟨rfl, B1⟩
    have h1' : decide ((1000 : Int) < (a.host.name.length : Int)) = false := by simp; omega
    by_cases h2 : 1000 < b.host.name.length
    · have h2' : (1000 : Int) < (b.host.name.length : Int) := by omega
      go_enter Tryd.func3, Tryd.ntmps3
      go_wp2_with fail
      refine HAW.out.mono ?_
      rintro e w1 ⟨rfl, hb1⟩
      have R1 := TriO.below hb1 HR.out
      go_wp2_with fail
      refine (HSM.out _ R1.seen).mono ?_
      rintro e w2 ⟨rfl, rfl⟩
      have B1 := R1.bel
      have i3 := R1.x.c3; have j3 := R1.y.c3
      go_wp2_with fail
      go_ret
      exact ⟨rfl, B1⟩
    have h2' : decide ((1000 : Int) < (b.host.name.length : Int)) = false := by simp; omega
    by_cases h3 : 1000 < c.host.name.length
    · have h3' : (1000 : Int) < (c.host.name.length : Int) := by omega
      go_enter Tryd.func3, Tryd.ntmps3
      go_wp2_with fail
      refine HAW.out.mono ?_
      rintro e w1 ⟨rfl, hb1⟩
      have R1 := TriO.below hb1 HR.out
      go_wp2_with fail
      refine (HSM.out _ R1.seen).mono ?_
      rintro e w2 ⟨rfl, rfl⟩
      have B1 := R1.bel
      have i3 := R1.x.c3; have j3 := R1.y.c3; have k3 := R1.z.c3
      go_wp2_with fail
      go_ret
      exact ⟨rfl, B1⟩
    have h3' : decide ((1000 : Int) < (c.host.name.length : Int)) = false := by simp; omega
    have sa : SmallH a := ⟨ga, ka, by omega⟩
    have sb : SmallH b := ⟨gb, kb, by omega⟩
    have sc : SmallH c := ⟨gc, kc, by omega⟩
    have m1 : a.host.name.length ≤ 1000 := by omega
    have m2 : b.host.name.length ≤ 1000 := by omega
    have m3 : c.host.name.length ≤ 1000 := by omega
    clear h1 h2 h3
    have key : ∀ (ab bc ac sab sbc sac : Bool), sameO a b = ab → sameO b c = bc → sameO a c = ac → siteB a b sx = sab → siteB b c sx = sbc → siteB a c sx = sac →
        ((ab = true ∧ bc = ac ∧ sab = true ∧ sbc = sac) ∨ (ab = false ∧ sab = true ∧ sbc = sac) ∨ (ab = false ∧ sab = false)) → Calls Tryd.prog 3 #[.agg #[.bool a.op, .int .i64 a.id, .string (bA a.scheme), .string (bA a.host.name), .bool a.host.v4, .int .u32 a.host.addr, .int .i64 a.port], .agg #[.bool b.op, .int .i64 b.id, .string (bA b.scheme), .string (bA b.host.name), .bool b.host.v4, .int .u32 b.host.addr, .int .i64 b.port], .agg #[.bool c.op, .int .i64 c.id, .string (bA c.scheme), .string (bA c.host.name), .bool c.host.v4, .int .u32 c.host.addr, .int .i64 c.port], .slice A sx.length cp] w fun e w' => e = .returned (.bool true) ∧ Below w.heap.size w w' := by
      intro ab bc ac sab sbc sac e1 e2 e3 e4 e5 e6 hw
      have e7 : sameO b a = ab := by rw [sameO_symm]; exact e1
      have e8 : siteB b a sx = sab := by rw [siteB_symm]; exact e4
      have S1 := Lib.hid (fun W => same_is e1 W)
      have S2 := Lib.hid (fun W => same_is e2 W)
      have S3 := Lib.hid (fun W => same_is e3 W)
      have S4 := Lib.hid (fun W => same_is (sameO_refl a) W)
      have S5 := Lib.hid (fun W => same_is e7 W)
      have T1 := Lib.hid (fun W h g => site_is A cp e4 W h sa sb hfew g)
      have T2 := Lib.hid (fun W h g => site_is A cp e5 W h sb sc hfew g)
      have T3 := Lib.hid (fun W h g => site_is A cp e6 W h sa sc hfew g)
      have T4 := Lib.hid (fun W h g => site_is A cp (siteB_refl a sx) W h sa sa hfew g)
      have T5 := Lib.hid (fun W h g => site_is A cp e8 W h sb sa hfew g)
      clear e1 e2 e3 e4 e5 e6 e7 e8 sa sb sc hfew
      rcases hw with ⟨rfl, rfl, rfl, rfl⟩ | ⟨rfl, rfl, rfl⟩ | ⟨rfl, rfl⟩
      all_goals
        go_enter Tryd.func3, Tryd.ntmps3
        go_wp2_with fail
        refine HAW.out.mono ?_
        rintro e w1 ⟨rfl, hb1⟩
        have R1 := TriO.below hb1 HR.out
        go_wp2_with fail
        refine (HSM.out _ R1.seen).mono ?_
        rintro e w2 ⟨rfl, rfl⟩
        obtain ⟨i0, i1, i2, i3, i4, i5, i6⟩ := R1.x.all; obtain ⟨j0, j1, j2, j3, j4, j5, j6⟩ := R1.y.all; obtain ⟨k0, k1, k2, k3, k4, k5, k6⟩ := R1.z.all
        go_wp2_with fail
        refine (S1.out _).mono ?_
        rintro e w3 ⟨rfl, hb3⟩
        have R2 := TriO.below hb3 R1
        clear i0 i1 i2 i3 i4 i5 i6 j0 j1 j2 j3 j4 j5 j6 k0 k1 k2 k3 k4 k5 k6 hb3 R1
        obtain ⟨i0, i1, i2, i3, i4, i5, i6⟩ := R2.x.all; obtain ⟨j0, j1, j2, j3, j4, j5, j6⟩ := R2.y.all; obtain ⟨k0, k1, k2, k3, k4, k5, k6⟩ := R2.z.all
        go_wp2_with fail
        refine (S2.out _).mono ?_
        rintro e w4 ⟨rfl, hb4⟩
        have R3 := TriO.below hb4 R2
        clear i0 i1 i2 i3 i4 i5 i6 j0 j1 j2 j3 j4 j5 j6 k0 k1 k2 k3 k4 k5 k6 hb4 R2
        obtain ⟨i0, i1, i2, i3, i4, i5, i6⟩ := R3.x.all; obtain ⟨j0, j1, j2, j3, j4, j5, j6⟩ := R3.y.all; obtain ⟨k0, k1, k2, k3, k4, k5, k6⟩ := R3.z.all
        go_wp2_with fail
        refine (S3.out _).mono ?_
        rintro e w5 ⟨rfl, hb5⟩
        have R4 := TriO.below hb5 R3
        clear i0 i1 i2 i3 i4 i5 i6 j0 j1 j2 j3 j4 j5 j6 k0 k1 k2 k3 k4 k5 k6 hb5 R3
        obtain ⟨i0, i1, i2, i3, i4, i5, i6⟩ := R4.x.all; obtain ⟨j0, j1, j2, j3, j4, j5, j6⟩ := R4.y.all; obtain ⟨k0, k1, k2, k3, k4, k5, k6⟩ := R4.z.all
        go_wp2_with fail
        refine (T1.out _ R4.tab R4.seen).mono ?_
        rintro e w6 ⟨rfl, hb6⟩
        have R5 := TriO.below hb6 R4
        clear i0 i1 i2 i3 i4 i5 i6 j0 j1 j2 j3 j4 j5 j6 k0 k1 k2 k3 k4 k5 k6 hb6 R4
        obtain ⟨i0, i1, i2, i3, i4, i5, i6⟩ := R5.x.all; obtain ⟨j0, j1, j2, j3, j4, j5, j6⟩ := R5.y.all; obtain ⟨k0, k1, k2, k3, k4, k5, k6⟩ := R5.z.all
        go_wp2_with fail
        refine (T2.out _ R5.tab R5.seen).mono ?_
        rintro e w7 ⟨rfl, hb7⟩
        have R6 := TriO.below hb7 R5
        clear i0 i1 i2 i3 i4 i5 i6 j0 j1 j2 j3 j4 j5 j6 k0 k1 k2 k3 k4 k5 k6 hb7 R5
        obtain ⟨i0, i1, i2, i3, i4, i5, i6⟩ := R6.x.all; obtain ⟨j0, j1, j2, j3, j4, j5, j6⟩ := R6.y.all; obtain ⟨k0, k1, k2, k3, k4, k5, k6⟩ := R6.z.all
        go_wp2_with fail
        refine (T3.out _ R6.tab R6.seen).mono ?_
        rintro e w8 ⟨rfl, hb8⟩
        have R7 := TriO.below hb8 R6
        clear i0 i1 i2 i3 i4 i5 i6 j0 j1 j2 j3 j4 j5 j6 k0 k1 k2 k3 k4 k5 k6 hb8 R6
        obtain ⟨i0, i1, i2, i3, i4, i5, i6⟩ := R7.x.all; obtain ⟨j0, j1, j2, j3, j4, j5, j6⟩ := R7.y.all; obtain ⟨k0, k1, k2, k3, k4, k5, k6⟩ := R7.z.all
        go_wp2_with fail
        refine (S4.out _).mono ?_
        rintro e w9 ⟨rfl, hb9⟩
        have R8 := TriO.below hb9 R7
        clear i0 i1 i2 i3 i4 i5 i6 j0 j1 j2 j3 j4 j5 j6 k0 k1 k2 k3 k4 k5 k6 hb9 R7
        obtain ⟨i0, i1, i2, i3, i4, i5, i6⟩ := R8.x.all; obtain ⟨j0, j1, j2, j3, j4, j5, j6⟩ := R8.y.all; obtain ⟨k0, k1, k2, k3, k4, k5, k6⟩ := R8.z.all
        go_wp2_with fail
        refine (T4.out _ R8.tab R8.seen).mono ?_
        rintro e w10 ⟨rfl, hb10⟩
        have R9 := TriO.below hb10 R8
        clear i0 i1 i2 i3 i4 i5 i6 j0 j1 j2 j3 j4 j5 j6 k0 k1 k2 k3 k4 k5 k6 hb10 R8
        obtain ⟨i0, i1, i2, i3, i4, i5, i6⟩ := R9.x.all; obtain ⟨j0, j1, j2, j3, j4, j5, j6⟩ := R9.y.all; obtain ⟨k0, k1, k2, k3, k4, k5, k6⟩ := R9.z.all
        go_wp2_with fail
        refine (S5.out _).mono ?_
        rintro e w11 ⟨rfl, hb11⟩
        have R10 := TriO.below hb11 R9
        clear i0 i1 i2 i3 i4 i5 i6 j0 j1 j2 j3 j4 j5 j6 k0 k1 k2 k3 k4 k5 k6 hb11 R9
        obtain ⟨i0, i1, i2, i3, i4, i5, i6⟩ := R10.x.all; obtain ⟨j0, j1, j2, j3, j4, j5, j6⟩ := R10.y.all; obtain ⟨k0, k1, k2, k3, k4, k5, k6⟩ := R10.z.all
        go_wp2_with fail
        refine (T5.out _ R10.tab R10.seen).mono ?_
        rintro e w12 ⟨rfl, hb12⟩
        have R11 := TriO.below hb12 R10
        clear i0 i1 i2 i3 i4 i5 i6 j0 j1 j2 j3 j4 j5 j6 k0 k1 k2 k3 k4 k5 k6 hb12 R10
        have BB := R11.bel
        go_wp2_with fail
        go_ret
        exact ⟨rfl, BB⟩
    refine key _ _ _ _ _ _ rfl rfl rfl rfl rfl rfl ?_
    cases e1 : sameO a b with
    | true => exact .inl ⟨rfl, (sameO_left e1 c).symm, same_site e1 sx, siteB_left (same_site e1 sx) c⟩
    | false =>
      cases e2 : siteB a b sx with
      | true => exact .inr (.inl ⟨rfl, rfl, siteB_left e2 c⟩)
      | false => exact .inr (.inr ⟨rfl, rfl⟩)
end Go.Proofs.YtehjnidggnfbfaaDoor
