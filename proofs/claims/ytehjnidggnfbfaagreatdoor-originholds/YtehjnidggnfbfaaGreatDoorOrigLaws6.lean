/- The walk of the statement on any two origins. -/
import Derived.Test.YtehjnidggnfbfaaGreatDoorOrigLaws5
namespace Go.Proofs.YtehjnidggnfbfaaGreatDoor
open Go.RowKit

theorem hsame_is {a b : Orig} {r : Bool} (h : sameO a b = r) (W : World) : Calls Tryz.prog 11 #[.agg #[.bool a.op, .int .i64 a.id, .string (bA a.scheme), .string (bA a.host.name), .bool a.host.v4, .int .u32 a.host.addr, .int .i64 a.port], .agg #[.bool b.op, .int .i64 b.id, .string (bA b.scheme), .string (bA b.host.name), .bool b.host.v4, .int .u32 b.host.addr, .int .i64 b.port]] W fun e w' => e = .returned (.bool r) ∧ Below W.heap.size W w' := by
  have := same_any a b W
  rw [h] at this
  exact this
theorem hrsame_is {a b : Orig} {r : Bool} (h : sameO a b = r) (W : World) : Calls Tryz.prog 12 #[.agg #[.bool a.op, .int .i64 a.id, .string (bA a.scheme), .string (bA a.host.name), .bool a.host.v4, .int .u32 a.host.addr, .int .i64 a.port], .agg #[.bool b.op, .int .i64 b.id, .string (bA b.scheme), .string (bA b.host.name), .bool b.host.v4, .int .u32 b.host.addr, .int .i64 b.port]] W fun e w' => e = .returned (.bool r) ∧ Below W.heap.size W w' := by
  have := rsame_any a b W
  rw [h] at this
  exact this
theorem hss_is {a b : Orig} {r : Bool} {sx : List (List UInt8)} (D : Option Addr) (c : Nat) (h : siteB a b sx = r) (W : World) (hT : Tab W) (ha : SmallH a) (hb : SmallH b) (hsx : Few sx) (hA : Seen W D sx) : Calls Tryz.prog 15 #[.agg #[.bool a.op, .int .i64 a.id, .string (bA a.scheme), .string (bA a.host.name), .bool a.host.v4, .int .u32 a.host.addr, .int .i64 a.port], .agg #[.bool b.op, .int .i64 b.id, .string (bA b.scheme), .string (bA b.host.name), .bool b.host.v4, .int .u32 b.host.addr, .int .i64 b.port], .slice D sx.length c] W fun e w' => e = .returned (.bool r) ∧ Below W.heap.size W w' := by
  have := sameSite_any a b D c sx W hT ha hb hsx hA
  rw [h] at this
  exact this
theorem hrss_is {a b : Orig} {r : Bool} {sx : List (List UInt8)} (D : Option Addr) (c : Nat) (h : siteB a b sx = r) (W : World) (hT : Tab W) (ha : SmallH a) (hb : SmallH b) (hsx : Few sx) (hA : Seen W D sx) : Calls Tryz.prog 16 #[.agg #[.bool a.op, .int .i64 a.id, .string (bA a.scheme), .string (bA a.host.name), .bool a.host.v4, .int .u32 a.host.addr, .int .i64 a.port], .agg #[.bool b.op, .int .i64 b.id, .string (bA b.scheme), .string (bA b.host.name), .bool b.host.v4, .int .u32 b.host.addr, .int .i64 b.port], .slice D sx.length c] W fun e w' => e = .returned (.bool r) ∧ Below W.heap.size W w' := by
  have := rsameSite_any a b D c sx W hT ha hb hsx hA
  rw [h] at this
  exact this
theorem hsi_is {a : Orig} {t : List UInt8} {sx : List (List UInt8)} (D : Option Addr) (c : Nat) (h : ositeL a sx = t) (W : World) (hT : Tab W) (ha : SmallH a) (hsx : Few sx) (hA : Seen W D sx) : Calls Tryz.prog 13 #[.agg #[.bool a.op, .int .i64 a.id, .string (bA a.scheme), .string (bA a.host.name), .bool a.host.v4, .int .u32 a.host.addr, .int .i64 a.port], .slice D sx.length c] W fun e w' => e = .returned (.string (bA t)) ∧ Below W.heap.size W w' := by
  have := osite_any a D c sx W hT ha.a0 ha.a1 ha.hn hsx hA
  rw [h] at this
  exact this
theorem hrsi_is {a : Orig} {t : List UInt8} {sx : List (List UInt8)} (D : Option Addr) (c : Nat) (h : ositeL a sx = t) (W : World) (hT : Tab W) (ha : SmallH a) (hsx : Few sx) (hA : Seen W D sx) : Calls Tryz.prog 14 #[.agg #[.bool a.op, .int .i64 a.id, .string (bA a.scheme), .string (bA a.host.name), .bool a.host.v4, .int .u32 a.host.addr, .int .i64 a.port], .slice D sx.length c] W fun e w' => e = .returned (.string (bA t)) ∧ Below W.heap.size W w' := by
  have := rosite_any a D c sx W hT ha.a0 ha.a1 ha.hn hsx hA
  rw [h] at this
  exact this

theorem sr_new (w : World) (a b : Orig) (D : Option Addr) (sx : List (List UInt8)) (hT : Tab w) (hA : Seen w D sx) : SReady w w.heap.size (w.heap.size + 1) a b D sx ((w.alloc (.cells (oCells a) 29)).alloc (.cells (oCells b) 29)) := by
  have hb0 : Below w.heap.size w ((w.alloc (.cells (oCells a) 29)).alloc (.cells (oCells b) 29)) := ((Below.refl _ w).alloc (Nat.le_refl _) _).alloc (by simp) _
  refine ⟨hb0, hT.below hb0, hA.below hb0, (OBox.new w a).alloc _, ?_⟩
  have h := OBox.new (w.alloc (.cells (oCells a) 29)) b
  rw [show (w.alloc (.cells (oCells a) 29)).heap.size = w.heap.size + 1 by simp] at h
  exact h

set_option maxHeartbeats 16000000 in
set_option maxRecDepth 100000 in
theorem walk_OriginHolds (a b : Orig) (D : Option Addr) (cp : Nat) (sx : List (List UInt8)) (w : World) (ha : WideO a) (hb : WideO b) (hA : Seen w D sx) (hsl : sx.length ≤ maxLen) (hsz : ∀ s ∈ sx, s.length ≤ maxLen) (hso : a.scheme.length ≤ 140737488351232) (hT : Tab w) (hT8 : Tab8 w) :
    Calls Tryz.prog 4 #[origV a, origV b, .slice D sx.length cp] w fun e w' => e = .returned (.bool true) ∧ Below w.heap.size w w' := by
  have h0 := sr_new w a b D sx hT hA
  have hb0 := h0.bel
  have HAW := Lib.hid (awake_any _ h0.tab (hT8.below hb0))
  have HSM := Lib.hid (fun W (h : Seen W D sx) => small_any D cp sx W hsl hsz h)
  have HR := Lib.hid h0
  have na := ha.hn; have nb := hb.hn
  have ga := ha.a0; have gb := hb.a0
  have ka := ha.a1; have kb := hb.a1
  have pa := ha.p0; have pb := ha.p1
  unfold maxLen at na nb hsl
  clear h0 hb0 hT hT8 hA hsz ha hb
  unfold oCells at HAW HR
  unfold origV oCells
  cases hsm : smallB sx with
  | false =>
    rw [hsm] at HSM
    clear hsm
    go_enter Tryz.func4, Tryz.ntmps4
    go_wp2_with fail
    refine HAW.out.mono ?_
    rintro e w1 ⟨rfl, hb1⟩
    have R1 := SReady.below hb1 HR.out
    go_wp2_with fail
    refine (HSM.out _ R1.seen).mono ?_
    rintro e w2 ⟨rfl, rfl⟩
    have B1 := R1.bel
    have i3 := R1.x.c3; have j3 := R1.y.c3
    go_wp2_with fail
    go_ret
    exact ⟨rfl, B1⟩
  | true =>
    have hfew := few_of hsm
    rw [hsm] at HSM
    clear hsm
    by_cases h1 : 1000 < a.host.name.length
    · have h1' : (1000 : Int) < (a.host.name.length : Int) := by omega
      go_enter Tryz.func4, Tryz.ntmps4
      go_wp2_with fail
      refine HAW.out.mono ?_
      rintro e w1 ⟨rfl, hb1⟩
      have R1 := SReady.below hb1 HR.out
      go_wp2_with fail
      refine (HSM.out _ R1.seen).mono ?_
      rintro e w2 ⟨rfl, rfl⟩
      have B1 := R1.bel
      have i3 := R1.x.c3; have j3 := R1.y.c3
      go_wp2_with fail
      go_ret
      exact ⟨rfl, B1⟩
    have h1' : decide ((1000 : Int) < (a.host.name.length : Int)) = false := by simp; omega
    by_cases h2 : 1000 < b.host.name.length
    · have h2' : (1000 : Int) < (b.host.name.length : Int) := by omega
      go_enter Tryz.func4, Tryz.ntmps4
      go_wp2_with fail
      refine HAW.out.mono ?_
      rintro e w1 ⟨rfl, hb1⟩
      have R1 := SReady.below hb1 HR.out
      go_wp2_with fail
      refine (HSM.out _ R1.seen).mono ?_
      rintro e w2 ⟨rfl, rfl⟩
      have B1 := R1.bel
      have i3 := R1.x.c3; have j3 := R1.y.c3
      go_wp2_with fail
      go_ret
      exact ⟨rfl, B1⟩
    have h2' : decide ((1000 : Int) < (b.host.name.length : Int)) = false := by simp; omega
    have sa : SmallH a := ⟨ga, ka, by omega⟩
    have sb : SmallH b := ⟨gb, kb, by omega⟩
    have so : SmallO a := ⟨hso, by omega, ga, ka, pa, pb⟩
    clear h1 h2
    obtain ⟨r1, e1⟩ : ∃ r, sameO a b = r := ⟨_, rfl⟩
    obtain ⟨r2, e2⟩ : ∃ r, siteB a b sx = r := ⟨_, rfl⟩
    obtain ⟨t1, e3⟩ : ∃ r, otextL a = r := ⟨_, rfl⟩
    obtain ⟨t2, e4⟩ : ∃ r, ositeL a sx = r := ⟨_, rfl⟩
    have A1 := Lib.hid (fun W => hsame_is e1 W)
    have A2 := Lib.hid (fun W => hrsame_is e1 W)
    have A3 := Lib.hid (fun W h => mtext_is e3 W so h)
    have A4 := Lib.hid (fun W h => rtext_is e3 W so h)
    have C1 := Lib.hid (fun W h g => hsi_is D cp e4 W h sa hfew g)
    have C2 := Lib.hid (fun W h g => hrsi_is D cp e4 W h sa hfew g)
    have C3 := Lib.hid (fun W h g => hss_is D cp e2 W h sa sb hfew g)
    have C4 := Lib.hid (fun W h g => hrss_is D cp e2 W h sa sb hfew g)
    clear e1 e2 e3 e4 sa sb so hfew hso
    go_enter Tryz.func4, Tryz.ntmps4
    go_wp2_with fail
    refine HAW.out.mono ?_
    rintro e w1 ⟨rfl, hb1⟩
    have R1 := SReady.below hb1 HR.out
    go_wp2_with fail
    refine (HSM.out _ R1.seen).mono ?_
    rintro e w2 ⟨rfl, rfl⟩
    have B1 := R1.bel
    have i3 := R1.x.c3; have j3 := R1.y.c3
    go_wp2_with fail
    clear i3 j3 B1
    go_region_held3 (fun w' => w'.cell? ⟨w.heap.size, 0, none⟩ = some (.bool a.op) ∧ w'.cell? ⟨w.heap.size, 1, none⟩ = some (.int .i64 a.id) ∧ w'.cell? ⟨w.heap.size, 2, none⟩ = some (.string (bA a.scheme)) ∧ w'.cell? ⟨w.heap.size, 3, none⟩ = some (.string (bA a.host.name)) ∧ w'.cell? ⟨w.heap.size, 4, none⟩ = some (.bool a.host.v4) ∧ w'.cell? ⟨w.heap.size, 5, none⟩ = some (.int .u32 a.host.addr) ∧ w'.cell? ⟨w.heap.size, 6, none⟩ = some (.int .i64 a.port) ∧ w'.cell? ⟨w.heap.size + 1, 0, none⟩ = some (.bool b.op) ∧ w'.cell? ⟨w.heap.size + 1, 1, none⟩ = some (.int .i64 b.id) ∧ w'.cell? ⟨w.heap.size + 1, 2, none⟩ = some (.string (bA b.scheme)) ∧ w'.cell? ⟨w.heap.size + 1, 3, none⟩ = some (.string (bA b.host.name)) ∧ w'.cell? ⟨w.heap.size + 1, 4, none⟩ = some (.bool b.host.v4) ∧ w'.cell? ⟨w.heap.size + 1, 5, none⟩ = some (.int .u32 b.host.addr) ∧ w'.cell? ⟨w.heap.size + 1, 6, none⟩ = some (.int .i64 b.port) ∧ SReady w w.heap.size (w.heap.size + 1) a b D sx w')
      (first
        | exact R1.all
        | exact R1.drew.all
        | exact hR2.all
        | exact hR3.all
        | exact hR4.all
        | exact hR5.all)
      (first
        | (go_at_call 11; refine (A1.out _).mono ?_; rintro e w3 ⟨rfl, hb3⟩; have hR2 := SReady.below hb3 R1.drew)
        | (go_at_call 12; refine (A2.out _).mono ?_; rintro e w4 ⟨rfl, hb4⟩; have hR3 := SReady.below hb4 hR2)
        | (go_at_call 8; refine (A3.out _ hR3.tab).mono ?_; rintro e w5 ⟨rfl, hb5⟩; have hR4 := SReady.below hb5 hR3)
        | (go_at_call 9; refine (A4.out _ hR4.tab).mono ?_; rintro e w6 ⟨rfl, hb6⟩; have hR5 := SReady.below hb6 hR4))
    go_wp2_with fail
    go_region_held3 (fun w' => w'.cell? ⟨w.heap.size, 0, none⟩ = some (.bool a.op) ∧ w'.cell? ⟨w.heap.size, 1, none⟩ = some (.int .i64 a.id) ∧ w'.cell? ⟨w.heap.size, 2, none⟩ = some (.string (bA a.scheme)) ∧ w'.cell? ⟨w.heap.size, 3, none⟩ = some (.string (bA a.host.name)) ∧ w'.cell? ⟨w.heap.size, 4, none⟩ = some (.bool a.host.v4) ∧ w'.cell? ⟨w.heap.size, 5, none⟩ = some (.int .u32 a.host.addr) ∧ w'.cell? ⟨w.heap.size, 6, none⟩ = some (.int .i64 a.port) ∧ w'.cell? ⟨w.heap.size + 1, 0, none⟩ = some (.bool b.op) ∧ w'.cell? ⟨w.heap.size + 1, 1, none⟩ = some (.int .i64 b.id) ∧ w'.cell? ⟨w.heap.size + 1, 2, none⟩ = some (.string (bA b.scheme)) ∧ w'.cell? ⟨w.heap.size + 1, 3, none⟩ = some (.string (bA b.host.name)) ∧ w'.cell? ⟨w.heap.size + 1, 4, none⟩ = some (.bool b.host.v4) ∧ w'.cell? ⟨w.heap.size + 1, 5, none⟩ = some (.int .u32 b.host.addr) ∧ w'.cell? ⟨w.heap.size + 1, 6, none⟩ = some (.int .i64 b.port) ∧ SReady w w.heap.size (w.heap.size + 1) a b D sx w')
      (first
        | exact hR5.all
        | exact hR5.drew.all
        | exact hR6.all
        | exact hR7.all
        | exact hR8.all
        | exact hR9.all)
      (first
        | (go_at_call 13; refine (C1.out _ hR5.drew.tab hR5.drew.seen).mono ?_; rintro e w7 ⟨rfl, hb7⟩; have hR6 := SReady.below hb7 hR5.drew)
        | (go_at_call 14; refine (C2.out _ hR6.tab hR6.seen).mono ?_; rintro e w8 ⟨rfl, hb8⟩; have hR7 := SReady.below hb8 hR6)
        | (go_at_call 15; refine (C3.out _ hR7.tab hR7.seen).mono ?_; rintro e w9 ⟨rfl, hb9⟩; have hR8 := SReady.below hb9 hR7)
        | (go_at_call 16; refine (C4.out _ hR8.tab hR8.seen).mono ?_; rintro e w10 ⟨rfl, hb10⟩; have hR9 := SReady.below hb10 hR8))
    go_wp2_with fail
    go_ret
    exact ⟨rfl, hR9.bel⟩
end Go.Proofs.YtehjnidggnfbfaaGreatDoor
