/- The walk of the statement on any URL's text, and the one within. -/
import Derived.Test.YtbeckddgelcbhaaGreatDoorUrlpAwake
import Derived.Test.YtbeckddgelcbhaaGreatDoorUrlpRtext
import Derived.Test.YtbeckddgelcbhaaGreatDoorUrlpOpen
namespace Go.Proofs.YtbeckddgelcbhaaGreatDoor
open Go.RowKit

/-- What the calls of the last statement ask of the world. -/
structure TeReady (w0 : World) (B : Nat) (u : Urp.URL) (C D : Nat) (x : Urp.URL) (W : World) : Prop where
  bel : Below w0.heap.size w0 W
  tab : Tab W
  box : UBox W B u
  b1 : UBox W C x
  b2 : UBox W D x
theorem TeReady.below {w0 : World} {B : Nat} {u : Urp.URL} {C D : Nat} {x : Urp.URL} {W W' : World} (hb : Below W.heap.size W W') (h : TeReady w0 B u C D x W) : TeReady w0 B u C D x W' := ⟨below_on h.bel hb, h.tab.below hb, h.box.keep hb, h.b1.keep hb, h.b2.keep hb⟩
theorem TeReady.drew {w0 : World} {B : Nat} {u : Urp.URL} {C D : Nat} {x : Urp.URL} {W : World} (h : TeReady w0 B u C D x W) : TeReady w0 B u C D x W.drew := ⟨h.bel.drew, h.tab, h.box, h.b1, h.b2⟩
theorem TeReady.all {w0 : World} {B : Nat} {u : Urp.URL} {C D : Nat} {x : Urp.URL} {W : World} (h : TeReady w0 B u C D x W) :
    W.cell? ⟨B, 0, none⟩ = some (.string (bA u.scheme)) ∧ W.cell? ⟨B, 1, none⟩ = some (.string (bA u.host.name)) ∧ W.cell? ⟨B, 2, none⟩ = some (.bool u.host.v4) ∧ W.cell? ⟨B, 3, none⟩ = some (.int .u32 u.host.addr) ∧ W.cell? ⟨B, 4, none⟩ = some (.int .i64 u.port) ∧ W.cell? ⟨B, 5, none⟩ = some (.string (bA u.path)) ∧ W.cell? ⟨B, 6, none⟩ = some (.bool u.hasq) ∧ W.cell? ⟨B, 7, none⟩ = some (.string (bA u.query)) ∧ W.cell? ⟨B, 8, none⟩ = some (.string (bA u.rest)) ∧ W.cell? ⟨C, 0, none⟩ = some (.string (bA x.scheme)) ∧ W.cell? ⟨C, 1, none⟩ = some (.string (bA x.host.name)) ∧ W.cell? ⟨C, 2, none⟩ = some (.bool x.host.v4) ∧ W.cell? ⟨C, 3, none⟩ = some (.int .u32 x.host.addr) ∧ W.cell? ⟨C, 4, none⟩ = some (.int .i64 x.port) ∧ W.cell? ⟨C, 5, none⟩ = some (.string (bA x.path)) ∧ W.cell? ⟨C, 6, none⟩ = some (.bool x.hasq) ∧ W.cell? ⟨C, 7, none⟩ = some (.string (bA x.query)) ∧ W.cell? ⟨C, 8, none⟩ = some (.string (bA x.rest)) ∧ W.cell? ⟨D, 0, none⟩ = some (.string (bA x.scheme)) ∧ W.cell? ⟨D, 1, none⟩ = some (.string (bA x.host.name)) ∧ W.cell? ⟨D, 2, none⟩ = some (.bool x.host.v4) ∧ W.cell? ⟨D, 3, none⟩ = some (.int .u32 x.host.addr) ∧ W.cell? ⟨D, 4, none⟩ = some (.int .i64 x.port) ∧ W.cell? ⟨D, 5, none⟩ = some (.string (bA x.path)) ∧ W.cell? ⟨D, 6, none⟩ = some (.bool x.hasq) ∧ W.cell? ⟨D, 7, none⟩ = some (.string (bA x.query)) ∧ W.cell? ⟨D, 8, none⟩ = some (.string (bA x.rest)) ∧ TeReady w0 B u C D x W :=
  ⟨h.box.c0, h.box.c1, h.box.c2, h.box.c3, h.box.c4, h.box.c5, h.box.c6, h.box.c7, h.box.c8, h.b1.c0, h.b1.c1, h.b1.c2, h.b1.c3, h.b1.c4, h.b1.c5, h.b1.c6, h.b1.c7, h.b1.c8, h.b2.c0, h.b2.c1, h.b2.c2, h.b2.c3, h.b2.c4, h.b2.c5, h.b2.c6, h.b2.c7, h.b2.c8, h⟩

set_option maxHeartbeats 16000000 in
set_option maxRecDepth 100000 in
theorem walk_UrlpTells (u : Urp.URL) (w : World) (hw : WideU u) (hT : Tab w) (hT8 : Tab8 w) : Calls Tryz.prog 3 #[urlV u] w fun e w' => e = .returned (.bool true) ∧ Below w.heap.size w w' := by
  obtain ⟨s1, s2, a0, a1, p0, p1, s3, s4, s5⟩ := hw
  unfold maxLen at s1 s2 s3 s4 s5
  have hbx : Below w.heap.size w (w.alloc (.cells (uCells u) 26)) := (Below.refl _ w).alloc (Nat.le_refl _) _
  have HA := Lib.hid (awake_any _ (hT.below hbx) (hT8.below hbx))
  have HT := Lib.hid hT
  have HT8 := Lib.hid hT8
  have HBX := Lib.hid hbx
  have HQ := Lib.hid (UBox.new w u)
  unfold urlV
  unfold uCells at HA HBX ⊢
  clear hT hT8 hbx
  by_cases hr : 3000 < u.rest.length
  · have hr' : (3000 : Int) < (u.rest.length : Int) := by omega
    clear hr
    go_enter Tryz.func3, Tryz.ntmps3
    go_wp2_with fail
    refine HA.out.mono ?_
    rintro e w1 ⟨rfl, hb1⟩
    have q1 := HQ.out.keep hb1
    have hB := below_on HBX.out hb1
    clear hb1
    have c0 := q1.c0; have c1 := q1.c1; have c5 := q1.c5; have c7 := q1.c7; have c8 := q1.c8
    go_wp2_with fail
    go_ret
    exact ⟨rfl, hB⟩
  have hr' : (u.rest.length : Int) ≤ 3000 := by omega
  have hr3 : u.rest.length ≤ 3000 := by omega
  clear hr
  by_cases hp : 3000 < u.path.length
  · have hp' : (3000 : Int) < (u.path.length : Int) := by omega
    clear hp
    go_enter Tryz.func3, Tryz.ntmps3
    go_wp2_with fail
    refine HA.out.mono ?_
    rintro e w1 ⟨rfl, hb1⟩
    have q1 := HQ.out.keep hb1
    have hB := below_on HBX.out hb1
    clear hb1
    have c0 := q1.c0; have c1 := q1.c1; have c5 := q1.c5; have c7 := q1.c7; have c8 := q1.c8
    go_wp2_with fail
    go_ret
    exact ⟨rfl, hB⟩
  have hp' : (u.path.length : Int) ≤ 3000 := by omega
  have hp3 : u.path.length ≤ 3000 := by omega
  clear hp
  by_cases hq : 3000 < u.query.length
  · have hq' : (3000 : Int) < (u.query.length : Int) := by omega
    clear hq
    go_enter Tryz.func3, Tryz.ntmps3
    go_wp2_with fail
    refine HA.out.mono ?_
    rintro e w1 ⟨rfl, hb1⟩
    have q1 := HQ.out.keep hb1
    have hB := below_on HBX.out hb1
    clear hb1
    have c0 := q1.c0; have c1 := q1.c1; have c5 := q1.c5; have c7 := q1.c7; have c8 := q1.c8
    go_wp2_with fail
    go_ret
    exact ⟨rfl, hB⟩
  have hq' : (u.query.length : Int) ≤ 3000 := by omega
  have hq3 : u.query.length ≤ 3000 := by omega
  clear hq
  by_cases hn : 3000 < u.host.name.length
  · have hn' : (3000 : Int) < (u.host.name.length : Int) := by omega
    clear hn
    go_enter Tryz.func3, Tryz.ntmps3
    go_wp2_with fail
    refine HA.out.mono ?_
    rintro e w1 ⟨rfl, hb1⟩
    have q1 := HQ.out.keep hb1
    have hB := below_on HBX.out hb1
    clear hb1
    have c0 := q1.c0; have c1 := q1.c1; have c5 := q1.c5; have c7 := q1.c7; have c8 := q1.c8
    go_wp2_with fail
    go_ret
    exact ⟨rfl, hB⟩
  have hn' : (u.host.name.length : Int) ≤ 3000 := by omega
  have hn3 : u.host.name.length ≤ 3000 := by omega
  clear hn
  by_cases hs : 3000 < u.scheme.length
  · have hs' : (3000 : Int) < (u.scheme.length : Int) := by omega
    clear hs
    go_enter Tryz.func3, Tryz.ntmps3
    go_wp2_with fail
    refine HA.out.mono ?_
    rintro e w1 ⟨rfl, hb1⟩
    have q1 := HQ.out.keep hb1
    have hB := below_on HBX.out hb1
    clear hb1
    have c0 := q1.c0; have c1 := q1.c1; have c5 := q1.c5; have c7 := q1.c7; have c8 := q1.c8
    go_wp2_with fail
    go_ret
    exact ⟨rfl, hB⟩
  have hs' : (u.scheme.length : Int) ≤ 3000 := by omega
  have hs3 : u.scheme.length ≤ 3000 := by omega
  clear hs
  have hS : SmallU u := ⟨by omega, by omega, a0, a1, p0, p1, by omega, by omega, by omega⟩
  have HTX : Hid (∀ W : World, Tab W → Calls Tryz.prog 7 #[.agg #[.string (bA u.scheme), .string (bA u.host.name), .bool u.host.v4, .int .u32 u.host.addr, .int .i64 u.port, .string (bA u.path), .bool u.hasq, .string (bA u.query), .string (bA u.rest)]] W fun e w' => e = .returned (.string (bA (utextL u))) ∧ Below W.heap.size W w') := Lib.hid (fun W h => utext_any u W hS h)
  have HRX : Hid (∀ W : World, Tab W → Calls Tryz.prog 8 #[.agg #[.string (bA u.scheme), .string (bA u.host.name), .bool u.host.v4, .int .u32 u.host.addr, .int .i64 u.port, .string (bA u.path), .bool u.hasq, .string (bA u.query), .string (bA u.rest)]] W fun e w' => e = .returned (.string (bA (utextL u))) ∧ Below W.heap.size W w') := Lib.hid (fun W h => rutext_any u W hS h)
  obtain ⟨x, hx⟩ : ∃ x, (Urp.innerU u).getD Urp.zeroU = x := ⟨_, rfl⟩
  obtain ⟨b, hb⟩ : ∃ b, (Urp.innerU u).isSome = b := ⟨_, rfl⟩
  have hI1 := fun W h => inner_any u W (by omega) h
  have hI2 := fun W => rinner_any u W (by omega)
  unfold inV urlV uCells at hI1 hI2
  rw [hx, hb] at hI1 hI2
  have HI1 := Lib.hid hI1
  have HI2 := Lib.hid hI2
  obtain ⟨t, ht⟩ : ∃ t, utextL u = t := ⟨_, rfl⟩
  rw [ht] at HTX HRX
  clear hI1 hI2 hx hb ht hS
  go_enter Tryz.func3, Tryz.ntmps3
  go_wp2_with fail
  refine HA.out.mono ?_
  rintro e w1 ⟨rfl, hb1⟩
  have q1 := HQ.out.keep hb1
  have hB := below_on HBX.out hb1
  clear hb1
  have c0 := q1.c0; have c1 := q1.c1; have c5 := q1.c5; have c7 := q1.c7; have c8 := q1.c8
  have c2 := q1.c2; have c3 := q1.c3; have c4 := q1.c4; have c6 := q1.c6
  have HT1 := Lib.hid (HT8.out.below hB)
  go_wp2_with fail
  refine (HI1.out _ HT1.out).mono ?_
  rintro e w2 ⟨rfl, hb2⟩
  have b2 := below_on hB hb2
  have q2 := q1.keep hb2
  have b3 := b2.alloc (o := .cells (uCells x) 26) b2.size
  have l2 := q2.lt
  have n2 : w.heap.size ≠ w2.heap.size := by omega
  have q3 := q2.alloc (.cells (uCells x) 26)
  have x3 := UBox.new w2 x
  clear hb2 q1 hB c0 c1 c2 c3 c4 c5 c6 c7 c8
  have c0 := q2.c0; have c1 := q2.c1; have c2 := q2.c2; have c3 := q2.c3; have c4 := q2.c4; have c5 := q2.c5; have c6 := q2.c6; have c7 := q2.c7; have c8 := q2.c8
  go_wp2_with fail
  refine (HI2.out _).mono ?_
  rintro e w3 ⟨rfl, hb3⟩
  have b4 := below_on b3 hb3
  have b5 := b4.alloc (o := .cells (uCells x) 26) b4.size
  have hR : TeReady w w.heap.size u w2.heap.size w3.heap.size x (w3.alloc (.cells (uCells x) 26)) := ⟨b5, HT.out.below b5, (q3.keep hb3).alloc _, (x3.keep hb3).alloc _, UBox.new w3 x⟩
  clear hb3 b4 b5 b3 b2 q2 q3 x3 c0 c1 c2 c3 c4 c5 c6 c7 c8 l2 n2
  unfold uCells at hR
  go_wp2_with fail
  go_region_held3 (fun w' => w'.cell? ⟨w.heap.size, 0, none⟩ = some (.string (bA u.scheme)) ∧ w'.cell? ⟨w.heap.size, 1, none⟩ = some (.string (bA u.host.name)) ∧ w'.cell? ⟨w.heap.size, 2, none⟩ = some (.bool u.host.v4) ∧ w'.cell? ⟨w.heap.size, 3, none⟩ = some (.int .u32 u.host.addr) ∧ w'.cell? ⟨w.heap.size, 4, none⟩ = some (.int .i64 u.port) ∧ w'.cell? ⟨w.heap.size, 5, none⟩ = some (.string (bA u.path)) ∧ w'.cell? ⟨w.heap.size, 6, none⟩ = some (.bool u.hasq) ∧ w'.cell? ⟨w.heap.size, 7, none⟩ = some (.string (bA u.query)) ∧ w'.cell? ⟨w.heap.size, 8, none⟩ = some (.string (bA u.rest)) ∧ w'.cell? ⟨w2.heap.size, 0, none⟩ = some (.string (bA x.scheme)) ∧ w'.cell? ⟨w2.heap.size, 1, none⟩ = some (.string (bA x.host.name)) ∧ w'.cell? ⟨w2.heap.size, 2, none⟩ = some (.bool x.host.v4) ∧ w'.cell? ⟨w2.heap.size, 3, none⟩ = some (.int .u32 x.host.addr) ∧ w'.cell? ⟨w2.heap.size, 4, none⟩ = some (.int .i64 x.port) ∧ w'.cell? ⟨w2.heap.size, 5, none⟩ = some (.string (bA x.path)) ∧ w'.cell? ⟨w2.heap.size, 6, none⟩ = some (.bool x.hasq) ∧ w'.cell? ⟨w2.heap.size, 7, none⟩ = some (.string (bA x.query)) ∧ w'.cell? ⟨w2.heap.size, 8, none⟩ = some (.string (bA x.rest)) ∧ w'.cell? ⟨w3.heap.size, 0, none⟩ = some (.string (bA x.scheme)) ∧ w'.cell? ⟨w3.heap.size, 1, none⟩ = some (.string (bA x.host.name)) ∧ w'.cell? ⟨w3.heap.size, 2, none⟩ = some (.bool x.host.v4) ∧ w'.cell? ⟨w3.heap.size, 3, none⟩ = some (.int .u32 x.host.addr) ∧ w'.cell? ⟨w3.heap.size, 4, none⟩ = some (.int .i64 x.port) ∧ w'.cell? ⟨w3.heap.size, 5, none⟩ = some (.string (bA x.path)) ∧ w'.cell? ⟨w3.heap.size, 6, none⟩ = some (.bool x.hasq) ∧ w'.cell? ⟨w3.heap.size, 7, none⟩ = some (.string (bA x.query)) ∧ w'.cell? ⟨w3.heap.size, 8, none⟩ = some (.string (bA x.rest)) ∧ TeReady w w.heap.size u w2.heap.size w3.heap.size x w')
    (first
      | exact hR.all
      | exact hR.drew.all
      | exact hR2.all
      | exact hR3.all
      | exact hR4.all
      | exact hR5.all)
    (first
      | (go_at_call 7; refine (HTX.out _ hR.drew.tab).mono ?_; rintro e w5 ⟨rfl, hb5⟩; have hR2 := TeReady.below hb5 hR.drew)
      | (go_at_call 8; refine (HRX.out _ hR2.tab).mono ?_; rintro e w6 ⟨rfl, hb6⟩; have hR3 := TeReady.below hb6 hR2)
      | (go_at_call 9; refine (netV_any _ _ _ _ _ _ _ _ _ _).mono ?_; rintro e w7 ⟨rfl, hb7⟩; have hR4 := TeReady.below hb7 hR3)
      | (go_at_call 10; refine (rnetV_any _ _ _ _ _ _ _ _ _ _).mono ?_; rintro e w8 ⟨rfl, hb8⟩; have hR5 := TeReady.below hb8 hR4))
  go_wp2_with fail
  go_ret
  exact ⟨rfl, hR5.bel⟩
end Go.Proofs.YtbeckddgelcbhaaGreatDoor
