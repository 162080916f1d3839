/- The walk of the statement CspparseFirst (written by mkfi.py: one text for each of the four ways that the first policy may be). -/
import Derived.Test.YtcmbckacbdiebaaCsAwake
import Derived.Deep.RegionHeldLaw
namespace Go.Proofs.Ytcmbckacbdiebaa
open Go.RowKit Go.Deep

theorem rdy_p {w1 W : World} {B : Nat} {x y : Bool} {u v : Value} (hx : CBox w1 B 26 #[.bool x, u, .bool y, v]) (hb : Below w1.heap.size w1 W) :
    W.cell? ⟨B, 0, none⟩ = some (.bool x) ∧ W.cell? ⟨B, 1, none⟩ = some u ∧ W.cell? ⟨B, 2, none⟩ = some (.bool y) ∧ W.cell? ⟨B, 3, none⟩ = some v ∧ Below w1.heap.size w1 W :=
  ⟨(hx.keep hb).c 0, (hx.keep hb).c 1, (hx.keep hb).c 2, (hx.keep hb).c 3, hb⟩
set_option maxHeartbeats 4000000 in
set_option maxRecDepth 20000 in
theorem first_true_true (S T : List UInt8) (w : World) (hs : S.length ≤ 2000) (ht : T.length ≤ 2000) (la : List (List UInt8)) (lb : List (List UInt8)) (ya : Bool) (ma : List (List UInt8)) (yb : Bool) (mb : List (List UInt8))
    (h1 : Cs.one S = ⟨true, la, true, lb⟩) (h2 : Cs.one T = ⟨ya, ma, yb, mb⟩) :
    Calls Try.prog 7 #[.string (bA S), .string (bA T)] w fun e w' => e = .returned (.bool true) ∧ Below w.heap.size w w' := by
  have z1 : ¬ ((2000 : Int) < (S.length : Int)) := by omega
  have z2 : ¬ ((2000 : Int) < (T.length : Int)) := by omega
  have q1 : ¬ 9223372036854775807 < S.length + 1 := by omega
  have q2 : ¬ 9223372036854775807 < S.length + 1 + T.length := by omega
  have q3 : ¬ 9223372036854775807 < 10 + S.length := by omega
  have c1 := fun W => csOne_any S W (by omega)
  have c2 := fun W => csOne_any T W (by omega)
  have c3 := fun W => csOne_any (S ++ [59] ++ T) W (by simp; omega)
  have c4 := fun W => csOne_any (Cs.imgX ++ [59] ++ S) W (by simp [Cs.imgX]; omega)
  have f1 := one_fit (s := S) (by omega)
  have f3 := one_fit (s := S ++ [59] ++ T) (by simp; omega)
  rw [Cs.one_other, h1] at c4
  rw [h1] at c1 f1
  rw [h2] at c2
  rw [Cs.one_glue, h1, h2] at c3 f3
  have hc : (⟨true || ya, if true = true then la else ma, true || yb, if true = true then lb else mb⟩ : Cs.Pol) = ⟨true, la, true, lb⟩ := by simp
  dsimp only at c3 f3
  rw [hc] at c3 f3
  have j1 : bA S ++ ({ data := #[59] } : ByteArray) ++ bA T = bA (S ++ [59] ++ T) := by rw [show ({ data := #[59] } : ByteArray) = bA [59] from rfl, bA_app, bA_app]
  have j2 : ({ data := #[105, 109, 103, 45, 115, 114, 99, 32, 120, 59] } : ByteArray) ++ bA S = bA (Cs.imgX ++ [59] ++ S) := by rw [show ({ data := #[105, 109, 103, 45, 115, 114, 99, 32, 120, 59] } : ByteArray) = bA (Cs.imgX ++ [59]) from rfl, bA_app]
  obtain ⟨U, hU⟩ : ∃ U, S ++ [59] ++ T = U := ⟨_, rfl⟩
  obtain ⟨V, hV⟩ : ∃ V, Cs.imgX ++ [59] ++ S = V := ⟨_, rfl⟩
  rw [hU] at c3 j1
  rw [hV] at c4 j2
  have J1 := Lib.hid j1; have J2 := Lib.hid j2; have F1 := Lib.hid f1; have F3 := Lib.hid f3
  have C1 := Lib.hid c1; have C2 := Lib.hid c2; have C3 := Lib.hid c3; have C4 := Lib.hid c4
  clear j1 j2 hU hV h1 h2 f1 f3 hs ht hc c1 c2 c3 c4
  go_enter Try.func7, Try.ntmps7
  go_wp2_with fail
  refine (awake10_any _).mono ?_
  rintro e w1 ⟨rfl, hb1⟩
  have HB1 := Lib.hid hb1
  clear hb1
  go_wp2_with fail
  refine (C1.out _).mono ?_
  rintro e w2 ⟨v2, rfl, hb2, A1, k1, A2, k2, rfl, t1, t2⟩
  have hbx := (Below.refl w2.heap.size w2).alloc (Nat.le_refl _) (.cells #[.bool true, .slice A1 la.length k1, .bool true, .slice A2 lb.length k2] 26)
  have HX2 := Lib.hid (CBox.new w2 26 #[.bool true, .slice A1 la.length k1, .bool true, .slice A2 lb.length k2])
  have TX2 : Hid (TextsIn _ A1 la ∧ TextsIn _ A2 lb) := Lib.hid ⟨t1.below hbx, t2.below hbx⟩
  have HB2 : Hid (Below w.heap.size w (w2.alloc (.cells #[.bool true, .slice A1 la.length k1, .bool true, .slice A2 lb.length k2] 26))) := Lib.hid (Below.onto HB1.out (hb2.trans (hbx.mono hb2.size)))
  clear hb2 t1 t2 hbx HB1
  unfold polC
  dsimp only
  go_wp2_with fail
  refine (C2.out _).mono ?_
  rintro e w3 ⟨v3, rfl, hb3, A3, k3, A4, k4, rfl, t3, t4⟩
  have hb3' := hb3.alloc hb3.size (.cells #[.bool ya, .slice A3 ma.length k3, .bool yb, .slice A4 mb.length k4] 26)
  have hby := (Below.refl w3.heap.size w3).alloc (Nat.le_refl _) (.cells #[.bool ya, .slice A3 ma.length k3, .bool yb, .slice A4 mb.length k4] 26)
  have HX3 := Lib.hid (HX2.out.keep hb3'); have TX3 := Lib.hid (And.intro (TX2.out.1.below hb3') (TX2.out.2.below hb3')); have HB3 := Lib.hid (Below.onto HB2.out hb3')
  have HY3 := Lib.hid (CBox.new w3 26 #[.bool ya, .slice A3 ma.length k3, .bool yb, .slice A4 mb.length k4])
  have TY3 : Hid (TextsIn _ A3 ma ∧ TextsIn _ A4 mb) := Lib.hid ⟨t3.below hby, t4.below hby⟩
  clear hb3 hb3' t3 t4 hby HX2 TX2 HB2
  unfold polC
  dsimp only
  go_wp2_with fail
  rw [J1.out]
  refine (C3.out _).mono ?_
  rintro e w4 ⟨v4, rfl, hb4, A5, k5, A6, k6, rfl, t5, t6⟩
  have hb4' := hb4.alloc hb4.size (.cells #[.bool true, .slice A5 (la).length k5, .bool true, .slice A6 (lb).length k6] 26)
  have hbz := (Below.refl w4.heap.size w4).alloc (Nat.le_refl _) (.cells #[.bool true, .slice A5 (la).length k5, .bool true, .slice A6 (lb).length k6] 26)
  have HX4 := Lib.hid (HX3.out.keep hb4'); have TX4 := Lib.hid (And.intro (TX3.out.1.below hb4') (TX3.out.2.below hb4')); have HY4 := Lib.hid (HY3.out.keep hb4'); have TY4 := Lib.hid (And.intro (TY3.out.1.below hb4') (TY3.out.2.below hb4')); have HB4 := Lib.hid (Below.onto HB3.out hb4')
  have HZ4 : Hid (PolIn _ ⟨true, la, true, lb⟩ (.agg #[.bool true, .slice A5 (la).length k5, .bool true, .slice A6 (lb).length k6])) := Lib.hid ⟨A5, k5, A6, k6, rfl, t5.below hbz, t6.below hbz⟩
  have x0 := HX4.out.c 0; have x1 := HX4.out.c 1; have x2 := HX4.out.c 2; have x3 := HX4.out.c 3
  have y0 := HY4.out.c 0; have y1 := HY4.out.c 1; have y2 := HY4.out.c 2; have y3 := HY4.out.c 3
  have deep : ∀ (o : Obj) (B : Nat) (cs : Array Value), CBox (w4.alloc (.cells #[.bool true, .slice A5 (la).length k5, .bool true, .slice A6 (lb).length k6] 26)) B 26 cs → ∀ i, ((w4.alloc (.cells #[.bool true, .slice A5 (la).length k5, .bool true, .slice A6 (lb).length k6] 26)).alloc o).cell? ⟨B, i, none⟩ = cs[i]? := fun o B cs h i => (h.alloc o).c i
  have u0 : ∀ o, _ := fun o => deep o _ _ HX4.out 0
  have u1 : ∀ o, _ := fun o => deep o _ _ HX4.out 1
  have u2 : ∀ o, _ := fun o => deep o _ _ HX4.out 2
  have u3 : ∀ o, _ := fun o => deep o _ _ HX4.out 3
  have v0 : ∀ o, _ := fun o => deep o _ _ HY4.out 0
  have v1 : ∀ o, _ := fun o => deep o _ _ HY4.out 1
  have v2 : ∀ o, _ := fun o => deep o _ _ HY4.out 2
  have v3 : ∀ o, _ := fun o => deep o _ _ HY4.out 3
  simp only [List.getElem?_toArray, List.getElem?_cons_zero, List.getElem?_cons_succ] at u0 u1 u2 u3 v0 v1 v2 v3
  clear hb4 hb4' t5 t6 hbz HX3 TX3 HB3 HY3 TY3 deep
  unfold polC
  dsimp only
  go_wp2_with fail
  have hw5 := (Below.refl (w4.alloc (.cells #[.bool true, .slice A5 (la).length k5, .bool true, .slice A6 (lb).length k6] 26)).heap.size (w4.alloc (.cells #[.bool true, .slice A5 (la).length k5, .bool true, .slice A6 (lb).length k6] 26))).alloc (Nat.le_refl _) (.cells #[.bool true, .slice A1 (la).length k1, .bool true, .slice A2 (lb).length k2] 26)
  have hall := HZ4.out.below hw5
  have hwant : PolAt ((w4.alloc (.cells #[.bool true, .slice A5 (la).length k5, .bool true, .slice A6 (lb).length k6] 26)).alloc (.cells #[.bool true, .slice A1 (la).length k1, .bool true, .slice A2 (lb).length k2] 26)) ⟨true, la, true, lb⟩ (.agg #[.bool true, .slice A1 (la).length k1, .bool true, .slice A2 (lb).length k2]) := ⟨A1, k1, A2, k2, rfl, (TX4.out.1.below hw5).seen, (TX4.out.2.below hw5).seen⟩
  have HB5 := Lib.hid (Below.onto HB4.out hw5); have HX5 := Lib.hid (HX4.out.keep hw5); have TX5 := Lib.hid (And.intro (TX4.out.1.below hw5) (TX4.out.2.below hw5))
  refine (same_self ⟨true, la, true, lb⟩ _ _ _ F3.out hall.at hwant).mono ?_
  rintro e w6 ⟨rfl, hb6⟩
  have HB6 := Lib.hid (Below.onto HB5.out hb6); have HX6 := Lib.hid (HX5.out.keep hb6); have TX6 := Lib.hid (And.intro (TX5.out.1.below hb6) (TX5.out.2.below hb6))
  clear hb6 hw5 hall hwant HB5 HX5 TX5 u0 u1 u2 u3 v0 v1 v2 v3 x0 x1 x2 x3 y0 y1 y2 y3 HX4 HY4 TX4 TY4 HB4 HZ4 F3 C1 C2 C3
  have x0 := HX6.out.c 0; have x1 := HX6.out.c 1; have x2 := HX6.out.c 2; have x3 := HX6.out.c 3
  have hb0 : Below w6.heap.size w6 w6 := Below.refl _ _
  go_wp2_with fail
  go_region_held_law (fun W => W.cell? ⟨w2.heap.size, 0, none⟩ = some (.bool true) ∧ W.cell? ⟨w2.heap.size, 1, none⟩ = some (.slice A1 la.length k1) ∧ W.cell? ⟨w2.heap.size, 2, none⟩ = some (.bool true) ∧ W.cell? ⟨w2.heap.size, 3, none⟩ = some (.slice A2 lb.length k2) ∧ Below w6.heap.size w6 W)
    (first
      | exact rdy_p HX6.out hb8
      | exact rdy_p HX6.out hb7
      | exact rdy_p HX6.out hb0.drew
      | exact rdy_p HX6.out hb0)
    (first
      | (go_at_call 11; rw [J2.out]; refine (C4.out _).mono ?_; rintro e w7 ⟨v7, rfl, hb7', B1, m1, B2, m2, rfl, t7, t8⟩; have hb7 : Below w6.heap.size w6 w7 := by first | exact hb7' | exact hb0.drew.trans hb7')
      | (go_at_call 10; refine (same_self ⟨true, la, true, lb⟩ _ _ w7 F1.out ⟨B1, m1, B2, m2, rfl, t7.seen, t8.seen⟩ ⟨A1, k1, A2, k2, rfl, (TX6.out.1.below hb7).seen, (TX6.out.2.below hb7).seen⟩).mono ?_; rintro e w8 ⟨rfl, hb8'⟩; have hb8 : Below w6.heap.size w6 w8 := Below.onto hb7 hb8')
      | fail)
  all_goals
    have HB8 := Lib.hid (Below.onto HB6.out hb8)
    rename_i hHeld
    clear hHeld hb8 hb8' hb7 hb7' t7 t8 hb0 x0 x1 x2 x3
    go_wp2_with fail
    go_ret
    exact ⟨rfl, HB8.out⟩
set_option maxHeartbeats 4000000 in
set_option maxRecDepth 20000 in
theorem first_true_false (S T : List UInt8) (w : World) (hs : S.length ≤ 2000) (ht : T.length ≤ 2000) (la : List (List UInt8)) (lb : List (List UInt8)) (ya : Bool) (ma : List (List UInt8)) (yb : Bool) (mb : List (List UInt8))
    (h1 : Cs.one S = ⟨true, la, false, lb⟩) (h2 : Cs.one T = ⟨ya, ma, yb, mb⟩) :
    Calls Try.prog 7 #[.string (bA S), .string (bA T)] w fun e w' => e = .returned (.bool true) ∧ Below w.heap.size w w' := by
  have z1 : ¬ ((2000 : Int) < (S.length : Int)) := by omega
  have z2 : ¬ ((2000 : Int) < (T.length : Int)) := by omega
  have q1 : ¬ 9223372036854775807 < S.length + 1 := by omega
  have q2 : ¬ 9223372036854775807 < S.length + 1 + T.length := by omega
  have q3 : ¬ 9223372036854775807 < 10 + S.length := by omega
  have c1 := fun W => csOne_any S W (by omega)
  have c2 := fun W => csOne_any T W (by omega)
  have c3 := fun W => csOne_any (S ++ [59] ++ T) W (by simp; omega)
  have c4 := fun W => csOne_any (Cs.imgX ++ [59] ++ S) W (by simp [Cs.imgX]; omega)
  have f1 := one_fit (s := S) (by omega)
  have f3 := one_fit (s := S ++ [59] ++ T) (by simp; omega)
  rw [Cs.one_other, h1] at c4
  rw [h1] at c1 f1
  rw [h2] at c2
  rw [Cs.one_glue, h1, h2] at c3 f3
  have hc : (⟨true || ya, if true = true then la else ma, false || yb, if false = true then lb else mb⟩ : Cs.Pol) = ⟨true, la, yb, mb⟩ := by simp
  dsimp only at c3 f3
  rw [hc] at c3 f3
  have j1 : bA S ++ ({ data := #[59] } : ByteArray) ++ bA T = bA (S ++ [59] ++ T) := by rw [show ({ data := #[59] } : ByteArray) = bA [59] from rfl, bA_app, bA_app]
  have j2 : ({ data := #[105, 109, 103, 45, 115, 114, 99, 32, 120, 59] } : ByteArray) ++ bA S = bA (Cs.imgX ++ [59] ++ S) := by rw [show ({ data := #[105, 109, 103, 45, 115, 114, 99, 32, 120, 59] } : ByteArray) = bA (Cs.imgX ++ [59]) from rfl, bA_app]
  obtain ⟨U, hU⟩ : ∃ U, S ++ [59] ++ T = U := ⟨_, rfl⟩
  obtain ⟨V, hV⟩ : ∃ V, Cs.imgX ++ [59] ++ S = V := ⟨_, rfl⟩
  rw [hU] at c3 j1
  rw [hV] at c4 j2
  have J1 := Lib.hid j1; have J2 := Lib.hid j2; have F1 := Lib.hid f1; have F3 := Lib.hid f3
  have C1 := Lib.hid c1; have C2 := Lib.hid c2; have C3 := Lib.hid c3; have C4 := Lib.hid c4
  clear j1 j2 hU hV h1 h2 f1 f3 hs ht hc c1 c2 c3 c4
  go_enter Try.func7, Try.ntmps7
  go_wp2_with fail
  refine (awake10_any _).mono ?_
  rintro e w1 ⟨rfl, hb1⟩
  have HB1 := Lib.hid hb1
  clear hb1
  go_wp2_with fail
  refine (C1.out _).mono ?_
  rintro e w2 ⟨v2, rfl, hb2, A1, k1, A2, k2, rfl, t1, t2⟩
  have hbx := (Below.refl w2.heap.size w2).alloc (Nat.le_refl _) (.cells #[.bool true, .slice A1 la.length k1, .bool false, .slice A2 lb.length k2] 26)
  have HX2 := Lib.hid (CBox.new w2 26 #[.bool true, .slice A1 la.length k1, .bool false, .slice A2 lb.length k2])
  have TX2 : Hid (TextsIn _ A1 la ∧ TextsIn _ A2 lb) := Lib.hid ⟨t1.below hbx, t2.below hbx⟩
  have HB2 : Hid (Below w.heap.size w (w2.alloc (.cells #[.bool true, .slice A1 la.length k1, .bool false, .slice A2 lb.length k2] 26))) := Lib.hid (Below.onto HB1.out (hb2.trans (hbx.mono hb2.size)))
  clear hb2 t1 t2 hbx HB1
  unfold polC
  dsimp only
  go_wp2_with fail
  refine (C2.out _).mono ?_
  rintro e w3 ⟨v3, rfl, hb3, A3, k3, A4, k4, rfl, t3, t4⟩
  have hb3' := hb3.alloc hb3.size (.cells #[.bool ya, .slice A3 ma.length k3, .bool yb, .slice A4 mb.length k4] 26)
  have hby := (Below.refl w3.heap.size w3).alloc (Nat.le_refl _) (.cells #[.bool ya, .slice A3 ma.length k3, .bool yb, .slice A4 mb.length k4] 26)
  have HX3 := Lib.hid (HX2.out.keep hb3'); have TX3 := Lib.hid (And.intro (TX2.out.1.below hb3') (TX2.out.2.below hb3')); have HB3 := Lib.hid (Below.onto HB2.out hb3')
  have HY3 := Lib.hid (CBox.new w3 26 #[.bool ya, .slice A3 ma.length k3, .bool yb, .slice A4 mb.length k4])
  have TY3 : Hid (TextsIn _ A3 ma ∧ TextsIn _ A4 mb) := Lib.hid ⟨t3.below hby, t4.below hby⟩
  clear hb3 hb3' t3 t4 hby HX2 TX2 HB2
  unfold polC
  dsimp only
  go_wp2_with fail
  rw [J1.out]
  refine (C3.out _).mono ?_
  rintro e w4 ⟨v4, rfl, hb4, A5, k5, A6, k6, rfl, t5, t6⟩
  have hb4' := hb4.alloc hb4.size (.cells #[.bool true, .slice A5 (la).length k5, .bool yb, .slice A6 (mb).length k6] 26)
  have hbz := (Below.refl w4.heap.size w4).alloc (Nat.le_refl _) (.cells #[.bool true, .slice A5 (la).length k5, .bool yb, .slice A6 (mb).length k6] 26)
  have HX4 := Lib.hid (HX3.out.keep hb4'); have TX4 := Lib.hid (And.intro (TX3.out.1.below hb4') (TX3.out.2.below hb4')); have HY4 := Lib.hid (HY3.out.keep hb4'); have TY4 := Lib.hid (And.intro (TY3.out.1.below hb4') (TY3.out.2.below hb4')); have HB4 := Lib.hid (Below.onto HB3.out hb4')
  have HZ4 : Hid (PolIn _ ⟨true, la, yb, mb⟩ (.agg #[.bool true, .slice A5 (la).length k5, .bool yb, .slice A6 (mb).length k6])) := Lib.hid ⟨A5, k5, A6, k6, rfl, t5.below hbz, t6.below hbz⟩
  have x0 := HX4.out.c 0; have x1 := HX4.out.c 1; have x2 := HX4.out.c 2; have x3 := HX4.out.c 3
  have y0 := HY4.out.c 0; have y1 := HY4.out.c 1; have y2 := HY4.out.c 2; have y3 := HY4.out.c 3
  have deep : ∀ (o : Obj) (B : Nat) (cs : Array Value), CBox (w4.alloc (.cells #[.bool true, .slice A5 (la).length k5, .bool yb, .slice A6 (mb).length k6] 26)) B 26 cs → ∀ i, ((w4.alloc (.cells #[.bool true, .slice A5 (la).length k5, .bool yb, .slice A6 (mb).length k6] 26)).alloc o).cell? ⟨B, i, none⟩ = cs[i]? := fun o B cs h i => (h.alloc o).c i
  have u0 : ∀ o, _ := fun o => deep o _ _ HX4.out 0
  have u1 : ∀ o, _ := fun o => deep o _ _ HX4.out 1
  have u2 : ∀ o, _ := fun o => deep o _ _ HX4.out 2
  have u3 : ∀ o, _ := fun o => deep o _ _ HX4.out 3
  have v0 : ∀ o, _ := fun o => deep o _ _ HY4.out 0
  have v1 : ∀ o, _ := fun o => deep o _ _ HY4.out 1
  have v2 : ∀ o, _ := fun o => deep o _ _ HY4.out 2
  have v3 : ∀ o, _ := fun o => deep o _ _ HY4.out 3
  simp only [List.getElem?_toArray, List.getElem?_cons_zero, List.getElem?_cons_succ] at u0 u1 u2 u3 v0 v1 v2 v3
  clear hb4 hb4' t5 t6 hbz HX3 TX3 HB3 HY3 TY3 deep
  unfold polC
  dsimp only
  go_wp2_with fail
  have hw5 := (Below.refl (w4.alloc (.cells #[.bool true, .slice A5 (la).length k5, .bool yb, .slice A6 (mb).length k6] 26)).heap.size (w4.alloc (.cells #[.bool true, .slice A5 (la).length k5, .bool yb, .slice A6 (mb).length k6] 26))).alloc (Nat.le_refl _) (.cells #[.bool true, .slice A1 (la).length k1, .bool yb, .slice A4 (mb).length k4] 26)
  have hall := HZ4.out.below hw5
  have hwant : PolAt ((w4.alloc (.cells #[.bool true, .slice A5 (la).length k5, .bool yb, .slice A6 (mb).length k6] 26)).alloc (.cells #[.bool true, .slice A1 (la).length k1, .bool yb, .slice A4 (mb).length k4] 26)) ⟨true, la, yb, mb⟩ (.agg #[.bool true, .slice A1 (la).length k1, .bool yb, .slice A4 (mb).length k4]) := ⟨A1, k1, A4, k4, rfl, (TX4.out.1.below hw5).seen, (TY4.out.2.below hw5).seen⟩
  have HB5 := Lib.hid (Below.onto HB4.out hw5); have HX5 := Lib.hid (HX4.out.keep hw5); have TX5 := Lib.hid (And.intro (TX4.out.1.below hw5) (TX4.out.2.below hw5))
  refine (same_self ⟨true, la, yb, mb⟩ _ _ _ F3.out hall.at hwant).mono ?_
  rintro e w6 ⟨rfl, hb6⟩
  have HB6 := Lib.hid (Below.onto HB5.out hb6); have HX6 := Lib.hid (HX5.out.keep hb6); have TX6 := Lib.hid (And.intro (TX5.out.1.below hb6) (TX5.out.2.below hb6))
  clear hb6 hw5 hall hwant HB5 HX5 TX5 u0 u1 u2 u3 v0 v1 v2 v3 x0 x1 x2 x3 y0 y1 y2 y3 HX4 HY4 TX4 TY4 HB4 HZ4 F3 C1 C2 C3
  have x0 := HX6.out.c 0; have x1 := HX6.out.c 1; have x2 := HX6.out.c 2; have x3 := HX6.out.c 3
  have hb0 : Below w6.heap.size w6 w6 := Below.refl _ _
  go_wp2_with fail
  go_region_held_law (fun W => W.cell? ⟨w2.heap.size, 0, none⟩ = some (.bool true) ∧ W.cell? ⟨w2.heap.size, 1, none⟩ = some (.slice A1 la.length k1) ∧ W.cell? ⟨w2.heap.size, 2, none⟩ = some (.bool false) ∧ W.cell? ⟨w2.heap.size, 3, none⟩ = some (.slice A2 lb.length k2) ∧ Below w6.heap.size w6 W)
    (first
      | exact rdy_p HX6.out hb8
      | exact rdy_p HX6.out hb7
      | exact rdy_p HX6.out hb0.drew
      | exact rdy_p HX6.out hb0)
    (first
      | (go_at_call 11; rw [J2.out]; refine (C4.out _).mono ?_; rintro e w7 ⟨v7, rfl, hb7', B1, m1, B2, m2, rfl, t7, t8⟩; have hb7 : Below w6.heap.size w6 w7 := by first | exact hb7' | exact hb0.drew.trans hb7')
      | (go_at_call 10; refine (same_self ⟨true, la, false, lb⟩ _ _ w7 F1.out ⟨B1, m1, B2, m2, rfl, t7.seen, t8.seen⟩ ⟨A1, k1, A2, k2, rfl, (TX6.out.1.below hb7).seen, (TX6.out.2.below hb7).seen⟩).mono ?_; rintro e w8 ⟨rfl, hb8'⟩; have hb8 : Below w6.heap.size w6 w8 := Below.onto hb7 hb8')
      | fail)
  all_goals
    have HB8 := Lib.hid (Below.onto HB6.out hb8)
    rename_i hHeld
    clear hHeld hb8 hb8' hb7 hb7' t7 t8 hb0 x0 x1 x2 x3
    go_wp2_with fail
    go_ret
    exact ⟨rfl, HB8.out⟩
set_option maxHeartbeats 4000000 in
set_option maxRecDepth 20000 in
theorem first_false_true (S T : List UInt8) (w : World) (hs : S.length ≤ 2000) (ht : T.length ≤ 2000) (la : List (List UInt8)) (lb : List (List UInt8)) (ya : Bool) (ma : List (List UInt8)) (yb : Bool) (mb : List (List UInt8))
    (h1 : Cs.one S = ⟨false, la, true, lb⟩) (h2 : Cs.one T = ⟨ya, ma, yb, mb⟩) :
    Calls Try.prog 7 #[.string (bA S), .string (bA T)] w fun e w' => e = .returned (.bool true) ∧ Below w.heap.size w w' := by
  have z1 : ¬ ((2000 : Int) < (S.length : Int)) := by omega
  have z2 : ¬ ((2000 : Int) < (T.length : Int)) := by omega
  have q1 : ¬ 9223372036854775807 < S.length + 1 := by omega
  have q2 : ¬ 9223372036854775807 < S.length + 1 + T.length := by omega
  have q3 : ¬ 9223372036854775807 < 10 + S.length := by omega
  have c1 := fun W => csOne_any S W (by omega)
  have c2 := fun W => csOne_any T W (by omega)
  have c3 := fun W => csOne_any (S ++ [59] ++ T) W (by simp; omega)
  have c4 := fun W => csOne_any (Cs.imgX ++ [59] ++ S) W (by simp [Cs.imgX]; omega)
  have f1 := one_fit (s := S) (by omega)
  have f3 := one_fit (s := S ++ [59] ++ T) (by simp; omega)
  rw [Cs.one_other, h1] at c4
  rw [h1] at c1 f1
  rw [h2] at c2
  rw [Cs.one_glue, h1, h2] at c3 f3
  have hc : (⟨false || ya, if false = true then la else ma, true || yb, if true = true then lb else mb⟩ : Cs.Pol) = ⟨ya, ma, true, lb⟩ := by simp
  dsimp only at c3 f3
  rw [hc] at c3 f3
  have j1 : bA S ++ ({ data := #[59] } : ByteArray) ++ bA T = bA (S ++ [59] ++ T) := by rw [show ({ data := #[59] } : ByteArray) = bA [59] from rfl, bA_app, bA_app]
  have j2 : ({ data := #[105, 109, 103, 45, 115, 114, 99, 32, 120, 59] } : ByteArray) ++ bA S = bA (Cs.imgX ++ [59] ++ S) := by rw [show ({ data := #[105, 109, 103, 45, 115, 114, 99, 32, 120, 59] } : ByteArray) = bA (Cs.imgX ++ [59]) from rfl, bA_app]
  obtain ⟨U, hU⟩ : ∃ U, S ++ [59] ++ T = U := ⟨_, rfl⟩
  obtain ⟨V, hV⟩ : ∃ V, Cs.imgX ++ [59] ++ S = V := ⟨_, rfl⟩
  rw [hU] at c3 j1
  rw [hV] at c4 j2
  have J1 := Lib.hid j1; have J2 := Lib.hid j2; have F1 := Lib.hid f1; have F3 := Lib.hid f3
  have C1 := Lib.hid c1; have C2 := Lib.hid c2; have C3 := Lib.hid c3; have C4 := Lib.hid c4
  clear j1 j2 hU hV h1 h2 f1 f3 hs ht hc c1 c2 c3 c4
  go_enter Try.func7, Try.ntmps7
  go_wp2_with fail
  refine (awake10_any _).mono ?_
  rintro e w1 ⟨rfl, hb1⟩
  have HB1 := Lib.hid hb1
  clear hb1
  go_wp2_with fail
  refine (C1.out _).mono ?_
  rintro e w2 ⟨v2, rfl, hb2, A1, k1, A2, k2, rfl, t1, t2⟩
  have hbx := (Below.refl w2.heap.size w2).alloc (Nat.le_refl _) (.cells #[.bool false, .slice A1 la.length k1, .bool true, .slice A2 lb.length k2] 26)
  have HX2 := Lib.hid (CBox.new w2 26 #[.bool false, .slice A1 la.length k1, .bool true, .slice A2 lb.length k2])
  have TX2 : Hid (TextsIn _ A1 la ∧ TextsIn _ A2 lb) := Lib.hid ⟨t1.below hbx, t2.below hbx⟩
  have HB2 : Hid (Below w.heap.size w (w2.alloc (.cells #[.bool false, .slice A1 la.length k1, .bool true, .slice A2 lb.length k2] 26))) := Lib.hid (Below.onto HB1.out (hb2.trans (hbx.mono hb2.size)))
  clear hb2 t1 t2 hbx HB1
  unfold polC
  dsimp only
  go_wp2_with fail
  refine (C2.out _).mono ?_
  rintro e w3 ⟨v3, rfl, hb3, A3, k3, A4, k4, rfl, t3, t4⟩
  have hb3' := hb3.alloc hb3.size (.cells #[.bool ya, .slice A3 ma.length k3, .bool yb, .slice A4 mb.length k4] 26)
  have hby := (Below.refl w3.heap.size w3).alloc (Nat.le_refl _) (.cells #[.bool ya, .slice A3 ma.length k3, .bool yb, .slice A4 mb.length k4] 26)
  have HX3 := Lib.hid (HX2.out.keep hb3'); have TX3 := Lib.hid (And.intro (TX2.out.1.below hb3') (TX2.out.2.below hb3')); have HB3 := Lib.hid (Below.onto HB2.out hb3')
  have HY3 := Lib.hid (CBox.new w3 26 #[.bool ya, .slice A3 ma.length k3, .bool yb, .slice A4 mb.length k4])
  have TY3 : Hid (TextsIn _ A3 ma ∧ TextsIn _ A4 mb) := Lib.hid ⟨t3.below hby, t4.below hby⟩
  clear hb3 hb3' t3 t4 hby HX2 TX2 HB2
  unfold polC
  dsimp only
  go_wp2_with fail
  rw [J1.out]
  refine (C3.out _).mono ?_
  rintro e w4 ⟨v4, rfl, hb4, A5, k5, A6, k6, rfl, t5, t6⟩
  have hb4' := hb4.alloc hb4.size (.cells #[.bool ya, .slice A5 (ma).length k5, .bool true, .slice A6 (lb).length k6] 26)
  have hbz := (Below.refl w4.heap.size w4).alloc (Nat.le_refl _) (.cells #[.bool ya, .slice A5 (ma).length k5, .bool true, .slice A6 (lb).length k6] 26)
  have HX4 := Lib.hid (HX3.out.keep hb4'); have TX4 := Lib.hid (And.intro (TX3.out.1.below hb4') (TX3.out.2.below hb4')); have HY4 := Lib.hid (HY3.out.keep hb4'); have TY4 := Lib.hid (And.intro (TY3.out.1.below hb4') (TY3.out.2.below hb4')); have HB4 := Lib.hid (Below.onto HB3.out hb4')
  have HZ4 : Hid (PolIn _ ⟨ya, ma, true, lb⟩ (.agg #[.bool ya, .slice A5 (ma).length k5, .bool true, .slice A6 (lb).length k6])) := Lib.hid ⟨A5, k5, A6, k6, rfl, t5.below hbz, t6.below hbz⟩
  have x0 := HX4.out.c 0; have x1 := HX4.out.c 1; have x2 := HX4.out.c 2; have x3 := HX4.out.c 3
  have y0 := HY4.out.c 0; have y1 := HY4.out.c 1; have y2 := HY4.out.c 2; have y3 := HY4.out.c 3
  have deep : ∀ (o : Obj) (B : Nat) (cs : Array Value), CBox (w4.alloc (.cells #[.bool ya, .slice A5 (ma).length k5, .bool true, .slice A6 (lb).length k6] 26)) B 26 cs → ∀ i, ((w4.alloc (.cells #[.bool ya, .slice A5 (ma).length k5, .bool true, .slice A6 (lb).length k6] 26)).alloc o).cell? ⟨B, i, none⟩ = cs[i]? := fun o B cs h i => (h.alloc o).c i
  have u0 : ∀ o, _ := fun o => deep o _ _ HX4.out 0
  have u1 : ∀ o, _ := fun o => deep o _ _ HX4.out 1
  have u2 : ∀ o, _ := fun o => deep o _ _ HX4.out 2
  have u3 : ∀ o, _ := fun o => deep o _ _ HX4.out 3
  have v0 : ∀ o, _ := fun o => deep o _ _ HY4.out 0
  have v1 : ∀ o, _ := fun o => deep o _ _ HY4.out 1
  have v2 : ∀ o, _ := fun o => deep o _ _ HY4.out 2
  have v3 : ∀ o, _ := fun o => deep o _ _ HY4.out 3
  simp only [List.getElem?_toArray, List.getElem?_cons_zero, List.getElem?_cons_succ] at u0 u1 u2 u3 v0 v1 v2 v3
  clear hb4 hb4' t5 t6 hbz HX3 TX3 HB3 HY3 TY3 deep
  unfold polC
  dsimp only
  go_wp2_with fail
  have hw5 := (Below.refl (w4.alloc (.cells #[.bool ya, .slice A5 (ma).length k5, .bool true, .slice A6 (lb).length k6] 26)).heap.size (w4.alloc (.cells #[.bool ya, .slice A5 (ma).length k5, .bool true, .slice A6 (lb).length k6] 26))).alloc (Nat.le_refl _) (.cells #[.bool ya, .slice A3 (ma).length k3, .bool true, .slice A2 (lb).length k2] 26)
  have hall := HZ4.out.below hw5
  have hwant : PolAt ((w4.alloc (.cells #[.bool ya, .slice A5 (ma).length k5, .bool true, .slice A6 (lb).length k6] 26)).alloc (.cells #[.bool ya, .slice A3 (ma).length k3, .bool true, .slice A2 (lb).length k2] 26)) ⟨ya, ma, true, lb⟩ (.agg #[.bool ya, .slice A3 (ma).length k3, .bool true, .slice A2 (lb).length k2]) := ⟨A3, k3, A2, k2, rfl, (TY4.out.1.below hw5).seen, (TX4.out.2.below hw5).seen⟩
  have HB5 := Lib.hid (Below.onto HB4.out hw5); have HX5 := Lib.hid (HX4.out.keep hw5); have TX5 := Lib.hid (And.intro (TX4.out.1.below hw5) (TX4.out.2.below hw5))
  refine (same_self ⟨ya, ma, true, lb⟩ _ _ _ F3.out hall.at hwant).mono ?_
  rintro e w6 ⟨rfl, hb6⟩
  have HB6 := Lib.hid (Below.onto HB5.out hb6); have HX6 := Lib.hid (HX5.out.keep hb6); have TX6 := Lib.hid (And.intro (TX5.out.1.below hb6) (TX5.out.2.below hb6))
  clear hb6 hw5 hall hwant HB5 HX5 TX5 u0 u1 u2 u3 v0 v1 v2 v3 x0 x1 x2 x3 y0 y1 y2 y3 HX4 HY4 TX4 TY4 HB4 HZ4 F3 C1 C2 C3
  have x0 := HX6.out.c 0; have x1 := HX6.out.c 1; have x2 := HX6.out.c 2; have x3 := HX6.out.c 3
  have hb0 : Below w6.heap.size w6 w6 := Below.refl _ _
  go_wp2_with fail
  go_region_held_law (fun W => W.cell? ⟨w2.heap.size, 0, none⟩ = some (.bool false) ∧ W.cell? ⟨w2.heap.size, 1, none⟩ = some (.slice A1 la.length k1) ∧ W.cell? ⟨w2.heap.size, 2, none⟩ = some (.bool true) ∧ W.cell? ⟨w2.heap.size, 3, none⟩ = some (.slice A2 lb.length k2) ∧ Below w6.heap.size w6 W)
    (first
      | exact rdy_p HX6.out hb8
      | exact rdy_p HX6.out hb7
      | exact rdy_p HX6.out hb0.drew
      | exact rdy_p HX6.out hb0)
    (first
      | (go_at_call 11; rw [J2.out]; refine (C4.out _).mono ?_; rintro e w7 ⟨v7, rfl, hb7', B1, m1, B2, m2, rfl, t7, t8⟩; have hb7 : Below w6.heap.size w6 w7 := by first | exact hb7' | exact hb0.drew.trans hb7')
      | (go_at_call 10; refine (same_self ⟨false, la, true, lb⟩ _ _ w7 F1.out ⟨B1, m1, B2, m2, rfl, t7.seen, t8.seen⟩ ⟨A1, k1, A2, k2, rfl, (TX6.out.1.below hb7).seen, (TX6.out.2.below hb7).seen⟩).mono ?_; rintro e w8 ⟨rfl, hb8'⟩; have hb8 : Below w6.heap.size w6 w8 := Below.onto hb7 hb8')
      | fail)
  all_goals
    have HB8 := Lib.hid (Below.onto HB6.out hb8)
    rename_i hHeld
    clear hHeld hb8 hb8' hb7 hb7' t7 t8 hb0 x0 x1 x2 x3
    go_wp2_with fail
    go_ret
    exact ⟨rfl, HB8.out⟩
set_option maxHeartbeats 4000000 in
set_option maxRecDepth 20000 in
theorem first_false_false (S T : List UInt8) (w : World) (hs : S.length ≤ 2000) (ht : T.length ≤ 2000) (la : List (List UInt8)) (lb : List (List UInt8)) (ya : Bool) (ma : List (List UInt8)) (yb : Bool) (mb : List (List UInt8))
    (h1 : Cs.one S = ⟨false, la, false, lb⟩) (h2 : Cs.one T = ⟨ya, ma, yb, mb⟩) :
    Calls Try.prog 7 #[.string (bA S), .string (bA T)] w fun e w' => e = .returned (.bool true) ∧ Below w.heap.size w w' := by
  have z1 : ¬ ((2000 : Int) < (S.length : Int)) := by omega
  have z2 : ¬ ((2000 : Int) < (T.length : Int)) := by omega
  have q1 : ¬ 9223372036854775807 < S.length + 1 := by omega
  have q2 : ¬ 9223372036854775807 < S.length + 1 + T.length := by omega
  have q3 : ¬ 9223372036854775807 < 10 + S.length := by omega
  have c1 := fun W => csOne_any S W (by omega)
  have c2 := fun W => csOne_any T W (by omega)
  have c3 := fun W => csOne_any (S ++ [59] ++ T) W (by simp; omega)
  have c4 := fun W => csOne_any (Cs.imgX ++ [59] ++ S) W (by simp [Cs.imgX]; omega)
  have f1 := one_fit (s := S) (by omega)
  have f3 := one_fit (s := S ++ [59] ++ T) (by simp; omega)
  rw [Cs.one_other, h1] at c4
  rw [h1] at c1 f1
  rw [h2] at c2
  rw [Cs.one_glue, h1, h2] at c3 f3
  have hc : (⟨false || ya, if false = true then la else ma, false || yb, if false = true then lb else mb⟩ : Cs.Pol) = ⟨ya, ma, yb, mb⟩ := by simp
  dsimp only at c3 f3
  rw [hc] at c3 f3
  have j1 : bA S ++ ({ data := #[59] } : ByteArray) ++ bA T = bA (S ++ [59] ++ T) := by rw [show ({ data := #[59] } : ByteArray) = bA [59] from rfl, bA_app, bA_app]
  have j2 : ({ data := #[105, 109, 103, 45, 115, 114, 99, 32, 120, 59] } : ByteArray) ++ bA S = bA (Cs.imgX ++ [59] ++ S) := by rw [show ({ data := #[105, 109, 103, 45, 115, 114, 99, 32, 120, 59] } : ByteArray) = bA (Cs.imgX ++ [59]) from rfl, bA_app]
  obtain ⟨U, hU⟩ : ∃ U, S ++ [59] ++ T = U := ⟨_, rfl⟩
  obtain ⟨V, hV⟩ : ∃ V, Cs.imgX ++ [59] ++ S = V := ⟨_, rfl⟩
  rw [hU] at c3 j1
  rw [hV] at c4 j2
  have J1 := Lib.hid j1; have J2 := Lib.hid j2; have F1 := Lib.hid f1; have F3 := Lib.hid f3
  have C1 := Lib.hid c1; have C2 := Lib.hid c2; have C3 := Lib.hid c3; have C4 := Lib.hid c4
  clear j1 j2 hU hV h1 h2 f1 f3 hs ht hc c1 c2 c3 c4
  go_enter Try.func7, Try.ntmps7
  go_wp2_with fail
  refine (awake10_any _).mono ?_
  rintro e w1 ⟨rfl, hb1⟩
  have HB1 := Lib.hid hb1
  clear hb1
  go_wp2_with fail
  refine (C1.out _).mono ?_
  rintro e w2 ⟨v2, rfl, hb2, A1, k1, A2, k2, rfl, t1, t2⟩
  have hbx := (Below.refl w2.heap.size w2).alloc (Nat.le_refl _) (.cells #[.bool false, .slice A1 la.length k1, .bool false, .slice A2 lb.length k2] 26)
  have HX2 := Lib.hid (CBox.new w2 26 #[.bool false, .slice A1 la.length k1, .bool false, .slice A2 lb.length k2])
  have TX2 : Hid (TextsIn _ A1 la ∧ TextsIn _ A2 lb) := Lib.hid ⟨t1.below hbx, t2.below hbx⟩
  have HB2 : Hid (Below w.heap.size w (w2.alloc (.cells #[.bool false, .slice A1 la.length k1, .bool false, .slice A2 lb.length k2] 26))) := Lib.hid (Below.onto HB1.out (hb2.trans (hbx.mono hb2.size)))
  clear hb2 t1 t2 hbx HB1
  unfold polC
  dsimp only
  go_wp2_with fail
  refine (C2.out _).mono ?_
  rintro e w3 ⟨v3, rfl, hb3, A3, k3, A4, k4, rfl, t3, t4⟩
  have hb3' := hb3.alloc hb3.size (.cells #[.bool ya, .slice A3 ma.length k3, .bool yb, .slice A4 mb.length k4] 26)
  have hby := (Below.refl w3.heap.size w3).alloc (Nat.le_refl _) (.cells #[.bool ya, .slice A3 ma.length k3, .bool yb, .slice A4 mb.length k4] 26)
  have HX3 := Lib.hid (HX2.out.keep hb3'); have TX3 := Lib.hid (And.intro (TX2.out.1.below hb3') (TX2.out.2.below hb3')); have HB3 := Lib.hid (Below.onto HB2.out hb3')
  have HY3 := Lib.hid (CBox.new w3 26 #[.bool ya, .slice A3 ma.length k3, .bool yb, .slice A4 mb.length k4])
  have TY3 : Hid (TextsIn _ A3 ma ∧ TextsIn _ A4 mb) := Lib.hid ⟨t3.below hby, t4.below hby⟩
  clear hb3 hb3' t3 t4 hby HX2 TX2 HB2
  unfold polC
  dsimp only
  go_wp2_with fail
  rw [J1.out]
  refine (C3.out _).mono ?_
  rintro e w4 ⟨v4, rfl, hb4, A5, k5, A6, k6, rfl, t5, t6⟩
  have hb4' := hb4.alloc hb4.size (.cells #[.bool ya, .slice A5 (ma).length k5, .bool yb, .slice A6 (mb).length k6] 26)
  have hbz := (Below.refl w4.heap.size w4).alloc (Nat.le_refl _) (.cells #[.bool ya, .slice A5 (ma).length k5, .bool yb, .slice A6 (mb).length k6] 26)
  have HX4 := Lib.hid (HX3.out.keep hb4'); have TX4 := Lib.hid (And.intro (TX3.out.1.below hb4') (TX3.out.2.below hb4')); have HY4 := Lib.hid (HY3.out.keep hb4'); have TY4 := Lib.hid (And.intro (TY3.out.1.below hb4') (TY3.out.2.below hb4')); have HB4 := Lib.hid (Below.onto HB3.out hb4')
  have HZ4 : Hid (PolIn _ ⟨ya, ma, yb, mb⟩ (.agg #[.bool ya, .slice A5 (ma).length k5, .bool yb, .slice A6 (mb).length k6])) := Lib.hid ⟨A5, k5, A6, k6, rfl, t5.below hbz, t6.below hbz⟩
  have x0 := HX4.out.c 0; have x1 := HX4.out.c 1; have x2 := HX4.out.c 2; have x3 := HX4.out.c 3
  have y0 := HY4.out.c 0; have y1 := HY4.out.c 1; have y2 := HY4.out.c 2; have y3 := HY4.out.c 3
  have deep : ∀ (o : Obj) (B : Nat) (cs : Array Value), CBox (w4.alloc (.cells #[.bool ya, .slice A5 (ma).length k5, .bool yb, .slice A6 (mb).length k6] 26)) B 26 cs → ∀ i, ((w4.alloc (.cells #[.bool ya, .slice A5 (ma).length k5, .bool yb, .slice A6 (mb).length k6] 26)).alloc o).cell? ⟨B, i, none⟩ = cs[i]? := fun o B cs h i => (h.alloc o).c i
  have u0 : ∀ o, _ := fun o => deep o _ _ HX4.out 0
  have u1 : ∀ o, _ := fun o => deep o _ _ HX4.out 1
  have u2 : ∀ o, _ := fun o => deep o _ _ HX4.out 2
  have u3 : ∀ o, _ := fun o => deep o _ _ HX4.out 3
  have v0 : ∀ o, _ := fun o => deep o _ _ HY4.out 0
  have v1 : ∀ o, _ := fun o => deep o _ _ HY4.out 1
  have v2 : ∀ o, _ := fun o => deep o _ _ HY4.out 2
  have v3 : ∀ o, _ := fun o => deep o _ _ HY4.out 3
  simp only [List.getElem?_toArray, List.getElem?_cons_zero, List.getElem?_cons_succ] at u0 u1 u2 u3 v0 v1 v2 v3
  clear hb4 hb4' t5 t6 hbz HX3 TX3 HB3 HY3 TY3 deep
  unfold polC
  dsimp only
  go_wp2_with fail
  have hw5 := (Below.refl (w4.alloc (.cells #[.bool ya, .slice A5 (ma).length k5, .bool yb, .slice A6 (mb).length k6] 26)).heap.size (w4.alloc (.cells #[.bool ya, .slice A5 (ma).length k5, .bool yb, .slice A6 (mb).length k6] 26))).alloc (Nat.le_refl _) (.cells #[.bool ya, .slice A3 (ma).length k3, .bool yb, .slice A4 (mb).length k4] 26)
  have hall := HZ4.out.below hw5
  have hwant : PolAt ((w4.alloc (.cells #[.bool ya, .slice A5 (ma).length k5, .bool yb, .slice A6 (mb).length k6] 26)).alloc (.cells #[.bool ya, .slice A3 (ma).length k3, .bool yb, .slice A4 (mb).length k4] 26)) ⟨ya, ma, yb, mb⟩ (.agg #[.bool ya, .slice A3 (ma).length k3, .bool yb, .slice A4 (mb).length k4]) := ⟨A3, k3, A4, k4, rfl, (TY4.out.1.below hw5).seen, (TY4.out.2.below hw5).seen⟩
  have HB5 := Lib.hid (Below.onto HB4.out hw5); have HX5 := Lib.hid (HX4.out.keep hw5); have TX5 := Lib.hid (And.intro (TX4.out.1.below hw5) (TX4.out.2.below hw5))
  refine (same_self ⟨ya, ma, yb, mb⟩ _ _ _ F3.out hall.at hwant).mono ?_
  rintro e w6 ⟨rfl, hb6⟩
  have HB6 := Lib.hid (Below.onto HB5.out hb6); have HX6 := Lib.hid (HX5.out.keep hb6); have TX6 := Lib.hid (And.intro (TX5.out.1.below hb6) (TX5.out.2.below hb6))
  clear hb6 hw5 hall hwant HB5 HX5 TX5 u0 u1 u2 u3 v0 v1 v2 v3 x0 x1 x2 x3 y0 y1 y2 y3 HX4 HY4 TX4 TY4 HB4 HZ4 F3 C1 C2 C3
  have x0 := HX6.out.c 0; have x1 := HX6.out.c 1; have x2 := HX6.out.c 2; have x3 := HX6.out.c 3
  have hb0 : Below w6.heap.size w6 w6 := Below.refl _ _
  go_wp2_with fail
  go_region_held_law (fun W => W.cell? ⟨w2.heap.size, 0, none⟩ = some (.bool false) ∧ W.cell? ⟨w2.heap.size, 1, none⟩ = some (.slice A1 la.length k1) ∧ W.cell? ⟨w2.heap.size, 2, none⟩ = some (.bool false) ∧ W.cell? ⟨w2.heap.size, 3, none⟩ = some (.slice A2 lb.length k2) ∧ Below w6.heap.size w6 W)
    (first
      | exact rdy_p HX6.out hb8
      | exact rdy_p HX6.out hb7
      | exact rdy_p HX6.out hb0.drew
      | exact rdy_p HX6.out hb0)
    (first
      | (go_at_call 11; rw [J2.out]; refine (C4.out _).mono ?_; rintro e w7 ⟨v7, rfl, hb7', B1, m1, B2, m2, rfl, t7, t8⟩; have hb7 : Below w6.heap.size w6 w7 := by first | exact hb7' | exact hb0.drew.trans hb7')
      | (go_at_call 10; refine (same_self ⟨false, la, false, lb⟩ _ _ w7 F1.out ⟨B1, m1, B2, m2, rfl, t7.seen, t8.seen⟩ ⟨A1, k1, A2, k2, rfl, (TX6.out.1.below hb7).seen, (TX6.out.2.below hb7).seen⟩).mono ?_; rintro e w8 ⟨rfl, hb8'⟩; have hb8 : Below w6.heap.size w6 w8 := Below.onto hb7 hb8')
      | fail)
  all_goals
    have HB8 := Lib.hid (Below.onto HB6.out hb8)
    rename_i hHeld
    clear hHeld hb8 hb8' hb7 hb7' t7 t8 hb0 x0 x1 x2 x3
    go_wp2_with fail
    go_ret
    exact ⟨rfl, HB8.out⟩
set_option maxHeartbeats 4000000 in
theorem walk_CspparseFirst (a b : ByteArray) (w : World) (ha : a.size ≤ maxLen) (hb : b.size ≤ maxLen) :
    Calls Try.prog 7 #[.string a, .string b] w fun e w' => e = .returned (.bool true) ∧ Below w.heap.size w w' := by
  obtain ⟨S, rfl⟩ : ∃ S, a = bA S := ⟨a.data.toList, rfl⟩
  obtain ⟨T, rfl⟩ : ∃ T, b = bA T := ⟨b.data.toList, rfl⟩
  rw [bA_size] at ha hb
  unfold maxLen at ha hb
  by_cases hok : S.length ≤ 2000 ∧ T.length ≤ 2000
  · obtain ⟨hs, ht⟩ := hok
    obtain ⟨⟨xa, la, xb, lb⟩, h1⟩ : ∃ p, Cs.one S = p := ⟨_, rfl⟩
    obtain ⟨⟨ya, ma, yb, mb⟩, h2⟩ : ∃ p, Cs.one T = p := ⟨_, rfl⟩
    cases xa <;> cases xb
    · exact first_false_false S T w hs ht la lb ya ma yb mb h1 h2
    · exact first_false_true S T w hs ht la lb ya ma yb mb h1 h2
    · exact first_true_false S T w hs ht la lb ya ma yb mb h1 h2
    · exact first_true_true S T w hs ht la lb ya ma yb mb h1 h2
  · have HB : (2000 : Int) < (S.length : Int) ∨ (¬ (2000 : Int) < (S.length : Int) ∧ (2000 : Int) < (T.length : Int)) := by omega
    rcases HB with z1 | ⟨z1, z2⟩
    all_goals
      clear hok
      go_enter Try.func7, Try.ntmps7
      go_wp2_with fail
      refine (awake10_any _).mono ?_
      rintro e w1 ⟨rfl, hb1⟩
      have HB1 := Lib.hid hb1
      clear hb1
      go_wp2_with fail
      go_ret
      exact ⟨rfl, HB1.out⟩
end Go.Proofs.Ytcmbckacbdiebaa
