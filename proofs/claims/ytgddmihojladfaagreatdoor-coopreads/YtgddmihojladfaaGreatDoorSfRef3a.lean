/- The contract of the document's number. (Written by mkn.py.) -/
import Derived.Test.YtgddmihojladfaaGreatDoorSfRef2
import Derived.Test.YtgddmihojladfaaGreatDoorSfBox
import Derived.Deep.RegionWith
import Derived.IntWalk
namespace Go.Proofs.YtgddmihojladfaaGreatDoor
open Go.RowKit

def zPar : Value := .agg #[.string ⟨#[]⟩, .int .i64 0, .int .i64 0, .string ⟨#[]⟩]
/-- What the document's value, number, quoted answer. -/
def rvalV (o : Option (Sf.Par × List UInt8)) : Value := match o with | some (p, r) => .tuple #[parV p, .string (bA r), .bool true] | none => .tuple #[zPar, .string ⟨#[]⟩, .bool false]
theorem results_pv {fn : Func} (h : fn.results = #[.cell 2 72, .tmp 3, .tmp 4]) (tmps : Array Value) (w : World) {B : Nat} {x : Sf.Par} (hp : tmps[2]?.getD undef = .pointer (some ⟨B, 0, none⟩)) (hb : CBox w B 72 (pC x)) :
    (results fn tmps).run Tryz.prog w = .ok (.tuple #[parV x, tmps.getD 3 undef, tmps.getD 4 undef]) w := by
  have hl := load_par hb
  simp [results, h, hp, hl, asAddr]
theorem ext_l (d r : List UInt8) : (bA (d ++ r)).extract 0 d.length = bA d := by rw [Byt.take_ext]; simp
theorem ext_r (d r : List UInt8) : (bA (d ++ r)).extract d.length (bA (d ++ r)).size = bA r := by rw [Byt.drop_ext]; simp
theorem at_r (d r : List UInt8) (c : UInt8) (h : d.length < (bA (d ++ c :: r)).size) : (bA (d ++ c :: r))[d.length]'h = c := by
  show (d ++ c :: r).toArray[d.length]'_ = c
  simp
theorem CBox.drew {W : World} {B : Nat} {t : TypeId} {cs : Array Value} (h : CBox W B t cs) : CBox W.drew B t cs := h
theorem below_one (w : World) (o : Obj) : Below w.heap.size w (w.alloc o) := (Below.refl _ _).alloc (Nat.le_refl _) _
theorem below_dr {w w' : World} {B : Nat} (h : Below B w w') (q : Nat) : Below B w (w'.drewN q) := h.trans ⟨rfl, rfl, rfl, Nat.le_refl _, fun _ _ => rfl⟩
theorem tw_dw (p : Int → Bool) (s : List UInt8) : Sf.tw p s ++ Sf.dw p s = s := List.takeWhile_append_dropWhile
theorem rdw_head (p : Int → Bool) {s r : List UInt8} {c : UInt8} (h : Sf.dw p s = c :: r) : p c.toNat = false := by
  have := List.head_dropWhile_not (fun b : UInt8 => p b.toNat) (l := s) (by unfold Sf.dw at h; rw [h]; simp)
  unfold Sf.dw at h
  simpa [h] using this

theorem ext_l' {T : ByteArray} {d r : List UInt8} (h : d ++ r = T.data.toList) : T.extract 0 d.length = bA d := by rw [Byt.take_ext, ← h]; simp
theorem ext_r' {T : ByteArray} {d r : List UInt8} (h : d ++ r = T.data.toList) : T.extract d.length T.size = bA r := by rw [Byt.drop_ext, ← h]; simp
theorem ext_s' {T : ByteArray} {d r : List UInt8} {c : UInt8} (h : d ++ c :: r = T.data.toList) : T.extract (d.length + 1) T.size = bA r := by rw [Byt.drop_ext, ← h, List.drop_append]; simp
theorem size_of {T : ByteArray} {d r : List UInt8} (h : d ++ r = T.data.toList) : T.size = d.length + r.length := by
  have e : T.data.toList.length = T.size := by simp
  rw [← e, ← h, List.length_append]
theorem at_r' {T : ByteArray} {d r : List UInt8} {c : UInt8} (h : d ++ c :: r = T.data.toList) (hl : d.length < T.size) : T[d.length]'hl = c := by
  have h2 : T.data.toList[d.length]'(by simpa using hl) = c := by simp [← h]
  exact h2
set_option maxHeartbeats 4000000 in
set_option maxRecDepth 20000 in
theorem rdec_pos (T : ByteArray) (w : World) (hs : T.size ≤ 1000000) (hp : 0 < T.size) (hq : ((T[0].toNat : Int) == 45) = false) (d q d2 r2 : List UInt8) (hdr : d ++ 46 :: q = T.data.toList) (hdr2 : d2 ++ r2 = q) (had : Oct.allB Oct.digitI d = true) (had2 : Oct.allB Oct.digitI d2 = true) (b0 : 0 < d.length) (b1 : d.length ≤ 12) (b2 : 1 ≤ d2.length) (b3 : d2.length ≤ 3)
    (H1 : Hid (∀ W : World, Calls Tryz.prog 104 #[.string T] W fun e w' => e = .returned (.int .i64 d.length) ∧ W = w')) (H3 : Hid (∀ W : World, Calls Tryz.prog 104 #[.string (bA q)] W fun e w' => e = .returned (.int .i64 d2.length) ∧ W = w')) :
    Calls Tryz.prog 88 #[.string T] w fun e w' => e = .returned (rvalV (some (Sf.kv 2 (1 * (Oct.val (d ++ d2) * 10 ^ (3 - d2.length))) [], r2))) ∧ Below w.heap.size w w' := by
  have hsz := size_of hdr
  have hsz2 : q.length = d2.length + r2.length := by rw [← hdr2, List.length_append]
  have hlt : d.length < T.size := by rw [hsz]; simp
  have hz1 : ((d.length : Int) == 0) = false := by simp; intro h; rw [h] at b0; simp at b0
  have hz2 : (d.length : Int) ≤ 15 := by omega
  have hdl' : ((d.length : Int) == (T.size : Int)) = false := by simp; omega
  have hat : (((T[d.length]'hlt).toNat : Int) != 46) = false := by rw [at_r' hdr hlt]; rfl
  have hx1 := ext_l' hdr
  have hx3 := ext_s' hdr
  have hx4 : T.extract (d.length + 1) (d.length + 1 + d2.length) = bA d2 := by
    rw [Lib.extract_eq, ← hdr, ← hdr2, List.drop_append, show d.length + 1 + d2.length - (d.length + 1) = d2.length by omega, show d.length + 1 - d.length = 1 by omega, List.drop_of_length_le (by omega)]
    simp
  have hx5 : T.extract (d.length + 1 + d2.length) T.size = bA r2 := by
    rw [Byt.drop_ext, ← hdr, ← hdr2, List.drop_append]
    simp [show d.length + 1 + d2.length - d.length = d2.length + 1 by omega]
    omega
  have hadd : Oct.allB Oct.digitI (d ++ d2) = true := by rw [Sf.allB_app, had, had2]; rfl
  have hx6 := bA_app d d2
  have H2 : Hid (∀ W : World, Calls Tryz.prog 105 #[.string (bA (d ++ d2))] W fun e w' => e = .returned (.int .i64 (Oct.val (d ++ d2))) ∧ W = w') := Lib.hid (fun W => rtold_any (bA (d ++ d2)) W hadd (by rw [bA_size, List.length_append]; omega))
  have hv0 := Oct.val_nonneg _ hadd
  have hv1 : Oct.val (d ++ d2) ≤ 999999999999999 := by have := Sf.val_bound hadd 15 (by rw [List.length_append]; omega); omega
  have hle5 : d.length + 1 + d2.length ≤ T.size := by rw [hsz]; simp; omega
  have b1' : (d.length : Int) ≤ 12 := by omega
  have b2' : (1 : Int) ≤ (d2.length : Int) := by omega
  have b3' : (d2.length : Int) ≤ 3 := by omega
  obtain ⟨X, hX⟩ : ∃ X, Oct.val (d ++ d2) * 10 ^ (3 - d2.length) = X := ⟨_, rfl⟩
  rw [hX]
  have hX0 : 0 ≤ X ∧ X ≤ 99999999999999900 := by
    rw [← hX]
    have hc : d2.length = 1 ∨ d2.length = 2 ∨ d2.length = 3 := by omega
    rcases hc with h | h | h <;> (rw [h]; simp; omega)
  obtain ⟨x0, x1⟩ := hX0
  rw [show (1 : Int) * X = X by omega]
  have HX := Lib.hid hX
  obtain ⟨V, hV⟩ : ∃ V, Oct.val (d ++ d2) = V := ⟨_, rfl⟩
  rw [hV] at H2
  rw [hV] at hv0 hv1 HX
  have H2q : Hid (∀ W : World, Calls Tryz.prog 105 #[.string (bA (d ++ d2))] W fun e w' => e = .returned (.int .i64 V) ∧ w' = W) := Lib.hid (fun W => (H2.out W).mono fun _ _ h => ⟨h.1, h.2.symm⟩)
  clear H2
  clear hx6
  clear hdr hdr2 had had2 hadd hX hV hsz hsz2
  go_enter Tryz.func88, Tryz.ntmps88
  go_wp2_with fail
  refine (H1.out _).mono ?_
  rintro e w1 ⟨rfl, rfl⟩
  go_wp2_with fail
  refine (H3.out _).mono ?_
  rintro e w2 ⟨rfl, rfl⟩
  go_wp2_with fail
  have s1 : IntKind.i64.wrap ((d.length : Int) + 1) = (d.length : Int) + 1 := IntWalk.i64_in _ (by omega)
  have s2 : IntKind.i64.wrap ((d.length : Int) + 1 + (d2.length : Int)) = (d.length : Int) + 1 + (d2.length : Int) := IntWalk.i64_in _ (by omega)
  have s3 : (0 : Int) ≤ (d.length : Int) + 1 := by omega
  have s4 : ((d.length : Int) + 1).toNat = d.length + 1 := by omega
  have s5 : ((d.length : Int) + 1 + (d2.length : Int)).toNat = d.length + 1 + d2.length := by omega
  have s6 : (d.length : Int) + 1 ≤ (d.length : Int) + 1 + (d2.length : Int) := by omega
  have s7 : (d.length : Int) + 1 + (d2.length : Int) ≤ (T.size : Int) := by omega
  have s8 : (d.length : Int) ≤ (T.size : Int) := by omega
  have s9 : (0 : Int) ≤ (d.length : Int) + 1 + (d2.length : Int) := by omega
  have sa : ∀ W : World, (Op.stringOp .add (bA d) (bA d2)).run Tryz.prog W = .ok (.string (bA (d ++ d2))) W := fun W => by
    rw [run_string_add_sum W (bA d) (bA d2) (by rw [bA_size, bA_size]; omega), bA_app]
  go_quiet (first | (go_at_call 105; refine Calls.quiet_of_same (H2q.out _)))
  have S1 := Lib.hid s1; have S2 := Lib.hid s2; have S5 := Lib.hid s5
  clear s1 s2 s4 s5 sa H1 H3 H2q hx1 hx3 hx4 hdl' hat
  go_wp2_with fail
  go_loop [8, 9] (fun x i => ∃ (j : Nat) (Y : Int), d2.length ≤ j ∧ j ≤ 3 ∧ i = .int .i64 j ∧ x = .int .i64 Y ∧ 0 ≤ Y ∧ Y ≤ 99999999999999900 ∧ Hid (Y * 10 ^ (3 - j) = X)) (fun _ i => 3 - (intOf i).toNat)
  case atStart => exact ⟨d2.length, V, Nat.le_refl _, b3, rfl, rfl, hv0, by omega, HX⟩
  case round =>
    obtain ⟨j, Y, hj, hj3, rfl, rfl, y0, y1, hY⟩ := hrel
    by_cases hlt3 : j < 3
    · have hlt3' : (j : Int) < 3 := by omega
      have hn : 10 * Y ≤ 99999999999999900 ∧ (10 * Y) * 10 ^ (3 - (j + 1)) = X := by
        have h := hY.out
        have hc : j = 1 ∨ j = 2 := by omega
        rcases hc with rfl | rfl <;> (simp at h ⊢; omega)
      have HN := Lib.hid hn
      clear hn hY HX
      go_wp2_with fail
      go_round
      case rel => exact ⟨j + 1, 10 * Y, by omega, by omega, by go_num, by go_num, by omega, HN.out.1, HN.out.2⟩
      case measure => simp [intOf]; omega
    · have ej : j = 3 := by omega
      subst ej
      have hYX : Y = X := by have h := hY.out; simpa using h
      subst hYX
      have w1 : IntKind.i64.wrap Y = Y := IntWalk.i64_in _ (by omega)
      have w2 : IntKind.i64.wrap (-Y) = -Y := IntWalk.i64_in _ (by omega)
      have s1 := S1.out; have s2 := S2.out; have s5 := S5.out
      clear hY HX
      go_wp2_with fail
      have hbx : CBox ((w.alloc (.cells #[.string ⟨#[]⟩, .int .i64 0, .int .i64 0, .string ⟨#[]⟩] 72)).drewN nq) w.heap.size 72 #[.string ⟨#[]⟩, .int .i64 0, .int .i64 0, .string ⟨#[]⟩] := CBox.new _ _ _
      have hbw := below_dr (below_one w (.cells #[.string ⟨#[]⟩, .int .i64 0, .int .i64 0, .string ⟨#[]⟩] 72)) nq
      generalize ((w.alloc (.cells #[.string ⟨#[]⟩, .int .i64 0, .int .i64 0, .string ⟨#[]⟩] 72)).drewN nq) = W at hbx hbw ⊢
      obtain ⟨c0, c1, c2, c3, f0, f1, f2, f3⟩ := hbx.all4
      have HBX := Lib.hid hbx; have HBW := Lib.hid hbw
      clear hbx hbw
      go_region_with (fail)
      all_goals
        go_wp2_with fail
        have hgA := fun (a b c e : Value) => (g_set4 (g_refl W (some w.heap.size)) (B := w.heap.size) a b c e (.inr rfl))
        refine bodyPost_ret (results_pv (x := Sf.kv 2 Y []) rfl _ _ rfl ((HBX.out.set4 _ _ _ _).drew)) rfl ?_
        exact ⟨rfl, (HBW.out.grown (hgA _ _ _ _) HBW.out.size (fun k hk => by cases hk; exact Nat.le_refl _)).drew⟩
set_option maxHeartbeats 4000000 in
set_option maxRecDepth 20000 in
theorem rdec_neg (S T : ByteArray) (w : World) (hS : S.size ≤ 1000000) (hp : 0 < S.size) (hq : ((S[0].toNat : Int) == 45) = true) (hT : S.extract 1 S.size = T) (hs : T.size ≤ 1000000) (d q d2 r2 : List UInt8) (hdr : d ++ 46 :: q = T.data.toList) (hdr2 : d2 ++ r2 = q) (had : Oct.allB Oct.digitI d = true) (had2 : Oct.allB Oct.digitI d2 = true) (b0 : 0 < d.length) (b1 : d.length ≤ 12) (b2 : 1 ≤ d2.length) (b3 : d2.length ≤ 3)
    (H1 : Hid (∀ W : World, Calls Tryz.prog 104 #[.string T] W fun e w' => e = .returned (.int .i64 d.length) ∧ W = w')) (H3 : Hid (∀ W : World, Calls Tryz.prog 104 #[.string (bA q)] W fun e w' => e = .returned (.int .i64 d2.length) ∧ W = w')) :
    Calls Tryz.prog 88 #[.string S] w fun e w' => e = .returned (rvalV (some (Sf.kv 2 ((-1) * (Oct.val (d ++ d2) * 10 ^ (3 - d2.length))) [], r2))) ∧ Below w.heap.size w w' := by
  have hsz := size_of hdr
  have hsz2 : q.length = d2.length + r2.length := by rw [← hdr2, List.length_append]
  have hlt : d.length < T.size := by rw [hsz]; simp
  have hz1 : ((d.length : Int) == 0) = false := by simp; intro h; rw [h] at b0; simp at b0
  have hz2 : (d.length : Int) ≤ 15 := by omega
  have hdl' : ((d.length : Int) == (T.size : Int)) = false := by simp; omega
  have hat : (((T[d.length]'hlt).toNat : Int) != 46) = false := by rw [at_r' hdr hlt]; rfl
  have hx1 := ext_l' hdr
  have hx3 := ext_s' hdr
  have hx4 : T.extract (d.length + 1) (d.length + 1 + d2.length) = bA d2 := by
    rw [Lib.extract_eq, ← hdr, ← hdr2, List.drop_append, show d.length + 1 + d2.length - (d.length + 1) = d2.length by omega, show d.length + 1 - d.length = 1 by omega, List.drop_of_length_le (by omega)]
    simp
  have hx5 : T.extract (d.length + 1 + d2.length) T.size = bA r2 := by
    rw [Byt.drop_ext, ← hdr, ← hdr2, List.drop_append]
    simp [show d.length + 1 + d2.length - d.length = d2.length + 1 by omega]
    omega
  have hadd : Oct.allB Oct.digitI (d ++ d2) = true := by rw [Sf.allB_app, had, had2]; rfl
  have hx6 := bA_app d d2
  have H2 : Hid (∀ W : World, Calls Tryz.prog 105 #[.string (bA (d ++ d2))] W fun e w' => e = .returned (.int .i64 (Oct.val (d ++ d2))) ∧ W = w') := Lib.hid (fun W => rtold_any (bA (d ++ d2)) W hadd (by rw [bA_size, List.length_append]; omega))
  have hv0 := Oct.val_nonneg _ hadd
  have hv1 : Oct.val (d ++ d2) ≤ 999999999999999 := by have := Sf.val_bound hadd 15 (by rw [List.length_append]; omega); omega
  have hle5 : d.length + 1 + d2.length ≤ T.size := by rw [hsz]; simp; omega
  have b1' : (d.length : Int) ≤ 12 := by omega
  have b2' : (1 : Int) ≤ (d2.length : Int) := by omega
  have b3' : (d2.length : Int) ≤ 3 := by omega
  obtain ⟨X, hX⟩ : ∃ X, Oct.val (d ++ d2) * 10 ^ (3 - d2.length) = X := ⟨_, rfl⟩
  rw [hX]
  have hX0 : 0 ≤ X ∧ X ≤ 99999999999999900 := by
    rw [← hX]
    have hc : d2.length = 1 ∨ d2.length = 2 ∨ d2.length = 3 := by omega
    rcases hc with h | h | h <;> (rw [h]; simp; omega)
  obtain ⟨x0, x1⟩ := hX0
  rw [show (-1 : Int) * X = -X by omega]
  have HX := Lib.hid hX
  obtain ⟨V, hV⟩ : ∃ V, Oct.val (d ++ d2) = V := ⟨_, rfl⟩
  rw [hV] at H2
  rw [hV] at hv0 hv1 HX
  have H2q : Hid (∀ W : World, Calls Tryz.prog 105 #[.string (bA (d ++ d2))] W fun e w' => e = .returned (.int .i64 V) ∧ w' = W) := Lib.hid (fun W => (H2.out W).mono fun _ _ h => ⟨h.1, h.2.symm⟩)
  clear H2
  clear hx6
  clear hdr hdr2 had had2 hadd hX hV hsz hsz2
  go_enter Tryz.func88, Tryz.ntmps88
  go_wp2_with fail
  refine (H1.out _).mono ?_
  rintro e w1 ⟨rfl, rfl⟩
  go_wp2_with fail
  refine (H3.out _).mono ?_
  rintro e w2 ⟨rfl, rfl⟩
  go_wp2_with fail
  have s1 : IntKind.i64.wrap ((d.length : Int) + 1) = (d.length : Int) + 1 := IntWalk.i64_in _ (by omega)
  have s2 : IntKind.i64.wrap ((d.length : Int) + 1 + (d2.length : Int)) = (d.length : Int) + 1 + (d2.length : Int) := IntWalk.i64_in _ (by omega)
  have s3 : (0 : Int) ≤ (d.length : Int) + 1 := by omega
  have s4 : ((d.length : Int) + 1).toNat = d.length + 1 := by omega
  have s5 : ((d.length : Int) + 1 + (d2.length : Int)).toNat = d.length + 1 + d2.length := by omega
  have s6 : (d.length : Int) + 1 ≤ (d.length : Int) + 1 + (d2.length : Int) := by omega
  have s7 : (d.length : Int) + 1 + (d2.length : Int) ≤ (T.size : Int) := by omega
  have s8 : (d.length : Int) ≤ (T.size : Int) := by omega
  have s9 : (0 : Int) ≤ (d.length : Int) + 1 + (d2.length : Int) := by omega
  have sa : ∀ W : World, (Op.stringOp .add (bA d) (bA d2)).run Tryz.prog W = .ok (.string (bA (d ++ d2))) W := fun W => by
    rw [run_string_add_sum W (bA d) (bA d2) (by rw [bA_size, bA_size]; omega), bA_app]
  go_quiet (first | (go_at_call 105; refine Calls.quiet_of_same (H2q.out _)))
  have S1 := Lib.hid s1; have S2 := Lib.hid s2; have S5 := Lib.hid s5
  clear s1 s2 s4 s5 sa H1 H3 H2q hx1 hx3 hx4 hdl' hat
  go_wp2_with fail
  go_loop [8, 9] (fun x i => ∃ (j : Nat) (Y : Int), d2.length ≤ j ∧ j ≤ 3 ∧ i = .int .i64 j ∧ x = .int .i64 Y ∧ 0 ≤ Y ∧ Y ≤ 99999999999999900 ∧ Hid (Y * 10 ^ (3 - j) = X)) (fun _ i => 3 - (intOf i).toNat)
  case atStart => exact ⟨d2.length, V, Nat.le_refl _, b3, rfl, rfl, hv0, by omega, HX⟩
  case round =>
    obtain ⟨j, Y, hj, hj3, rfl, rfl, y0, y1, hY⟩ := hrel
    by_cases hlt3 : j < 3
    · have hlt3' : (j : Int) < 3 := by omega
      have hn : 10 * Y ≤ 99999999999999900 ∧ (10 * Y) * 10 ^ (3 - (j + 1)) = X := by
        have h := hY.out
        have hc : j = 1 ∨ j = 2 := by omega
        rcases hc with rfl | rfl <;> (simp at h ⊢; omega)
      have HN := Lib.hid hn
      clear hn hY HX
      go_wp2_with fail
      go_round
      case rel => exact ⟨j + 1, 10 * Y, by omega, by omega, by go_num, by go_num, by omega, HN.out.1, HN.out.2⟩
      case measure => simp [intOf]; omega
    · have ej : j = 3 := by omega
      subst ej
      have hYX : Y = X := by have h := hY.out; simpa using h
      subst hYX
      have w1 : IntKind.i64.wrap Y = Y := IntWalk.i64_in _ (by omega)
      have w2 : IntKind.i64.wrap (-Y) = -Y := IntWalk.i64_in _ (by omega)
      have s1 := S1.out; have s2 := S2.out; have s5 := S5.out
      clear hY HX
      go_wp2_with fail
      have hbx : CBox ((w.alloc (.cells #[.string ⟨#[]⟩, .int .i64 0, .int .i64 0, .string ⟨#[]⟩] 72)).drewN nq) w.heap.size 72 #[.string ⟨#[]⟩, .int .i64 0, .int .i64 0, .string ⟨#[]⟩] := CBox.new _ _ _
      have hbw := below_dr (below_one w (.cells #[.string ⟨#[]⟩, .int .i64 0, .int .i64 0, .string ⟨#[]⟩] 72)) nq
      generalize ((w.alloc (.cells #[.string ⟨#[]⟩, .int .i64 0, .int .i64 0, .string ⟨#[]⟩] 72)).drewN nq) = W at hbx hbw ⊢
      obtain ⟨c0, c1, c2, c3, f0, f1, f2, f3⟩ := hbx.all4
      have HBX := Lib.hid hbx; have HBW := Lib.hid hbw
      clear hbx hbw
      go_region_with (fail)
      all_goals
        go_wp2_with fail
        have hgA := fun (a b c e : Value) => (g_set4 (g_refl W (some w.heap.size)) (B := w.heap.size) a b c e (.inr rfl))
        refine bodyPost_ret (results_pv (x := Sf.kv 2 (-Y) []) rfl _ _ rfl ((HBX.out.set4 _ _ _ _).drew)) rfl ?_
        exact ⟨rfl, (HBW.out.grown (hgA _ _ _ _) HBW.out.size (fun k hk => by cases hk; exact Nat.le_refl _)).drew⟩
end Go.Proofs.YtgddmihojladfaaGreatDoor
