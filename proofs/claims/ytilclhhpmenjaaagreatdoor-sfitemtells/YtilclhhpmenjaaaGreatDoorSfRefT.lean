/- Our texts of one layer, joined: plain functions and their laws, and the contracts of the functions of that layer. -/
import Derived.Test.YtilclhhpmenjaaaGreatDoorSfRaw
import Derived.Test.YtilclhhpmenjaaaGreatDoorSfRefV
import Derived.Test.YtilclhhpmenjaaaGreatDoorSfParse

/- The contract of the document's decimal. (Written by mkd.py.) -/
namespace Go.Proofs.YtilclhhpmenjaaaGreatDoor
open Go.RowKit Go.Shelf Go.Deep

theorem itoa_nat (u : Nat) : Lib.itoa (u : Int) = Lib.decDigits u := by
  unfold Lib.itoa
  rw [if_neg (by omega)]; rfl
theorem itoaE (x : Int) (u : Nat) (w : World) (hx : x = (u : Int)) (h : u ≤ 999999999999999) (hT : Tab w) : Calls Tryz.prog 72 #[.int .i64 x] w fun e w' => e = .returned (.string (bA (Lib.decDigits u))) ∧ Below w.heap.size w w' := by
  have := itoa_all (u : Int) w (by omega) (by omega) hT
  rw [itoa_nat] at this
  rw [hx]; exact this
theorem one_dig {u : Nat} (h : u < 10) : (Lib.decDigits u).length = 1 := by rw [Sf.dec_small h]; rfl
theorem dec15 {u : Nat} (h : u ≤ 999999999999999) : (Lib.decDigits u).length ≤ 20 := Sf.dec_len u 20 (by omega) (by omega)
theorem fracs (f : Nat) : Sf.frac f = Lib.decDigits (f / 100) ++ ((if f % 100 ≠ 0 then Lib.decDigits (f / 10 % 10) else []) ++ (if f % 10 ≠ 0 then Lib.decDigits (f % 10) else [])) := rfl
theorem decT_pos (u : Nat) : Sf.decT u = Lib.decDigits (u / 1000) ++ 46 :: Sf.frac (u % 1000) := by
  unfold Sf.decT
  rw [if_neg (by omega)]; rfl
theorem decT_neg {u : Nat} (h : 0 < u) : Sf.decT (-(u : Int)) = 45 :: (Lib.decDigits (u / 1000) ++ 46 :: Sf.frac (u % 1000)) := by
  unfold Sf.decT
  rw [if_pos (by omega), Int.natAbs_neg]; rfl
theorem onto' {w w1 w2 : World} (h1 : Below w.heap.size w w1) (h2 : Below w1.heap.size w1 w2) : Below w.heap.size w w2 := h1.trans (h2.mono h1.size)
set_option maxHeartbeats 2000000 in
set_option maxRecDepth 20000 in
theorem rdecimal_pos (u : Nat) (w : World) (hu : u ≤ 999999999999999) (hT : Tab w) : Calls Tryz.prog 73 #[.int .i64 (u : Int)] w fun e w' => e = .returned (.string (bA (Sf.decT (u : Int)))) ∧ Below w.heap.size w w' := by
  have hD := decT_pos u
  rw [fracs] at hD
  obtain ⟨D, hDD⟩ : ∃ D, Sf.decT (u : Int) = D := ⟨_, rfl⟩
  rw [hDD] at hD ⊢
  have HT := Lib.hid hT
  have l0 := dec15 (u := u / 1000) (by omega)
  have l1 := one_dig (u := u % 1000 / 100) (by omega)
  have l2 := one_dig (u := u % 1000 / 10 % 10) (by omega)
  have l3 := one_dig (u := u % 1000 % 10) (by omega)
  have H0 := Lib.hid (fun W x hx hT => itoaE x (u / 1000) W hx (by omega) hT)
  have H1 := Lib.hid (fun W x hx hT => itoaE x (u % 1000 / 100) W hx (by omega) hT)
  have H2 := Lib.hid (fun W x hx hT => itoaE x (u % 1000 / 10 % 10) W hx (by omega) hT)
  have H3 := Lib.hid (fun W x hx hT => itoaE x (u % 1000 % 10) W hx (by omega) hT)
  obtain ⟨d0, hd0⟩ : ∃ d, Lib.decDigits (u / 1000) = d := ⟨_, rfl⟩
  obtain ⟨d1, hd1⟩ : ∃ d, Lib.decDigits (u % 1000 / 100) = d := ⟨_, rfl⟩
  obtain ⟨d2, hd2⟩ : ∃ d, Lib.decDigits (u % 1000 / 10 % 10) = d := ⟨_, rfl⟩
  obtain ⟨d3, hd3⟩ : ∃ d, Lib.decDigits (u % 1000 % 10) = d := ⟨_, rfl⟩
  rw [hd0] at H0 l0; rw [hd1] at H1 l1; rw [hd2] at H2 l2; rw [hd3] at H3 l3
  rw [hd0, hd1, hd2, hd3] at hD
  clear hd0 hd1 hd2 hd3 hT hDD
  have n0 : (0 : Int) ≤ (u : Int) := by omega
  by_cases h2 : u % 1000 % 100 = 0
  · have h3 : u % 1000 % 10 = 0 := by omega
    go_enter Tryz.func73, Tryz.ntmps73
    have k2 : ((u : Int) % 1000 % 100 != 0) = false := by simp; omega
    have k3 : ((u : Int) % 1000 % 10 != 0) = false := by simp; omega
    have hR : Hid (D = (d0 ++ 46 :: (d1))) := by
      rw [Hid, hD, if_neg (fun h => h h2), if_neg (fun h => h h3)]
      simp
    clear hD
    have hb := Below.refl w.heap.size w
    go_wp2_with fail
    refine (H1.out _ _ (by omega) (HT.out.below hb)).mono ?_
    rintro e W1 ⟨rfl, hb1⟩
    replace hb := onto' hb hb1
    clear hb1
    go_wp2_with fail
    refine (H0.out _ _ (by omega) (HT.out.below hb)).mono ?_
    rintro e W0 ⟨rfl, hb0⟩
    replace hb := onto' hb hb0
    clear hb0
    have HB := Lib.hid hb
    clear hb HT H0 H1 H2 H3
    go_wp2_with fail
    go_ret
    refine ⟨Oct.ret_str ?_, HB.out⟩
    rw [hR.out]
    show bA [] ++ bA d0 ++ bA [46] ++ bA (d1) = bA _
    rw [bA_app, bA_app, bA_app]
    congr 1
    simp
  · by_cases h3 : u % 1000 % 10 = 0
    · go_enter Tryz.func73, Tryz.ntmps73
      have k2 : ((u : Int) % 1000 % 100 != 0) = true := by simp; omega
      have k3 : ((u : Int) % 1000 % 10 != 0) = false := by simp; omega
      have hR : Hid (D = (d0 ++ 46 :: (d1 ++ d2))) := by
        rw [Hid, hD, if_pos h2, if_neg (fun h => h h3)]
        simp
      clear hD
      have hb := Below.refl w.heap.size w
      go_wp2_with fail
      refine (H1.out _ _ (by omega) (HT.out.below hb)).mono ?_
      rintro e W1 ⟨rfl, hb1⟩
      replace hb := onto' hb hb1
      clear hb1
      have za : ∀ W : World, (Op.stringOp .add (bA (d1)) (bA (d2))).run Tryz.prog W = .ok (.string (bA (d1 ++ d2))) W := fun W => by
        rw [run_string_add_sum W (bA (d1)) (bA (d2)) (by rw [bA_size, bA_size]; omega), bA_app]
      go_wp2_with fail
      refine (H2.out _ _ (by omega) (HT.out.below hb)).mono ?_
      rintro e W2 ⟨rfl, hb2⟩
      replace hb := onto' hb hb2
      clear hb2
      go_wp2_with fail
      refine (H0.out _ _ (by omega) (HT.out.below hb)).mono ?_
      rintro e W0 ⟨rfl, hb0⟩
      replace hb := onto' hb hb0
      clear hb0
      have HB := Lib.hid hb
      clear hb HT H0 H1 H2 H3
      go_wp2_with fail
      go_ret
      refine ⟨Oct.ret_str ?_, HB.out⟩
      rw [hR.out]
      show bA [] ++ bA d0 ++ bA [46] ++ bA (d1 ++ d2) = bA _
      rw [bA_app, bA_app, bA_app]
      congr 1
      simp
    · go_enter Tryz.func73, Tryz.ntmps73
      have k2 : ((u : Int) % 1000 % 100 != 0) = true := by simp; omega
      have k3 : ((u : Int) % 1000 % 10 != 0) = true := by simp; omega
      have hR : Hid (D = (d0 ++ 46 :: (d1 ++ d2 ++ d3))) := by
        rw [Hid, hD, if_pos h2, if_pos h3]
        simp
      clear hD
      have hb := Below.refl w.heap.size w
      go_wp2_with fail
      refine (H1.out _ _ (by omega) (HT.out.below hb)).mono ?_
      rintro e W1 ⟨rfl, hb1⟩
      replace hb := onto' hb hb1
      clear hb1
      have za : ∀ W : World, (Op.stringOp .add (bA (d1)) (bA (d2))).run Tryz.prog W = .ok (.string (bA (d1 ++ d2))) W := fun W => by
        rw [run_string_add_sum W (bA (d1)) (bA (d2)) (by rw [bA_size, bA_size]; omega), bA_app]
      go_wp2_with fail
      refine (H2.out _ _ (by omega) (HT.out.below hb)).mono ?_
      rintro e W2 ⟨rfl, hb2⟩
      replace hb := onto' hb hb2
      clear hb2
      have zb : ∀ W : World, (Op.stringOp .add (bA (d1 ++ d2)) (bA (d3))).run Tryz.prog W = .ok (.string (bA (d1 ++ d2 ++ d3))) W := fun W => by
        rw [run_string_add_sum W (bA (d1 ++ d2)) (bA (d3)) (by rw [bA_size, bA_size, List.length_append]; omega), bA_app]
      go_wp2_with fail
      refine (H3.out _ _ (by omega) (HT.out.below hb)).mono ?_
      rintro e W3 ⟨rfl, hb3⟩
      replace hb := onto' hb hb3
      clear hb3
      go_wp2_with fail
      refine (H0.out _ _ (by omega) (HT.out.below hb)).mono ?_
      rintro e W0 ⟨rfl, hb0⟩
      replace hb := onto' hb hb0
      clear hb0
      have HB := Lib.hid hb
      clear hb HT H0 H1 H2 H3
      go_wp2_with fail
      go_ret
      refine ⟨Oct.ret_str ?_, HB.out⟩
      rw [hR.out]
      show bA [] ++ bA d0 ++ bA [46] ++ bA (d1 ++ (d2 ++ d3)) = bA _
      rw [bA_app, bA_app, bA_app]
      congr 1
      simp
set_option maxHeartbeats 2000000 in
set_option maxRecDepth 20000 in
theorem rdecimal_neg (u : Nat) (w : World) (h0 : 0 < u) (hu : u ≤ 999999999999999) (hT : Tab w) : Calls Tryz.prog 73 #[.int .i64 (-(u : Int))] w fun e w' => e = .returned (.string (bA (Sf.decT (-(u : Int))))) ∧ Below w.heap.size w w' := by
  have hD := decT_neg h0
  rw [fracs] at hD
  obtain ⟨D, hDD⟩ : ∃ D, Sf.decT (-(u : Int)) = D := ⟨_, rfl⟩
  rw [hDD] at hD ⊢
  have HT := Lib.hid hT
  have l0 := dec15 (u := u / 1000) (by omega)
  have l1 := one_dig (u := u % 1000 / 100) (by omega)
  have l2 := one_dig (u := u % 1000 / 10 % 10) (by omega)
  have l3 := one_dig (u := u % 1000 % 10) (by omega)
  have H0 := Lib.hid (fun W x hx hT => itoaE x (u / 1000) W hx (by omega) hT)
  have H1 := Lib.hid (fun W x hx hT => itoaE x (u % 1000 / 100) W hx (by omega) hT)
  have H2 := Lib.hid (fun W x hx hT => itoaE x (u % 1000 / 10 % 10) W hx (by omega) hT)
  have H3 := Lib.hid (fun W x hx hT => itoaE x (u % 1000 % 10) W hx (by omega) hT)
  obtain ⟨d0, hd0⟩ : ∃ d, Lib.decDigits (u / 1000) = d := ⟨_, rfl⟩
  obtain ⟨d1, hd1⟩ : ∃ d, Lib.decDigits (u % 1000 / 100) = d := ⟨_, rfl⟩
  obtain ⟨d2, hd2⟩ : ∃ d, Lib.decDigits (u % 1000 / 10 % 10) = d := ⟨_, rfl⟩
  obtain ⟨d3, hd3⟩ : ∃ d, Lib.decDigits (u % 1000 % 10) = d := ⟨_, rfl⟩
  rw [hd0] at H0 l0; rw [hd1] at H1 l1; rw [hd2] at H2 l2; rw [hd3] at H3 l3
  rw [hd0, hd1, hd2, hd3] at hD
  clear hd0 hd1 hd2 hd3 hT hDD
  have n0 : (-(u : Int)) < 0 := by omega
  have n1 : IntKind.i64.wrap (- -(u : Int)) = (u : Int) := by rw [Int.neg_neg]; exact IntWalk.i64_in _ (by omega)
  by_cases h2 : u % 1000 % 100 = 0
  · have h3 : u % 1000 % 10 = 0 := by omega
    go_enter Tryz.func73, Tryz.ntmps73
    have k2 : ((u : Int) % 1000 % 100 != 0) = false := by simp; omega
    have k3 : ((u : Int) % 1000 % 10 != 0) = false := by simp; omega
    have hR : Hid (D = [45] ++ (d0 ++ 46 :: (d1))) := by
      rw [Hid, hD, if_neg (fun h => h h2), if_neg (fun h => h h3)]
      simp
    clear hD
    have hb := Below.refl w.heap.size w
    go_wp2_with fail
    refine (H1.out _ _ (by omega) (HT.out.below hb)).mono ?_
    rintro e W1 ⟨rfl, hb1⟩
    replace hb := onto' hb hb1
    clear hb1
    go_wp2_with fail
    refine (H0.out _ _ (by omega) (HT.out.below hb)).mono ?_
    rintro e W0 ⟨rfl, hb0⟩
    replace hb := onto' hb hb0
    clear hb0
    have HB := Lib.hid hb
    clear hb HT H0 H1 H2 H3
    go_wp2_with fail
    go_ret
    refine ⟨Oct.ret_str ?_, HB.out⟩
    rw [hR.out]
    show bA [45] ++ bA d0 ++ bA [46] ++ bA (d1) = bA _
    rw [bA_app, bA_app, bA_app]
    congr 1
    simp
  · by_cases h3 : u % 1000 % 10 = 0
    · go_enter Tryz.func73, Tryz.ntmps73
      have k2 : ((u : Int) % 1000 % 100 != 0) = true := by simp; omega
      have k3 : ((u : Int) % 1000 % 10 != 0) = false := by simp; omega
      have hR : Hid (D = [45] ++ (d0 ++ 46 :: (d1 ++ d2))) := by
        rw [Hid, hD, if_pos h2, if_neg (fun h => h h3)]
        simp
      clear hD
      have hb := Below.refl w.heap.size w
      go_wp2_with fail
      refine (H1.out _ _ (by omega) (HT.out.below hb)).mono ?_
      rintro e W1 ⟨rfl, hb1⟩
      replace hb := onto' hb hb1
      clear hb1
      have za : ∀ W : World, (Op.stringOp .add (bA (d1)) (bA (d2))).run Tryz.prog W = .ok (.string (bA (d1 ++ d2))) W := fun W => by
        rw [run_string_add_sum W (bA (d1)) (bA (d2)) (by rw [bA_size, bA_size]; omega), bA_app]
      go_wp2_with fail
      refine (H2.out _ _ (by omega) (HT.out.below hb)).mono ?_
      rintro e W2 ⟨rfl, hb2⟩
      replace hb := onto' hb hb2
      clear hb2
      go_wp2_with fail
      refine (H0.out _ _ (by omega) (HT.out.below hb)).mono ?_
      rintro e W0 ⟨rfl, hb0⟩
      replace hb := onto' hb hb0
      clear hb0
      have HB := Lib.hid hb
      clear hb HT H0 H1 H2 H3
      go_wp2_with fail
      go_ret
      refine ⟨Oct.ret_str ?_, HB.out⟩
      rw [hR.out]
      show bA [45] ++ bA d0 ++ bA [46] ++ bA (d1 ++ d2) = bA _
      rw [bA_app, bA_app, bA_app]
      congr 1
      simp
    · go_enter Tryz.func73, Tryz.ntmps73
      have k2 : ((u : Int) % 1000 % 100 != 0) = true := by simp; omega
      have k3 : ((u : Int) % 1000 % 10 != 0) = true := by simp; omega
      have hR : Hid (D = [45] ++ (d0 ++ 46 :: (d1 ++ d2 ++ d3))) := by
        rw [Hid, hD, if_pos h2, if_pos h3]
        simp
      clear hD
      have hb := Below.refl w.heap.size w
      go_wp2_with fail
      refine (H1.out _ _ (by omega) (HT.out.below hb)).mono ?_
      rintro e W1 ⟨rfl, hb1⟩
      replace hb := onto' hb hb1
      clear hb1
      have za : ∀ W : World, (Op.stringOp .add (bA (d1)) (bA (d2))).run Tryz.prog W = .ok (.string (bA (d1 ++ d2))) W := fun W => by
        rw [run_string_add_sum W (bA (d1)) (bA (d2)) (by rw [bA_size, bA_size]; omega), bA_app]
      go_wp2_with fail
      refine (H2.out _ _ (by omega) (HT.out.below hb)).mono ?_
      rintro e W2 ⟨rfl, hb2⟩
      replace hb := onto' hb hb2
      clear hb2
      have zb : ∀ W : World, (Op.stringOp .add (bA (d1 ++ d2)) (bA (d3))).run Tryz.prog W = .ok (.string (bA (d1 ++ d2 ++ d3))) W := fun W => by
        rw [run_string_add_sum W (bA (d1 ++ d2)) (bA (d3)) (by rw [bA_size, bA_size, List.length_append]; omega), bA_app]
      go_wp2_with fail
      refine (H3.out _ _ (by omega) (HT.out.below hb)).mono ?_
      rintro e W3 ⟨rfl, hb3⟩
      replace hb := onto' hb hb3
      clear hb3
      go_wp2_with fail
      refine (H0.out _ _ (by omega) (HT.out.below hb)).mono ?_
      rintro e W0 ⟨rfl, hb0⟩
      replace hb := onto' hb hb0
      clear hb0
      have HB := Lib.hid hb
      clear hb HT H0 H1 H2 H3
      go_wp2_with fail
      go_ret
      refine ⟨Oct.ret_str ?_, HB.out⟩
      rw [hR.out]
      show bA [45] ++ bA d0 ++ bA [46] ++ bA (d1 ++ (d2 ++ d3)) = bA _
      rw [bA_app, bA_app, bA_app]
      congr 1
      simp
theorem rdecimal_any (n : Int) (w : World) (h0 : -999999999999999 ≤ n) (h1 : n ≤ 999999999999999) (hT : Tab w) : Calls Tryz.prog 73 #[.int .i64 n] w fun e w' => e = .returned (.string (bA (Sf.decT n))) ∧ Below w.heap.size w w' := by
  by_cases h : n < 0
  · obtain ⟨u, rfl⟩ : ∃ u : Nat, n = -(u : Int) := ⟨n.natAbs, by omega⟩
    exact rdecimal_neg u w (by omega) (by omega) hT
  · obtain ⟨u, rfl⟩ : ∃ u : Nat, n = (u : Int) := ⟨n.toNat, by omega⟩
    exact rdecimal_pos u w (by omega) hT
end Go.Proofs.YtilclhhpmenjaaaGreatDoor

/- The contract of the document's Value. -/

namespace Go.Proofs.YtilclhhpmenjaaaGreatDoor
open Go.RowKit Go.Shelf Go.Deep

/-- What the document's Value answers. -/
def ValR (w : World) (o : Option (List UInt8)) (e : Ending) (w' : World) : Prop := (∃ x : ByteArray, e = .returned (.tuple #[.string x, .bool o.isSome]) ∧ ∀ v, o = some v → x = bA v) ∧ Below w.heap.size w w'
theorem ValR.none {w w' : World} (x : ByteArray) (hb : Below w.heap.size w w') : ValR w none (.returned (.tuple #[.string x, .bool false])) w' := ⟨⟨x, rfl, fun v h => by cases h⟩, hb⟩
theorem ValR.some {w w' : World} (v : List UInt8) (hb : Below w.heap.size w w') : ValR w (some v) (.returned (.tuple #[.string (bA v), .bool true])) w' := ⟨⟨bA v, rfl, fun u h => by cases h; rfl⟩, hb⟩
theorem ValR.some' {w w' : World} {v : List UInt8} {x : ByteArray} (hx : x = bA v) (hb : Below w.heap.size w w') : ValR w (Option.some v) (.returned (.tuple #[.string x, .bool true])) w' := by subst hx; exact ValR.some v hb

theorem vt_big {k n : Int} {t : List UInt8} (h : n < -999999999999999 ∨ 999999999999999 < n) : Sf.vtext k n t = none := by
  unfold Sf.vtext Sf.maxN
  rw [if_pos]
  rcases h with h | h <;> simp [h]
theorem vt_numeric {k n : Int} {c : UInt8} {t : List UInt8} (h : Sf.numK k = true) : Sf.vtext k n (c :: t) = none := by
  unfold Sf.vtext
  rw [if_pos]; simp [h]
theorem vt_other {k n : Int} {t : List UInt8} (h : Sf.numK k = false) (hn : n ≠ 0) : Sf.vtext k n t = none := by
  unfold Sf.vtext
  rw [if_pos]; simp [h, hn]
theorem vt_num {k n : Int} (h : Sf.numK k = true) (h0 : -999999999999999 ≤ n) (h1 : n ≤ 999999999999999) : Sf.vtext k n [] = if k = 1 then some (Lib.itoa n) else if k = 2 then some (Sf.decT n) else if k = 6 then (if n = 0 ∨ n = 1 then some (63 :: Lib.itoa n) else none) else none := by
  unfold Sf.vtext Sf.maxN
  have e1 : ¬ n < -999999999999999 := by omega
  have e2 : ¬ 999999999999999 < n := by omega
  rw [if_neg (by simp [h, e1, e2])]
  simp only [Sf.numK] at h
  split
  · rfl
  · split
    · rfl
    · split
      · rfl
      · rename_i a b c; simp [a, b, c] at h
theorem vt_text {t : List UInt8} : Sf.vtext 3 0 t = if Oct.allB Sf.prI t then some (34 :: (Sf.esc t ++ [34])) else none := by
  unfold Sf.vtext; rw [if_neg (by simp [Sf.numK, Sf.maxN])]; rfl
theorem vt_tok {t : List UInt8} : Sf.vtext 4 0 t = if Sf.tokB t then some t else none := by
  unfold Sf.vtext; rw [if_neg (by simp [Sf.numK, Sf.maxN])]; rfl
theorem vt_byt {t : List UInt8} : Sf.vtext 5 0 t = if Oct.allB Sf.baseI t then some (58 :: (t ++ [58])) else none := by
  unfold Sf.vtext; rw [if_neg (by simp [Sf.numK, Sf.maxN])]; rfl

set_option maxHeartbeats 2000000 in
set_option maxRecDepth 20000 in
/-- A number that is too great may not be. -/
theorem rval_big (k n : Int) (t : List UInt8) (w : World) (h : n < -999999999999999 ∨ 999999999999999 < n) : Calls Tryz.prog 41 #[.int .i64 k, .int .i64 n, .string (bA t)] w (ValR w (Sf.vtext k n t)) := by
  rw [vt_big h]
  obtain ⟨b1, hb1⟩ : ∃ b, (k == 1) = b := ⟨_, rfl⟩
  obtain ⟨b2, hb2⟩ : ∃ b, (k == 2) = b := ⟨_, rfl⟩
  obtain ⟨b6, hb6⟩ : ∃ b, (k == 6) = b := ⟨_, rfl⟩
  have hz : (n != 0) = true := by simp; omega
  rcases h with h | h
  · go_enter Tryz.func41, Tryz.ntmps41
    go_wp2_with fail
    all_goals (go_ret2; exact ValR.none _ (Below.refl _ _))
  · have h' : -999999999999999 ≤ n := by omega
    go_enter Tryz.func41, Tryz.ntmps41
    go_wp2_with fail
    all_goals (go_ret2; exact ValR.none _ (Below.refl _ _))
set_option maxHeartbeats 2000000 in
set_option maxRecDepth 20000 in
theorem rval_int (n : Int) (t : List UInt8) (w : World) (h0 : -999999999999999 ≤ n) (h1 : n ≤ 999999999999999) (hT : Tab w) : Calls Tryz.prog 41 #[.int .i64 1, .int .i64 n, .string (bA t)] w (ValR w (Sf.vtext 1 n t)) := by
  cases t with
  | cons c t =>
    rw [vt_numeric rfl]
    clear hT
    go_enter Tryz.func41, Tryz.ntmps41
    go_wp2_with fail
    go_ret2; exact ValR.none _ (Below.refl _ _)
  | nil =>
    rw [vt_num rfl h0 h1, if_pos rfl]
    have H := Lib.hid (itoa_all n w (by omega) (by omega) hT)
    clear hT
    go_enter Tryz.func41, Tryz.ntmps41
    go_wp2_with fail
    refine H.out.mono ?_
    rintro e w1 ⟨rfl, hb⟩
    go_wp2_with fail
    go_ret2; exact ValR.some _ hb
set_option maxHeartbeats 2000000 in
set_option maxRecDepth 20000 in
theorem rval_dec (n : Int) (t : List UInt8) (w : World) (h0 : -999999999999999 ≤ n) (h1 : n ≤ 999999999999999) (hT : Tab w) : Calls Tryz.prog 41 #[.int .i64 2, .int .i64 n, .string (bA t)] w (ValR w (Sf.vtext 2 n t)) := by
  cases t with
  | cons c t =>
    rw [vt_numeric rfl]
    clear hT
    go_enter Tryz.func41, Tryz.ntmps41
    go_wp2_with fail
    go_ret2; exact ValR.none _ (Below.refl _ _)
  | nil =>
    rw [vt_num rfl h0 h1, if_neg (by decide), if_pos rfl]
    have H := Lib.hid (rdecimal_any n w h0 h1 hT)
    clear hT
    go_enter Tryz.func41, Tryz.ntmps41
    go_wp2_with fail
    refine H.out.mono ?_
    rintro e w1 ⟨rfl, hb⟩
    go_wp2_with fail
    go_ret2; exact ValR.some _ hb
set_option maxHeartbeats 2000000 in
set_option maxRecDepth 20000 in
theorem rval_bool (n : Int) (t : List UInt8) (w : World) (h0 : -999999999999999 ≤ n) (h1 : n ≤ 999999999999999) (hT : Tab w) : Calls Tryz.prog 41 #[.int .i64 6, .int .i64 n, .string (bA t)] w (ValR w (Sf.vtext 6 n t)) := by
  cases t with
  | cons c t =>
    rw [vt_numeric rfl]
    clear hT
    go_enter Tryz.func41, Tryz.ntmps41
    go_wp2_with fail
    go_ret2; exact ValR.none _ (Below.refl _ _)
  | nil =>
    rw [vt_num rfl h0 h1, if_neg (by decide), if_neg (by decide), if_pos rfl]
    have H := Lib.hid (itoa_all n w (by omega) (by omega) hT)
    have hil := itoa_short n (by omega) (by omega)
    obtain ⟨d, hd⟩ : ∃ d, Lib.itoa n = d := ⟨_, rfl⟩
    rw [hd] at H hil ⊢
    clear hT hd
    have hz : ∀ W : World, (Op.stringOp .add ⟨#[63]⟩ (bA d)).run Tryz.prog W = .ok (.string (bA (63 :: d))) W := fun W => by
      rw [run_string_add_sum W (bA [63]) (bA d) (by rw [bA_size, bA_size]; simp; omega), bA_app]; rfl
    by_cases hn : n = 0 ∨ n = 1
    · rw [if_pos hn]
      rcases hn with rfl | rfl
      · go_enter Tryz.func41, Tryz.ntmps41
        go_wp2_with fail
        refine H.out.mono ?_
        rintro e w1 ⟨rfl, hb⟩
        go_wp2_with fail
        go_ret2; exact ValR.some _ hb
      · go_enter Tryz.func41, Tryz.ntmps41
        go_wp2_with fail
        refine H.out.mono ?_
        rintro e w1 ⟨rfl, hb⟩
        go_wp2_with fail
        go_ret2; exact ValR.some _ hb
    · rw [if_neg hn]
      have e0 : (n == 0) = false := by simp; omega
      have e1 : (n == 1) = false := by simp; omega
      clear hn
      go_enter Tryz.func41, Tryz.ntmps41
      go_wp2_with fail
      refine H.out.mono ?_
      rintro e w1 ⟨rfl, hb⟩
      go_wp2_with fail
      go_ret2; exact ValR.none _ hb
set_option maxHeartbeats 2000000 in
set_option maxRecDepth 20000 in
theorem rval_other (k n : Int) (t : List UInt8) (w : World) (hk : Sf.numK k = false) (h : n ≠ 0 ∨ (k ≠ 3 ∧ k ≠ 4 ∧ k ≠ 5)) : Calls Tryz.prog 41 #[.int .i64 k, .int .i64 n, .string (bA t)] w (ValR w (Sf.vtext k n t)) := by
  have hv : Sf.vtext k n t = none := by
    rcases h with h | ⟨h3, h4, h5⟩
    · exact vt_other hk h
    · unfold Sf.vtext
      simp only [Sf.numK, Bool.or_eq_false_iff, beq_eq_false_iff_ne] at hk
      rw [if_neg hk.1, if_neg hk.2.1, if_neg hk.2.2, if_neg h3, if_neg h4, if_neg h5]
      split <;> rfl
  rw [hv]
  simp only [Sf.numK, Bool.or_eq_false_iff] at hk
  obtain ⟨k1, k2, k6⟩ := hk
  by_cases hn : n = 0
  · subst hn
    obtain ⟨h3, h4, h5⟩ : k ≠ 3 ∧ k ≠ 4 ∧ k ≠ 5 := by
      rcases h with h | h
      · exact absurd rfl h
      · exact h
    have k3 : (k == 3) = false := by simpa using h3
    have k4 : (k == 4) = false := by simpa using h4
    have k5 : (k == 5) = false := by simpa using h5
    clear h h3 h4 h5 hv
    go_enter Tryz.func41, Tryz.ntmps41
    go_wp2_with fail
    go_ret2; exact ValR.none _ (Below.refl _ _)
  · have n0 : (n != 0) = true := by simpa using hn
    clear h hn hv
    go_enter Tryz.func41, Tryz.ntmps41
    go_wp2_with fail
    go_ret2; exact ValR.none _ (Below.refl _ _)
end Go.Proofs.YtilclhhpmenjaaaGreatDoor

/- The contract of the document's Value: texts, tokens, bytes; and as a whole. -/

namespace Go.Proofs.YtilclhhpmenjaaaGreatDoor
open Go.RowKit Go.Shelf Go.Deep

theorem esc_snoc (p : List UInt8) (c : UInt8) : Sf.esc (p ++ [c]) = Sf.esc p ++ (if c = 34 ∨ c = 92 then [92, c] else [c]) := by
  induction p with
  | nil => simp [Sf.esc]
  | cons b p ih =>
    rw [List.cons_append, Sf.esc, Sf.esc, ih]
    split <;> simp
theorem allB_snoc (q : Int → Bool) (p : List UInt8) (c : UInt8) : Oct.allB q (p ++ [c]) = (Oct.allB q p && q c.toNat) := by
  rw [Sf.allB_app]; simp [Oct.allB]
structure TxInv (S : ByteArray) (p r : List UInt8) : Prop where
  eq : p ++ r = S.data.toList
  ok : Oct.allB Sf.prI p = true
  len : (Sf.esc p).length ≤ 2 * p.length
theorem tx_bad {p r : List UInt8} {c : UInt8} (h : Sf.prI c.toNat = false) : Oct.allB Sf.prI (p ++ c :: r) = false := by
  rw [Sf.allB_app]; simp [Oct.allB, h]
set_option maxHeartbeats 4000000 in
set_option maxRecDepth 20000 in
theorem rval_text (t : List UInt8) (w : World) (ht : t.length ≤ 10000) : Calls Tryz.prog 41 #[.int .i64 3, .int .i64 0, .string (bA t)] w (ValR w (Sf.vtext 3 0 t)) := by
  rw [vt_text]
  obtain ⟨o, ho⟩ : ∃ o, (if Oct.allB Sf.prI t then some (34 :: (Sf.esc t ++ [34])) else none) = o := ⟨_, rfl⟩
  rw [ho]
  obtain ⟨S, hS⟩ : ∃ S, bA t = S := ⟨_, rfl⟩
  have hsl : S.data.toList = t := by rw [← hS]
  have hsz : S.size = t.length := by rw [← hS]; rfl
  have hl : S.size ≤ 10000 := by omega
  have HO : Hid ((if Oct.allB Sf.prI S.data.toList then some (34 :: (Sf.esc S.data.toList ++ [34])) else none) = o) := by rw [Hid, hsl]; exact ho
  have HST : Hid (TxInv S [] S.data.toList) := ⟨rfl, rfl, by simp [Sf.esc]⟩
  rw [hS]
  clear hS hsl hsz ho ht
  go_enter Tryz.func41, Tryz.ntmps41
  go_wp2_with fail
  go_loop [9, 10] (fun v i => ∃ p r, v = .string (bA (Sf.esc p)) ∧ i = .int .i64 ((p.length : Nat) : Int) ∧ Hid (TxInv S p r)) (fun _ i => S.size - (intOf i).toNat)
  case atStart => exact ⟨[], S.data.toList, rfl, rfl, HST⟩
  case round =>
    obtain ⟨p, r, rfl, rfl, hI⟩ := hrel
    have hsz := size_of hI.out.eq
    have hel := hI.out.len
    cases r with
    | nil =>
      have hd : ¬ p.length < S.size := by simp at hsz; omega
      have hd' : (S.size : Int) ≤ (p.length : Int) := by omega
      have hO : o = some (34 :: (Sf.esc p ++ [34])) := by
        have := hI.out.eq
        rw [List.append_nil] at this
        rw [← HO.out, ← this, if_pos hI.out.ok]
      obtain ⟨es, hes⟩ : ∃ es, Sf.esc p = es := ⟨_, rfl⟩
      rw [hes] at hel hO ⊢
      subst hO
      have hel2 : es.length ≤ 20000 := by simp at hsz; omega
      clear hI HO HST hsz hes hel
      go_wp2_with fail
      go_ret2
      refine ValR.some' ?_ (Below.refl _ _)
      show bA [34] ++ bA es ++ bA [34] = _
      rw [bA_app [34] es, bA_app ([34] ++ es) [34]]; rfl
    | cons c r =>
      have hlt : p.length < S.size := by rw [hsz]; simp
      have hlt' : (p.length : Int) < (S.size : Int) := by omega
      have hat := at_r' hI.out.eq hlt
      have hx := ext_one hI.out.eq
      have s1 : IntKind.i64.wrap ((p.length : Int) + 1) = (p.length : Int) + 1 := IntWalk.i64_in _ (by omega)
      have s2 : ((p.length : Int) + 1).toNat = p.length + 1 := by omega
      have s3 : (0 : Int) ≤ (p.length : Int) + 1 := by omega
      have s4 : (p.length : Int) + 1 ≤ (S.size : Int) := by omega
      have s6 : (p.length : Int) ≤ (p.length : Int) + 1 := by omega
      by_cases hpr : Sf.prI c.toNat = true
      · have hr0 : (32 : Int) ≤ ((S[p.length]'hlt).toNat : Int) := by rw [hat]; simp [Sf.prI] at hpr; omega
        have hr1 : ((S[p.length]'hlt).toNat : Int) ≤ 126 := by rw [hat]; simp [Sf.prI] at hpr; omega
        have HPL : Hid ((p ++ [c]).length = p.length + 1) := Lib.hid (by simp)
        have HN : Hid (TxInv S (p ++ [c]) r) := Lib.hid ⟨by rw [← hI.out.eq]; simp, by rw [allB_snoc, hI.out.ok, hpr]; rfl, esc_len _⟩
        have HES := Lib.hid (esc_snoc p c)
        obtain ⟨es, hes⟩ : ∃ es, Sf.esc p = es := ⟨_, rfl⟩
        rw [hes] at hel HES ⊢
        have hel2 : es.length ≤ 20000 := by omega
        by_cases c34 : c = 34
        · have g1 : (((S[p.length]'hlt).toNat : Int) == 34) = true := by rw [hat, c34]; rfl
          rw [if_pos (.inl c34)] at HES
          clear hI HO HST hsz hat hpr hes hel c34
          go_wp2_with fail
          go_round
          case rel =>
            refine ⟨p ++ [c], r, ?_, by rw [HPL.out]; go_num, HN⟩
            rw [HES.out]
            show Value.string (bA es ++ bA [92] ++ bA [c]) = _
            rw [bA_app es [92], bA_app (es ++ [92]) [c], List.append_assoc]; rfl
          case measure => simp [intOf]; omega
        · have g1 : (((S[p.length]'hlt).toNat : Int) == 34) = false := by rw [hat]; exact byte_off (d := 34) c34
          by_cases c92 : c = 92
          · have g2 : (((S[p.length]'hlt).toNat : Int) == 92) = true := by rw [hat, c92]; rfl
            rw [if_pos (.inr c92)] at HES
            clear hI HO HST hsz hat hpr hes hel c92 c34
            go_wp2_with fail
            go_round
            case rel =>
              refine ⟨p ++ [c], r, ?_, by rw [HPL.out]; go_num, HN⟩
              rw [HES.out]
              show Value.string (bA es ++ bA [92] ++ bA [c]) = _
              rw [bA_app es [92], bA_app (es ++ [92]) [c], List.append_assoc]; rfl
            case measure => simp [intOf]; omega
          · have g2 : (((S[p.length]'hlt).toNat : Int) == 92) = false := by rw [hat]; exact byte_off (d := 92) c92
            rw [if_neg (by simp [c34, c92])] at HES
            clear hI HO HST hsz hat hpr hes hel
            go_wp2_with fail
            go_round
            case rel =>
              refine ⟨p ++ [c], r, ?_, by rw [HPL.out]; go_num, HN⟩
              rw [HES.out, ← bA_app]
            case measure => simp [intOf]; omega
      · have hO : o = none := by
          rw [← HO.out, ← hI.out.eq, tx_bad (by simpa using hpr)]; rfl
        subst hO
        by_cases h32 : (c.toNat : Int) < 32
        · have hr0 : ((S[p.length]'hlt).toNat : Int) < 32 := by rw [hat]; exact h32
          clear hI HO HST hsz hat hpr hel
          go_wp2_with fail
          go_ret2; exact ValR.none _ (Below.refl _ _)
        · have hr0 : (32 : Int) ≤ ((S[p.length]'hlt).toNat : Int) := by rw [hat]; omega
          have hr1 : (126 : Int) < ((S[p.length]'hlt).toNat : Int) := by rw [hat]; simp [Sf.prI] at hpr; omega
          clear hI HO HST hsz hat hpr hel
          go_wp2_with fail
          go_ret2; exact ValR.none _ (Below.refl _ _)
end Go.Proofs.YtilclhhpmenjaaaGreatDoor

/- The contract of the document's Value: tokens, bytes; and as a whole. -/
namespace Go.Proofs.YtilclhhpmenjaaaGreatDoor
open Go.RowKit Go.Shelf Go.Deep

theorem num_kind {sg : Int} {s r : List UInt8} {p : Sf.Par} (h : Sf.num sg s = some (p, r)) : p.kind = 1 ∨ p.kind = 2 := by
  unfold Sf.num at h
  split at h
  · cases h
  · split at h
    · split at h
      · cases h
      · cases h; exact .inr rfl
    · cases h; exact .inl rfl
def tokQ (o : Option (Sf.Par × List UInt8)) : Bool := match o with | none => false | some (p, r) => r.isEmpty && p.kind == 4
def bytQ (t : List UInt8) (o : Option (Sf.Par × List UInt8)) : Bool := match o with | none => false | some (p, r) => r.isEmpty && (p.kind == 5 && p.text == t)
theorem dw_empty (q : Int → Bool) (t : List UInt8) : (Sf.dw q t).isEmpty = Oct.allB q t := by
  unfold Sf.dw Oct.allB
  induction t with
  | nil => rfl
  | cons c t ih =>
    cases hc : q c.toNat with
    | true => rw [List.dropWhile_cons_of_pos (by exact hc), ih]; simp [hc]
    | false => rw [List.dropWhile_cons_of_neg (by simp [hc])]; simp [hc]
theorem rtok_first {c : UInt8} (h : (Oct.letterI c.toNat || c == 42) = true) : c ≠ 45 ∧ Oct.digitI c.toNat = false ∧ c ≠ 34 := by
  refine ⟨?_, ?_, ?_⟩
  · rintro rfl; exact absurd h (by decide)
  · by_cases h42 : c = 42
    · subst h42; rfl
    · have h1 : Oct.letterI c.toNat = true := by simpa [h42] using h
      simp [Oct.letterI] at h1
      simp [Oct.digitI]; omega
  · rintro rfl; exact absurd h (by decide)
theorem rtok_is (t : List UInt8) : tokQ (Sf.value t) = Sf.tokB t := by
  cases t with
  | nil => rfl
  | cons c r =>
    cases hL : (Oct.letterI c.toNat || c == 42) with
    | true =>
      obtain ⟨h1, h2, h3⟩ := rtok_first hL
      rw [Sf.value_cons, if_neg h1, if_neg (by rw [h2]; simp), if_neg h3, if_pos hL]
      simp only [tokQ, Sf.tokB, hL, dw_empty, Sf.kv]; simp
    | false =>
      have hT : Sf.tokB (c :: r) = false := by rw [Sf.tokB, hL]; rfl
      rw [hT]
      cases hv : Sf.value (c :: r) with
      | none => rfl
      | some x =>
        obtain ⟨p, r'⟩ := x
        have hk : p.kind ≠ 4 := by
          rw [Sf.value_cons] at hv
          split at hv
          · rcases num_kind hv with h | h <;> omega
          · split at hv
            · rcases num_kind hv with h | h <;> omega
            · split at hv
              · cases hq : Sf.quo r with
                | none => rw [hq] at hv; cases hv
                | some y => rw [hq] at hv; cases hv; simp [Sf.kv]
              · rw [if_neg (by rw [hL]; simp)] at hv
                split at hv
                · split at hv
                  · cases hv; simp [Sf.kv]
                  · cases hv
                · split at hv
                  · split at hv
                    · cases hv; simp [Sf.kv]
                    · split at hv
                      · cases hv; simp [Sf.kv]
                      · cases hv
                  · cases hv
        simp [tokQ, hk]
theorem byt_is (t : List UInt8) : bytQ t (Sf.value (58 :: (t ++ [58]))) = Oct.allB Sf.baseI t := by
  have hv : ∀ u, Sf.value (58 :: u) = if (Sf.dw Sf.baseI u).headD 0 = 58 then some (Sf.kv 5 0 (Sf.tw Sf.baseI u), (Sf.dw Sf.baseI u).drop 1) else none := fun _ => rfl
  rw [hv]
  cases ha : Oct.allB Sf.baseI t with
  | true =>
    obtain ⟨q1, q2⟩ := tw_at (r := []) (e := 58) ha rfl
    rw [q1, q2]
    simp [bytQ, Sf.kv]
  | false =>
    have hx : ∃ x ∈ t, (fun b : UInt8 => Sf.baseI b.toNat) x = false := by
      unfold Oct.allB at ha
      obtain ⟨x, hx, h⟩ := List.all_eq_false.1 ha
      exact ⟨x, hx, by simpa using h⟩
    have e1 : Sf.dw Sf.baseI (t ++ [58]) = Sf.dw Sf.baseI t ++ [58] := dw_app _ _ _ hx
    have hne : (Sf.dw Sf.baseI t).isEmpty = false := by rw [dw_empty]; exact ha
    rw [e1]
    cases hd : Sf.dw Sf.baseI t with
    | nil => rw [hd] at hne; cases hne
    | cons e r =>
      split
      · simp [bytQ]
      · rfl
set_option maxHeartbeats 2000000 in
set_option maxRecDepth 20000 in
theorem rval_tok (t : List UInt8) (w : World) (ht : t.length ≤ 10000) : Calls Tryz.prog 41 #[.int .i64 4, .int .i64 0, .string (bA t)] w (ValR w (Sf.vtext 4 0 t)) := by
  rw [vt_tok, ← rtok_is]
  have H := Lib.hid (rvalue_all t w (by omega))
  obtain ⟨o, ho⟩ : ∃ o, Sf.value t = o := ⟨_, rfl⟩
  rw [ho] at H ⊢
  clear ho
  obtain ⟨res, hres⟩ : ∃ res, (if tokQ o then some t else none) = res := ⟨_, rfl⟩
  rw [hres]
  have HR := Lib.hid hres
  clear hres
  go_enter Tryz.func41, Tryz.ntmps41
  go_wp2_with fail
  refine H.out.mono ?_
  rintro e w1 ⟨rfl, hb⟩
  clear H
  cases o with
  | none =>
    have HB := Lib.hid (below_al hb (.cells #[.string ⟨#[]⟩, .int .i64 0, .int .i64 0, .string ⟨#[]⟩] 44))
    have hr : res = none := HR.out.symm
    subst hr
    clear hb
    unfold rvalV zPar
    go_wp2_with fail
    obtain ⟨w5, hw5⟩ : ∃ w5, w1.alloc (.cells #[.string ⟨#[]⟩, .int .i64 0, .int .i64 0, .string ⟨#[]⟩] 44) = w5 := ⟨_, rfl⟩
    have HB5 : Hid (Below w.heap.size w w5) := by rw [Hid, ← hw5]; exact HB.out
    have HX5 : CBox w5 w1.heap.size 44 #[.string ⟨#[]⟩, .int .i64 0, .int .i64 0, .string ⟨#[]⟩] := by rw [← hw5]; exact CBox.new _ _ _
    rw [hw5]
    obtain ⟨c0, c1, c2, c3, _, _, _, _⟩ := HX5.all4
    clear hw5 HX5
    go_quiet (fail)
    go_wp2_with fail
    go_ret2
    exact ValR.none _ (below_drewQ HB5.out nq)
  | some x =>
    obtain ⟨p, r⟩ := x
    have HB := Lib.hid (below_al hb (.cells (pC p) 44))
    clear hb
    unfold rvalV parV pC
    cases r with
    | nil =>
      obtain ⟨b, hb⟩ : ∃ b, (p.kind == 4) = b := ⟨_, rfl⟩
      have hq : tokQ (some (p, [])) = b := by rw [← hb]; rfl
      have HQ := Lib.hid hq
      clear hq
      cases b with
      | true =>
        have hr : res = some t := by rw [← HR.out, HQ.out]; rfl
        subst hr
        go_wp2_with fail
        obtain ⟨w5, hw5⟩ : ∃ w5, w1.alloc (.cells #[.string (bA p.key), .int .i64 p.kind, .int .i64 p.n, .string (bA p.text)] 44) = w5 := ⟨_, rfl⟩
        have HB5 : Hid (Below w.heap.size w w5) := by rw [Hid, ← hw5]; exact HB.out
        have HX5 : CBox w5 w1.heap.size 44 #[.string (bA p.key), .int .i64 p.kind, .int .i64 p.n, .string (bA p.text)] := by rw [← hw5]; exact CBox.new _ _ _
        rw [hw5]
        obtain ⟨c0, c1, c2, c3, _, _, _, _⟩ := HX5.all4
        clear hw5 HX5
        go_quiet (fail)
        go_wp2_with fail
        go_ret2
        exact ValR.some _ (below_drewQ HB5.out nq)
      | false =>
        have hr : res = none := by rw [← HR.out, HQ.out]; rfl
        subst hr
        go_wp2_with fail
        obtain ⟨w5, hw5⟩ : ∃ w5, w1.alloc (.cells #[.string (bA p.key), .int .i64 p.kind, .int .i64 p.n, .string (bA p.text)] 44) = w5 := ⟨_, rfl⟩
        have HB5 : Hid (Below w.heap.size w w5) := by rw [Hid, ← hw5]; exact HB.out
        have HX5 : CBox w5 w1.heap.size 44 #[.string (bA p.key), .int .i64 p.kind, .int .i64 p.n, .string (bA p.text)] := by rw [← hw5]; exact CBox.new _ _ _
        rw [hw5]
        obtain ⟨c0, c1, c2, c3, _, _, _, _⟩ := HX5.all4
        clear hw5 HX5
        go_quiet (fail)
        go_wp2_with fail
        go_ret2
        exact ValR.none _ (below_drewQ HB5.out nq)
    | cons c r =>
      have hq : tokQ (some (p, c :: r)) = false := rfl
      have hr : res = none := by rw [← HR.out, hq]; rfl
      subst hr
      clear hq
      go_wp2_with fail
      obtain ⟨w5, hw5⟩ : ∃ w5, w1.alloc (.cells #[.string (bA p.key), .int .i64 p.kind, .int .i64 p.n, .string (bA p.text)] 44) = w5 := ⟨_, rfl⟩
      have HB5 : Hid (Below w.heap.size w w5) := by rw [Hid, ← hw5]; exact HB.out
      have HX5 : CBox w5 w1.heap.size 44 #[.string (bA p.key), .int .i64 p.kind, .int .i64 p.n, .string (bA p.text)] := by rw [← hw5]; exact CBox.new _ _ _
      rw [hw5]
      obtain ⟨c0, c1, c2, c3, _, _, _, _⟩ := HX5.all4
      clear hw5 HX5
      go_quiet (fail)
      go_wp2_with fail
      go_ret2
      exact ValR.none _ (below_drewQ HB5.out nq)
set_option maxHeartbeats 2000000 in
set_option maxRecDepth 20000 in
theorem rval_byt (t : List UInt8) (w : World) (ht : t.length ≤ 10000) : Calls Tryz.prog 41 #[.int .i64 5, .int .i64 0, .string (bA t)] w (ValR w (Sf.vtext 5 0 t)) := by
  rw [vt_byt, ← byt_is]
  have H := Lib.hid (rvalue_all (58 :: (t ++ [58])) w (by simp; omega))
  have hz1 : ∀ W : World, (Op.stringOp .add ⟨#[58]⟩ (bA t)).run Tryz.prog W = .ok (.string (bA (58 :: t))) W := fun W => by
    rw [run_string_add_sum W (bA [58]) (bA t) (by rw [bA_size, bA_size]; simp; omega), bA_app]; rfl
  have hz2 : ∀ W : World, (Op.stringOp .add (bA (58 :: t)) ⟨#[58]⟩).run Tryz.prog W = .ok (.string (bA (58 :: (t ++ [58])))) W := fun W => by
    rw [run_string_add_sum W (bA (58 :: t)) (bA [58]) (by rw [bA_size, bA_size]; simp; omega), bA_app]; rfl
  obtain ⟨o, ho⟩ : ∃ o, Sf.value (58 :: (t ++ [58])) = o := ⟨_, rfl⟩
  rw [ho] at H ⊢
  clear ho
  obtain ⟨res, hres⟩ : ∃ res, (if bytQ t o then some (58 :: (t ++ [58])) else none) = res := ⟨_, rfl⟩
  rw [hres]
  have HR := Lib.hid hres
  clear hres
  go_enter Tryz.func41, Tryz.ntmps41
  go_wp2_with fail
  refine H.out.mono ?_
  rintro e w1 ⟨rfl, hb⟩
  clear H
  cases o with
  | none =>
    have HB := Lib.hid (below_al hb (.cells #[.string ⟨#[]⟩, .int .i64 0, .int .i64 0, .string ⟨#[]⟩] 44))
    have hr : res = none := HR.out.symm
    subst hr
    clear hb
    unfold rvalV zPar
    go_wp2_with fail
    obtain ⟨w5, hw5⟩ : ∃ w5, w1.alloc (.cells #[.string ⟨#[]⟩, .int .i64 0, .int .i64 0, .string ⟨#[]⟩] 44) = w5 := ⟨_, rfl⟩
    have HB5 : Hid (Below w.heap.size w w5) := by rw [Hid, ← hw5]; exact HB.out
    have HX5 : CBox w5 w1.heap.size 44 #[.string ⟨#[]⟩, .int .i64 0, .int .i64 0, .string ⟨#[]⟩] := by rw [← hw5]; exact CBox.new _ _ _
    rw [hw5]
    obtain ⟨c0, c1, c2, c3, _, _, _, _⟩ := HX5.all4
    clear hw5 HX5
    go_quiet (fail)
    go_wp2_with fail
    go_ret2
    exact ValR.none _ (below_drewQ HB5.out nq)
  | some x =>
    obtain ⟨p, r⟩ := x
    have HB := Lib.hid (below_al hb (.cells (pC p) 44))
    clear hb
    unfold rvalV parV pC
    cases r with
    | nil =>
      obtain ⟨b, hb⟩ : ∃ b, (p.kind == 5) = b := ⟨_, rfl⟩
      obtain ⟨c, hc⟩ : ∃ c, (p.text == t) = c := ⟨_, rfl⟩
      have hq : bytQ t (some (p, [])) = (b && c) := by rw [← hb, ← hc]; rfl
      have HQ := Lib.hid hq
      clear hq
      cases b with
      | true =>
        cases c with
        | true =>
          have hr : res = some (58 :: (t ++ [58])) := by rw [← HR.out, HQ.out]; rfl
          subst hr
          go_wp2_with fail
          obtain ⟨w5, hw5⟩ : ∃ w5, w1.alloc (.cells #[.string (bA p.key), .int .i64 p.kind, .int .i64 p.n, .string (bA p.text)] 44) = w5 := ⟨_, rfl⟩
          have HB5 : Hid (Below w.heap.size w w5) := by rw [Hid, ← hw5]; exact HB.out
          have HX5 : CBox w5 w1.heap.size 44 #[.string (bA p.key), .int .i64 p.kind, .int .i64 p.n, .string (bA p.text)] := by rw [← hw5]; exact CBox.new _ _ _
          rw [hw5]
          obtain ⟨c0, c1, c2, c3, _, _, _, _⟩ := HX5.all4
          clear hw5 HX5
          go_quiet (fail)
          go_wp2_with fail
          go_ret2
          exact ValR.some _ (below_drewQ HB5.out nq)
        | false =>
          have hr : res = none := by rw [← HR.out, HQ.out]; rfl
          subst hr
          go_wp2_with fail
          obtain ⟨w5, hw5⟩ : ∃ w5, w1.alloc (.cells #[.string (bA p.key), .int .i64 p.kind, .int .i64 p.n, .string (bA p.text)] 44) = w5 := ⟨_, rfl⟩
          have HB5 : Hid (Below w.heap.size w w5) := by rw [Hid, ← hw5]; exact HB.out
          have HX5 : CBox w5 w1.heap.size 44 #[.string (bA p.key), .int .i64 p.kind, .int .i64 p.n, .string (bA p.text)] := by rw [← hw5]; exact CBox.new _ _ _
          rw [hw5]
          obtain ⟨c0, c1, c2, c3, _, _, _, _⟩ := HX5.all4
          clear hw5 HX5
          go_quiet (fail)
          go_wp2_with fail
          go_ret2
          exact ValR.none _ (below_drewQ HB5.out nq)
      | false =>
        have hr : res = none := by rw [← HR.out, HQ.out]; rfl
        subst hr
        go_wp2_with fail
        obtain ⟨w5, hw5⟩ : ∃ w5, w1.alloc (.cells #[.string (bA p.key), .int .i64 p.kind, .int .i64 p.n, .string (bA p.text)] 44) = w5 := ⟨_, rfl⟩
        have HB5 : Hid (Below w.heap.size w w5) := by rw [Hid, ← hw5]; exact HB.out
        have HX5 : CBox w5 w1.heap.size 44 #[.string (bA p.key), .int .i64 p.kind, .int .i64 p.n, .string (bA p.text)] := by rw [← hw5]; exact CBox.new _ _ _
        rw [hw5]
        obtain ⟨c0, c1, c2, c3, _, _, _, _⟩ := HX5.all4
        clear hw5 HX5
        go_quiet (fail)
        go_wp2_with fail
        go_ret2
        exact ValR.none _ (below_drewQ HB5.out nq)
    | cons c r =>
      have hq : bytQ t (some (p, c :: r)) = false := rfl
      have hr : res = none := by rw [← HR.out, hq]; rfl
      subst hr
      clear hq
      go_wp2_with fail
      obtain ⟨w5, hw5⟩ : ∃ w5, w1.alloc (.cells #[.string (bA p.key), .int .i64 p.kind, .int .i64 p.n, .string (bA p.text)] 44) = w5 := ⟨_, rfl⟩
      have HB5 : Hid (Below w.heap.size w w5) := by rw [Hid, ← hw5]; exact HB.out
      have HX5 : CBox w5 w1.heap.size 44 #[.string (bA p.key), .int .i64 p.kind, .int .i64 p.n, .string (bA p.text)] := by rw [← hw5]; exact CBox.new _ _ _
      rw [hw5]
      obtain ⟨c0, c1, c2, c3, _, _, _, _⟩ := HX5.all4
      clear hw5 HX5
      go_quiet (fail)
      go_wp2_with fail
      go_ret2
      exact ValR.none _ (below_drewQ HB5.out nq)
/-- The document's Value. -/
theorem rval_any (k n : Int) (t : List UInt8) (w : World) (ht : t.length ≤ 10000) (hT : Tab w) : Calls Tryz.prog 41 #[.int .i64 k, .int .i64 n, .string (bA t)] w (ValR w (Sf.vtext k n t)) := by
  by_cases h0 : n < -999999999999999 ∨ 999999999999999 < n
  · exact rval_big k n t w h0
  have h1 : -999999999999999 ≤ n := by omega
  have h2 : n ≤ 999999999999999 := by omega
  by_cases k1 : k = 1
  · subst k1; exact rval_int n t w h1 h2 hT
  by_cases k2 : k = 2
  · subst k2; exact rval_dec n t w h1 h2 hT
  by_cases k6 : k = 6
  · subst k6; exact rval_bool n t w h1 h2 hT
  have hk : Sf.numK k = false := by simp [Sf.numK, k1, k2, k6]
  by_cases hn : n = 0
  · subst hn
    by_cases k3 : k = 3
    · subst k3; exact rval_text t w ht
    by_cases k4 : k = 4
    · subst k4; exact rval_tok t w ht
    by_cases k5 : k = 5
    · subst k5; exact rval_byt t w ht
    exact rval_other k 0 t w hk (.inr ⟨k3, k4, k5⟩)
  · exact rval_other k n t w hk (.inl hn)
end Go.Proofs.YtilclhhpmenjaaaGreatDoor
