/- Texts of one layer, joined. -/
import Derived.Test.YtogjekjklknfeaaGreatDoorPkTail
import Derived.Test.YtogjekjklknfeaaGreatDoorPkRb
import Derived.Test.YtogjekjklknfeaaGreatDoorPkNext
import Derived.Test.YtogjekjklknfeaaGreatDoorPkSame

/- The contract of the document's decimal. (Written by mkd.py.) -/
namespace Go.Proofs.YtogjekjklknfeaaGreatDoor
open Go.RowKit Go.Shelf Go.Deep

theorem itoa_nat (u : Nat) : Lib.itoa (u : Int) = Lib.decDigits u := by
  unfold Lib.itoa
  rw [if_neg (by omega)]; rfl
theorem itoaE (x : Int) (u : Nat) (w : World) (hx : x = (u : Int)) (h : u ≤ 999999999999999) (hT : Tab w) : Calls Tryz.prog 85 #[.int .i64 x] w fun e w' => e = .returned (.string (bA (Lib.decDigits u))) ∧ Below w.heap.size w w' := by
  have := itoa_all (u : Int) w (by omega) (by omega) hT
  rw [itoa_nat] at this
  rw [hx]; exact this
theorem one_dig {u : Nat} (h : u < 10) : (Lib.decDigits u).length = 1 := by rw [Sf.dec_small h]; rfl
theorem dec15 {u : Nat} (h : u ≤ 999999999999999) : (Lib.decDigits u).length ≤ 20 := Sf.dec_len u 20 (by omega) (by omega)
theorem fracs (f : Nat) : Sf.frac f = Lib.decDigits (f / 100) ++ ((if f % 100 ≠ 0 then Lib.decDigits (f / 10 % 10) else []) ++ (if f % 10 ≠ 0 then Lib.decDigits (f % 10) else [])) := rfl
theorem decT_pos (u : Nat) : Sf.decT u = Lib.decDigits (u / 1000) ++ 46 :: Sf.frac (u % 1000) := by
  unfold Sf.decT
  rw [if_neg (by omega)]; rfl
theorem decT_neg {u : Nat} (h : 0 < u) : Sf.decT (-(u : Int)) = 45 :: (Lib.decDigits (u / 1000) ++ 46 :: Sf.frac (u % 1000)) := by
  unfold Sf.decT
  rw [if_pos (by omega), Int.natAbs_neg]; rfl
theorem onto' {w w1 w2 : World} (h1 : Below w.heap.size w w1) (h2 : Below w1.heap.size w1 w2) : Below w.heap.size w w2 := h1.trans (h2.mono h1.size)
set_option maxHeartbeats 2000000 in
set_option maxRecDepth 20000 in
theorem rdecimal_pos (u : Nat) (w : World) (hu : u ≤ 999999999999999) (hT : Tab w) : Calls Tryz.prog 86 #[.int .i64 (u : Int)] w fun e w' => e = .returned (.string (bA (Sf.decT (u : Int)))) ∧ Below w.heap.size w w' := by
  have hD := decT_pos u
  rw [fracs] at hD
  obtain ⟨D, hDD⟩ : ∃ D, Sf.decT (u : Int) = D := ⟨_, rfl⟩
  rw [hDD] at hD ⊢
  have HT := Lib.hid hT
  have l0 := dec15 (u := u / 1000) (by omega)
  have l1 := one_dig (u := u % 1000 / 100) (by omega)
  have l2 := one_dig (u := u % 1000 / 10 % 10) (by omega)
  have l3 := one_dig (u := u % 1000 % 10) (by omega)
  have H0 := Lib.hid (fun W x hx hT => itoaE x (u / 1000) W hx (by omega) hT)
  have H1 := Lib.hid (fun W x hx hT => itoaE x (u % 1000 / 100) W hx (by omega) hT)
  have H2 := Lib.hid (fun W x hx hT => itoaE x (u % 1000 / 10 % 10) W hx (by omega) hT)
  have H3 := Lib.hid (fun W x hx hT => itoaE x (u % 1000 % 10) W hx (by omega) hT)
  obtain ⟨d0, hd0⟩ : ∃ d, Lib.decDigits (u / 1000) = d := ⟨_, rfl⟩
  obtain ⟨d1, hd1⟩ : ∃ d, Lib.decDigits (u % 1000 / 100) = d := ⟨_, rfl⟩
  obtain ⟨d2, hd2⟩ : ∃ d, Lib.decDigits (u % 1000 / 10 % 10) = d := ⟨_, rfl⟩
  obtain ⟨d3, hd3⟩ : ∃ d, Lib.decDigits (u % 1000 % 10) = d := ⟨_, rfl⟩
  rw [hd0] at H0 l0; rw [hd1] at H1 l1; rw [hd2] at H2 l2; rw [hd3] at H3 l3
  rw [hd0, hd1, hd2, hd3] at hD
  clear hd0 hd1 hd2 hd3 hT hDD
  have n0 : (0 : Int) ≤ (u : Int) := by omega
  by_cases h2 : u % 1000 % 100 = 0
  · have h3 : u % 1000 % 10 = 0 := by omega
    go_enter Tryz.func86, Tryz.ntmps86
    have k2 : ((u : Int) % 1000 % 100 != 0) = false := by simp; omega
    have k3 : ((u : Int) % 1000 % 10 != 0) = false := by simp; omega
    have hR : Hid (D = (d0 ++ 46 :: (d1))) := by
      rw [Hid, hD, if_neg (fun h => h h2), if_neg (fun h => h h3)]
      simp
    clear hD
    have hb := Below.refl w.heap.size w
    go_wp2_with fail
    refine (H1.out _ _ (by omega) (HT.out.below hb)).mono ?_
    rintro e W1 ⟨rfl, hb1⟩
    replace hb := onto' hb hb1
    clear hb1
    go_wp2_with fail
    refine (H0.out _ _ (by omega) (HT.out.below hb)).mono ?_
    rintro e W0 ⟨rfl, hb0⟩
    replace hb := onto' hb hb0
    clear hb0
    have HB := Lib.hid hb
    clear hb HT H0 H1 H2 H3
    go_wp2_with fail
    go_ret
    refine ⟨Oct.ret_str ?_, HB.out⟩
    rw [hR.out]
    show bA [] ++ bA d0 ++ bA [46] ++ bA (d1) = bA _
    rw [bA_app, bA_app, bA_app]
    congr 1
    simp
  · by_cases h3 : u % 1000 % 10 = 0
    · go_enter Tryz.func86, Tryz.ntmps86
      have k2 : ((u : Int) % 1000 % 100 != 0) = true := by simp; omega
      have k3 : ((u : Int) % 1000 % 10 != 0) = false := by simp; omega
      have hR : Hid (D = (d0 ++ 46 :: (d1 ++ d2))) := by
        rw [Hid, hD, if_pos h2, if_neg (fun h => h h3)]
        simp
      clear hD
      have hb := Below.refl w.heap.size w
      go_wp2_with fail
      refine (H1.out _ _ (by omega) (HT.out.below hb)).mono ?_
      rintro e W1 ⟨rfl, hb1⟩
      replace hb := onto' hb hb1
      clear hb1
      have za : ∀ W : World, (Op.stringOp .add (bA (d1)) (bA (d2))).run Tryz.prog W = .ok (.string (bA (d1 ++ d2))) W := fun W => by
        rw [run_string_add_sum W (bA (d1)) (bA (d2)) (by rw [bA_size, bA_size]; omega), bA_app]
      go_wp2_with fail
      refine (H2.out _ _ (by omega) (HT.out.below hb)).mono ?_
      rintro e W2 ⟨rfl, hb2⟩
      replace hb := onto' hb hb2
      clear hb2
      go_wp2_with fail
      refine (H0.out _ _ (by omega) (HT.out.below hb)).mono ?_
      rintro e W0 ⟨rfl, hb0⟩
      replace hb := onto' hb hb0
      clear hb0
      have HB := Lib.hid hb
      clear hb HT H0 H1 H2 H3
      go_wp2_with fail
      go_ret
      refine ⟨Oct.ret_str ?_, HB.out⟩
      rw [hR.out]
      show bA [] ++ bA d0 ++ bA [46] ++ bA (d1 ++ d2) = bA _
      rw [bA_app, bA_app, bA_app]
      congr 1
      simp
    · go_enter Tryz.func86, Tryz.ntmps86
      have k2 : ((u : Int) % 1000 % 100 != 0) = true := by simp; omega
      have k3 : ((u : Int) % 1000 % 10 != 0) = true := by simp; omega
      have hR : Hid (D = (d0 ++ 46 :: (d1 ++ d2 ++ d3))) := by
        rw [Hid, hD, if_pos h2, if_pos h3]
        simp
      clear hD
      have hb := Below.refl w.heap.size w
      go_wp2_with fail
      refine (H1.out _ _ (by omega) (HT.out.below hb)).mono ?_
      rintro e W1 ⟨rfl, hb1⟩
      replace hb := onto' hb hb1
      clear hb1
      have za : ∀ W : World, (Op.stringOp .add (bA (d1)) (bA (d2))).run Tryz.prog W = .ok (.string (bA (d1 ++ d2))) W := fun W => by
        rw [run_string_add_sum W (bA (d1)) (bA (d2)) (by rw [bA_size, bA_size]; omega), bA_app]
      go_wp2_with fail
      refine (H2.out _ _ (by omega) (HT.out.below hb)).mono ?_
      rintro e W2 ⟨rfl, hb2⟩
      replace hb := onto' hb hb2
      clear hb2
      have zb : ∀ W : World, (Op.stringOp .add (bA (d1 ++ d2)) (bA (d3))).run Tryz.prog W = .ok (.string (bA (d1 ++ d2 ++ d3))) W := fun W => by
        rw [run_string_add_sum W (bA (d1 ++ d2)) (bA (d3)) (by rw [bA_size, bA_size, List.length_append]; omega), bA_app]
      go_wp2_with fail
      refine (H3.out _ _ (by omega) (HT.out.below hb)).mono ?_
      rintro e W3 ⟨rfl, hb3⟩
      replace hb := onto' hb hb3
      clear hb3
      go_wp2_with fail
      refine (H0.out _ _ (by omega) (HT.out.below hb)).mono ?_
      rintro e W0 ⟨rfl, hb0⟩
      replace hb := onto' hb hb0
      clear hb0
      have HB := Lib.hid hb
      clear hb HT H0 H1 H2 H3
      go_wp2_with fail
      go_ret
      refine ⟨Oct.ret_str ?_, HB.out⟩
      rw [hR.out]
      show bA [] ++ bA d0 ++ bA [46] ++ bA (d1 ++ (d2 ++ d3)) = bA _
      rw [bA_app, bA_app, bA_app]
      congr 1
      simp
set_option maxHeartbeats 2000000 in
set_option maxRecDepth 20000 in
theorem rdecimal_neg (u : Nat) (w : World) (h0 : 0 < u) (hu : u ≤ 999999999999999) (hT : Tab w) : Calls Tryz.prog 86 #[.int .i64 (-(u : Int))] w fun e w' => e = .returned (.string (bA (Sf.decT (-(u : Int))))) ∧ Below w.heap.size w w' := by
  have hD := decT_neg h0
  rw [fracs] at hD
  obtain ⟨D, hDD⟩ : ∃ D, Sf.decT (-(u : Int)) = D := ⟨_, rfl⟩
  rw [hDD] at hD ⊢
  have HT := Lib.hid hT
  have l0 := dec15 (u := u / 1000) (by omega)
  have l1 := one_dig (u := u % 1000 / 100) (by omega)
  have l2 := one_dig (u := u % 1000 / 10 % 10) (by omega)
  have l3 := one_dig (u := u % 1000 % 10) (by omega)
  have H0 := Lib.hid (fun W x hx hT => itoaE x (u / 1000) W hx (by omega) hT)
  have H1 := Lib.hid (fun W x hx hT => itoaE x (u % 1000 / 100) W hx (by omega) hT)
  have H2 := Lib.hid (fun W x hx hT => itoaE x (u % 1000 / 10 % 10) W hx (by omega) hT)
  have H3 := Lib.hid (fun W x hx hT => itoaE x (u % 1000 % 10) W hx (by omega) hT)
  obtain ⟨d0, hd0⟩ : ∃ d, Lib.decDigits (u / 1000) = d := ⟨_, rfl⟩
  obtain ⟨d1, hd1⟩ : ∃ d, Lib.decDigits (u % 1000 / 100) = d := ⟨_, rfl⟩
  obtain ⟨d2, hd2⟩ : ∃ d, Lib.decDigits (u % 1000 / 10 % 10) = d := ⟨_, rfl⟩
  obtain ⟨d3, hd3⟩ : ∃ d, Lib.decDigits (u % 1000 % 10) = d := ⟨_, rfl⟩
  rw [hd0] at H0 l0; rw [hd1] at H1 l1; rw [hd2] at H2 l2; rw [hd3] at H3 l3
  rw [hd0, hd1, hd2, hd3] at hD
  clear hd0 hd1 hd2 hd3 hT hDD
  have n0 : (-(u : Int)) < 0 := by omega
  have n1 : IntKind.i64.wrap (- -(u : Int)) = (u : Int) := by rw [Int.neg_neg]; exact IntWalk.i64_in _ (by omega)
  by_cases h2 : u % 1000 % 100 = 0
  · have h3 : u % 1000 % 10 = 0 := by omega
    go_enter Tryz.func86, Tryz.ntmps86
    have k2 : ((u : Int) % 1000 % 100 != 0) = false := by simp; omega
    have k3 : ((u : Int) % 1000 % 10 != 0) = false := by simp; omega
    have hR : Hid (D = [45] ++ (d0 ++ 46 :: (d1))) := by
      rw [Hid, hD, if_neg (fun h => h h2), if_neg (fun h => h h3)]
      simp
    clear hD
    have hb := Below.refl w.heap.size w
    go_wp2_with fail
    refine (H1.out _ _ (by omega) (HT.out.below hb)).mono ?_
    rintro e W1 ⟨rfl, hb1⟩
    replace hb := onto' hb hb1
    clear hb1
    go_wp2_with fail
    refine (H0.out _ _ (by omega) (HT.out.below hb)).mono ?_
    rintro e W0 ⟨rfl, hb0⟩
    replace hb := onto' hb hb0
    clear hb0
    have HB := Lib.hid hb
    clear hb HT H0 H1 H2 H3
    go_wp2_with fail
    go_ret
    refine ⟨Oct.ret_str ?_, HB.out⟩
    rw [hR.out]
    show bA [45] ++ bA d0 ++ bA [46] ++ bA (d1) = bA _
    rw [bA_app, bA_app, bA_app]
    congr 1
    simp
  · by_cases h3 : u % 1000 % 10 = 0
    · go_enter Tryz.func86, Tryz.ntmps86
      have k2 : ((u : Int) % 1000 % 100 != 0) = true := by simp; omega
      have k3 : ((u : Int) % 1000 % 10 != 0) = false := by simp; omega
      have hR : Hid (D = [45] ++ (d0 ++ 46 :: (d1 ++ d2))) := by
        rw [Hid, hD, if_pos h2, if_neg (fun h => h h3)]
        simp
      clear hD
      have hb := Below.refl w.heap.size w
      go_wp2_with fail
      refine (H1.out _ _ (by omega) (HT.out.below hb)).mono ?_
      rintro e W1 ⟨rfl, hb1⟩
      replace hb := onto' hb hb1
      clear hb1
      have za : ∀ W : World, (Op.stringOp .add (bA (d1)) (bA (d2))).run Tryz.prog W = .ok (.string (bA (d1 ++ d2))) W := fun W => by
        rw [run_string_add_sum W (bA (d1)) (bA (d2)) (by rw [bA_size, bA_size]; omega), bA_app]
      go_wp2_with fail
      refine (H2.out _ _ (by omega) (HT.out.below hb)).mono ?_
      rintro e W2 ⟨rfl, hb2⟩
      replace hb := onto' hb hb2
      clear hb2
      go_wp2_with fail
      refine (H0.out _ _ (by omega) (HT.out.below hb)).mono ?_
      rintro e W0 ⟨rfl, hb0⟩
      replace hb := onto' hb hb0
      clear hb0
      have HB := Lib.hid hb
      clear hb HT H0 H1 H2 H3
      go_wp2_with fail
      go_ret
      refine ⟨Oct.ret_str ?_, HB.out⟩
      rw [hR.out]
      show bA [45] ++ bA d0 ++ bA [46] ++ bA (d1 ++ d2) = bA _
      rw [bA_app, bA_app, bA_app]
      congr 1
      simp
    · go_enter Tryz.func86, Tryz.ntmps86
      have k2 : ((u : Int) % 1000 % 100 != 0) = true := by simp; omega
      have k3 : ((u : Int) % 1000 % 10 != 0) = true := by simp; omega
      have hR : Hid (D = [45] ++ (d0 ++ 46 :: (d1 ++ d2 ++ d3))) := by
        rw [Hid, hD, if_pos h2, if_pos h3]
        simp
      clear hD
      have hb := Below.refl w.heap.size w
      go_wp2_with fail
      refine (H1.out _ _ (by omega) (HT.out.below hb)).mono ?_
      rintro e W1 ⟨rfl, hb1⟩
      replace hb := onto' hb hb1
      clear hb1
      have za : ∀ W : World, (Op.stringOp .add (bA (d1)) (bA (d2))).run Tryz.prog W = .ok (.string (bA (d1 ++ d2))) W := fun W => by
        rw [run_string_add_sum W (bA (d1)) (bA (d2)) (by rw [bA_size, bA_size]; omega), bA_app]
      go_wp2_with fail
      refine (H2.out _ _ (by omega) (HT.out.below hb)).mono ?_
      rintro e W2 ⟨rfl, hb2⟩
      replace hb := onto' hb hb2
      clear hb2
      have zb : ∀ W : World, (Op.stringOp .add (bA (d1 ++ d2)) (bA (d3))).run Tryz.prog W = .ok (.string (bA (d1 ++ d2 ++ d3))) W := fun W => by
        rw [run_string_add_sum W (bA (d1 ++ d2)) (bA (d3)) (by rw [bA_size, bA_size, List.length_append]; omega), bA_app]
      go_wp2_with fail
      refine (H3.out _ _ (by omega) (HT.out.below hb)).mono ?_
      rintro e W3 ⟨rfl, hb3⟩
      replace hb := onto' hb hb3
      clear hb3
      go_wp2_with fail
      refine (H0.out _ _ (by omega) (HT.out.below hb)).mono ?_
      rintro e W0 ⟨rfl, hb0⟩
      replace hb := onto' hb hb0
      clear hb0
      have HB := Lib.hid hb
      clear hb HT H0 H1 H2 H3
      go_wp2_with fail
      go_ret
      refine ⟨Oct.ret_str ?_, HB.out⟩
      rw [hR.out]
      show bA [45] ++ bA d0 ++ bA [46] ++ bA (d1 ++ (d2 ++ d3)) = bA _
      rw [bA_app, bA_app, bA_app]
      congr 1
      simp
theorem rdecimal_any (n : Int) (w : World) (h0 : -999999999999999 ≤ n) (h1 : n ≤ 999999999999999) (hT : Tab w) : Calls Tryz.prog 86 #[.int .i64 n] w fun e w' => e = .returned (.string (bA (Sf.decT n))) ∧ Below w.heap.size w w' := by
  by_cases h : n < 0
  · obtain ⟨u, rfl⟩ : ∃ u : Nat, n = -(u : Int) := ⟨n.natAbs, by omega⟩
    exact rdecimal_neg u w (by omega) (by omega) hT
  · obtain ⟨u, rfl⟩ : ∃ u : Nat, n = (u : Int) := ⟨n.toNat, by omega⟩
    exact rdecimal_pos u w (by omega) hT
end Go.Proofs.YtogjekjklknfeaaGreatDoor

/- The contract of the document's Value. -/

namespace Go.Proofs.YtogjekjklknfeaaGreatDoor
open Go.RowKit Go.Shelf Go.Deep

/-- What the document's Value answers. -/
def ValR (w : World) (o : Option (List UInt8)) (e : Ending) (w' : World) : Prop := (∃ x : ByteArray, e = .returned (.tuple #[.string x, .bool o.isSome]) ∧ ∀ v, o = some v → x = bA v) ∧ Below w.heap.size w w'
theorem ValR.none {w w' : World} (x : ByteArray) (hb : Below w.heap.size w w') : ValR w none (.returned (.tuple #[.string x, .bool false])) w' := ⟨⟨x, rfl, fun v h => by cases h⟩, hb⟩
theorem ValR.some {w w' : World} (v : List UInt8) (hb : Below w.heap.size w w') : ValR w (some v) (.returned (.tuple #[.string (bA v), .bool true])) w' := ⟨⟨bA v, rfl, fun u h => by cases h; rfl⟩, hb⟩
theorem ValR.some' {w w' : World} {v : List UInt8} {x : ByteArray} (hx : x = bA v) (hb : Below w.heap.size w w') : ValR w (Option.some v) (.returned (.tuple #[.string x, .bool true])) w' := by subst hx; exact ValR.some v hb

theorem vt_big {k n : Int} {t : List UInt8} (h : n < -999999999999999 ∨ 999999999999999 < n) : Sf.vtext k n t = none := by
  unfold Sf.vtext Sf.maxN
  rw [if_pos]
  rcases h with h | h <;> simp [h]
theorem vt_numeric {k n : Int} {c : UInt8} {t : List UInt8} (h : Sf.numK k = true) : Sf.vtext k n (c :: t) = none := by
  unfold Sf.vtext
  rw [if_pos]; simp [h]
theorem vt_other {k n : Int} {t : List UInt8} (h : Sf.numK k = false) (hn : n ≠ 0) : Sf.vtext k n t = none := by
  unfold Sf.vtext
  rw [if_pos]; simp [h, hn]
theorem vt_num {k n : Int} (h : Sf.numK k = true) (h0 : -999999999999999 ≤ n) (h1 : n ≤ 999999999999999) : Sf.vtext k n [] = if k = 1 then some (Lib.itoa n) else if k = 2 then some (Sf.decT n) else if k = 6 then (if n = 0 ∨ n = 1 then some (63 :: Lib.itoa n) else none) else none := by
  unfold Sf.vtext Sf.maxN
  have e1 : ¬ n < -999999999999999 := by omega
  have e2 : ¬ 999999999999999 < n := by omega
  rw [if_neg (by simp [h, e1, e2])]
  simp only [Sf.numK] at h
  split
  · rfl
  · split
    · rfl
    · split
      · rfl
      · rename_i a b c; simp [a, b, c] at h
theorem vt_text {t : List UInt8} : Sf.vtext 3 0 t = if Oct.allB Sf.prI t then some (34 :: (Sf.esc t ++ [34])) else none := by
  unfold Sf.vtext; rw [if_neg (by simp [Sf.numK, Sf.maxN])]; rfl
theorem vt_tok {t : List UInt8} : Sf.vtext 4 0 t = if Sf.tokB t then some t else none := by
  unfold Sf.vtext; rw [if_neg (by simp [Sf.numK, Sf.maxN])]; rfl
theorem vt_byt {t : List UInt8} : Sf.vtext 5 0 t = if Oct.allB Sf.baseI t then some (58 :: (t ++ [58])) else none := by
  unfold Sf.vtext; rw [if_neg (by simp [Sf.numK, Sf.maxN])]; rfl

set_option maxHeartbeats 2000000 in
set_option maxRecDepth 20000 in
/-- A number that is too great may not be. -/
theorem rval_big (k n : Int) (t : List UInt8) (w : World) (h : n < -999999999999999 ∨ 999999999999999 < n) : Calls Tryz.prog 56 #[.int .i64 k, .int .i64 n, .string (bA t)] w (ValR w (Sf.vtext k n t)) := by
  rw [vt_big h]
  obtain ⟨b1, hb1⟩ : ∃ b, (k == 1) = b := ⟨_, rfl⟩
  obtain ⟨b2, hb2⟩ : ∃ b, (k == 2) = b := ⟨_, rfl⟩
  obtain ⟨b6, hb6⟩ : ∃ b, (k == 6) = b := ⟨_, rfl⟩
  have hz : (n != 0) = true := by simp; omega
  rcases h with h | h
  · go_enter Tryz.func56, Tryz.ntmps56
    go_wp2_with fail
    all_goals (go_ret2; exact ValR.none _ (Below.refl _ _))
  · have h' : -999999999999999 ≤ n := by omega
    go_enter Tryz.func56, Tryz.ntmps56
    go_wp2_with fail
    all_goals (go_ret2; exact ValR.none _ (Below.refl _ _))
set_option maxHeartbeats 2000000 in
set_option maxRecDepth 20000 in
theorem rval_int (n : Int) (t : List UInt8) (w : World) (h0 : -999999999999999 ≤ n) (h1 : n ≤ 999999999999999) (hT : Tab w) : Calls Tryz.prog 56 #[.int .i64 1, .int .i64 n, .string (bA t)] w (ValR w (Sf.vtext 1 n t)) := by
  cases t with
  | cons c t =>
    rw [vt_numeric rfl]
    clear hT
    go_enter Tryz.func56, Tryz.ntmps56
    go_wp2_with fail
    go_ret2; exact ValR.none _ (Below.refl _ _)
  | nil =>
    rw [vt_num rfl h0 h1, if_pos rfl]
    have H := Lib.hid (itoa_all n w (by omega) (by omega) hT)
    clear hT
    go_enter Tryz.func56, Tryz.ntmps56
    go_wp2_with fail
    refine H.out.mono ?_
    rintro e w1 ⟨rfl, hb⟩
    go_wp2_with fail
    go_ret2; exact ValR.some _ hb
set_option maxHeartbeats 2000000 in
set_option maxRecDepth 20000 in
theorem rval_dec (n : Int) (t : List UInt8) (w : World) (h0 : -999999999999999 ≤ n) (h1 : n ≤ 999999999999999) (hT : Tab w) : Calls Tryz.prog 56 #[.int .i64 2, .int .i64 n, .string (bA t)] w (ValR w (Sf.vtext 2 n t)) := by
  cases t with
  | cons c t =>
    rw [vt_numeric rfl]
    clear hT
    go_enter Tryz.func56, Tryz.ntmps56
    go_wp2_with fail
    go_ret2; exact ValR.none _ (Below.refl _ _)
  | nil =>
    rw [vt_num rfl h0 h1, if_neg (by decide), if_pos rfl]
    have H := Lib.hid (rdecimal_any n w h0 h1 hT)
    clear hT
    go_enter Tryz.func56, Tryz.ntmps56
    go_wp2_with fail
    refine H.out.mono ?_
    rintro e w1 ⟨rfl, hb⟩
    go_wp2_with fail
    go_ret2; exact ValR.some _ hb
set_option maxHeartbeats 2000000 in
set_option maxRecDepth 20000 in
theorem rval_bool (n : Int) (t : List UInt8) (w : World) (h0 : -999999999999999 ≤ n) (h1 : n ≤ 999999999999999) (hT : Tab w) : Calls Tryz.prog 56 #[.int .i64 6, .int .i64 n, .string (bA t)] w (ValR w (Sf.vtext 6 n t)) := by
  cases t with
  | cons c t =>
    rw [vt_numeric rfl]
    clear hT
    go_enter Tryz.func56, Tryz.ntmps56
    go_wp2_with fail
    go_ret2; exact ValR.none _ (Below.refl _ _)
  | nil =>
    rw [vt_num rfl h0 h1, if_neg (by decide), if_neg (by decide), if_pos rfl]
    have H := Lib.hid (itoa_all n w (by omega) (by omega) hT)
    have hil := itoa_short n (by omega) (by omega)
    obtain ⟨d, hd⟩ : ∃ d, Lib.itoa n = d := ⟨_, rfl⟩
    rw [hd] at H hil ⊢
    clear hT hd
    have hz : ∀ W : World, (Op.stringOp .add ⟨#[63]⟩ (bA d)).run Tryz.prog W = .ok (.string (bA (63 :: d))) W := fun W => by
      rw [run_string_add_sum W (bA [63]) (bA d) (by rw [bA_size, bA_size]; simp; omega), bA_app]; rfl
    by_cases hn : n = 0 ∨ n = 1
    · rw [if_pos hn]
      rcases hn with rfl | rfl
      · go_enter Tryz.func56, Tryz.ntmps56
        go_wp2_with fail
        refine H.out.mono ?_
        rintro e w1 ⟨rfl, hb⟩
        go_wp2_with fail
        go_ret2; exact ValR.some _ hb
      · go_enter Tryz.func56, Tryz.ntmps56
        go_wp2_with fail
        refine H.out.mono ?_
        rintro e w1 ⟨rfl, hb⟩
        go_wp2_with fail
        go_ret2; exact ValR.some _ hb
    · rw [if_neg hn]
      have e0 : (n == 0) = false := by simp; omega
      have e1 : (n == 1) = false := by simp; omega
      clear hn
      go_enter Tryz.func56, Tryz.ntmps56
      go_wp2_with fail
      refine H.out.mono ?_
      rintro e w1 ⟨rfl, hb⟩
      go_wp2_with fail
      go_ret2; exact ValR.none _ hb
set_option maxHeartbeats 2000000 in
set_option maxRecDepth 20000 in
theorem rval_other (k n : Int) (t : List UInt8) (w : World) (hk : Sf.numK k = false) (h : n ≠ 0 ∨ (k ≠ 3 ∧ k ≠ 4 ∧ k ≠ 5)) : Calls Tryz.prog 56 #[.int .i64 k, .int .i64 n, .string (bA t)] w (ValR w (Sf.vtext k n t)) := by
  have hv : Sf.vtext k n t = none := by
    rcases h with h | ⟨h3, h4, h5⟩
    · exact vt_other hk h
    · unfold Sf.vtext
      simp only [Sf.numK, Bool.or_eq_false_iff, beq_eq_false_iff_ne] at hk
      rw [if_neg hk.1, if_neg hk.2.1, if_neg hk.2.2, if_neg h3, if_neg h4, if_neg h5]
      split <;> rfl
  rw [hv]
  simp only [Sf.numK, Bool.or_eq_false_iff] at hk
  obtain ⟨k1, k2, k6⟩ := hk
  by_cases hn : n = 0
  · subst hn
    obtain ⟨h3, h4, h5⟩ : k ≠ 3 ∧ k ≠ 4 ∧ k ≠ 5 := by
      rcases h with h | h
      · exact absurd rfl h
      · exact h
    have k3 : (k == 3) = false := by simpa using h3
    have k4 : (k == 4) = false := by simpa using h4
    have k5 : (k == 5) = false := by simpa using h5
    clear h h3 h4 h5 hv
    go_enter Tryz.func56, Tryz.ntmps56
    go_wp2_with fail
    go_ret2; exact ValR.none _ (Below.refl _ _)
  · have n0 : (n != 0) = true := by simpa using hn
    clear h hn hv
    go_enter Tryz.func56, Tryz.ntmps56
    go_wp2_with fail
    go_ret2; exact ValR.none _ (Below.refl _ _)
end Go.Proofs.YtogjekjklknfeaaGreatDoor

/- The contract of the document's Value: texts, tokens, bytes; and as a whole. -/

namespace Go.Proofs.YtogjekjklknfeaaGreatDoor
open Go.RowKit Go.Shelf Go.Deep

theorem esc_snoc (p : List UInt8) (c : UInt8) : Sf.esc (p ++ [c]) = Sf.esc p ++ (if c = 34 ∨ c = 92 then [92, c] else [c]) := by
  induction p with
  | nil => simp [Sf.esc]
  | cons b p ih =>
    rw [List.cons_append, Sf.esc, Sf.esc, ih]
    split <;> simp
theorem allB_snoc (q : Int → Bool) (p : List UInt8) (c : UInt8) : Oct.allB q (p ++ [c]) = (Oct.allB q p && q c.toNat) := by
  rw [Sf.allB_app]; simp [Oct.allB]
structure TxInv (S : ByteArray) (p r : List UInt8) : Prop where
  eq : p ++ r = S.data.toList
  ok : Oct.allB Sf.prI p = true
  len : (Sf.esc p).length ≤ 2 * p.length
theorem tx_bad {p r : List UInt8} {c : UInt8} (h : Sf.prI c.toNat = false) : Oct.allB Sf.prI (p ++ c :: r) = false := by
  rw [Sf.allB_app]; simp [Oct.allB, h]
set_option maxHeartbeats 4000000 in
set_option maxRecDepth 20000 in
theorem rval_text (t : List UInt8) (w : World) (ht : t.length ≤ 10000) : Calls Tryz.prog 56 #[.int .i64 3, .int .i64 0, .string (bA t)] w (ValR w (Sf.vtext 3 0 t)) := by
  rw [vt_text]
  obtain ⟨o, ho⟩ : ∃ o, (if Oct.allB Sf.prI t then some (34 :: (Sf.esc t ++ [34])) else none) = o := ⟨_, rfl⟩
  rw [ho]
  obtain ⟨S, hS⟩ : ∃ S, bA t = S := ⟨_, rfl⟩
  have hsl : S.data.toList = t := by rw [← hS]
  have hsz : S.size = t.length := by rw [← hS]; rfl
  have hl : S.size ≤ 10000 := by omega
  have HO : Hid ((if Oct.allB Sf.prI S.data.toList then some (34 :: (Sf.esc S.data.toList ++ [34])) else none) = o) := by rw [Hid, hsl]; exact ho
  have HST : Hid (TxInv S [] S.data.toList) := ⟨rfl, rfl, by simp [Sf.esc]⟩
  rw [hS]
  clear hS hsl hsz ho ht
  go_enter Tryz.func56, Tryz.ntmps56
  go_wp2_with fail
  go_loop [9, 10] (fun v i => ∃ p r, v = .string (bA (Sf.esc p)) ∧ i = .int .i64 ((p.length : Nat) : Int) ∧ Hid (TxInv S p r)) (fun _ i => S.size - (intOf i).toNat)
  case atStart => exact ⟨[], S.data.toList, rfl, rfl, HST⟩
  case round =>
    obtain ⟨p, r, rfl, rfl, hI⟩ := hrel
    have hsz := size_of hI.out.eq
    have hel := hI.out.len
    cases r with
    | nil =>
      have hd : ¬ p.length < S.size := by simp at hsz; omega
      have hd' : (S.size : Int) ≤ (p.length : Int) := by omega
      have hO : o = some (34 :: (Sf.esc p ++ [34])) := by
        have := hI.out.eq
        rw [List.append_nil] at this
        rw [← HO.out, ← this, if_pos hI.out.ok]
      obtain ⟨es, hes⟩ : ∃ es, Sf.esc p = es := ⟨_, rfl⟩
      rw [hes] at hel hO ⊢
      subst hO
      have hel2 : es.length ≤ 20000 := by simp at hsz; omega
      clear hI HO HST hsz hes hel
      go_wp2_with fail
      go_ret2
      refine ValR.some' ?_ (Below.refl _ _)
      show bA [34] ++ bA es ++ bA [34] = _
      rw [bA_app [34] es, bA_app ([34] ++ es) [34]]; rfl
    | cons c r =>
      have hlt : p.length < S.size := by rw [hsz]; simp
      have hlt' : (p.length : Int) < (S.size : Int) := by omega
      have hat := at_r' hI.out.eq hlt
      have hx := ext_one hI.out.eq
      have s1 : IntKind.i64.wrap ((p.length : Int) + 1) = (p.length : Int) + 1 := IntWalk.i64_in _ (by omega)
      have s2 : ((p.length : Int) + 1).toNat = p.length + 1 := by omega
      have s3 : (0 : Int) ≤ (p.length : Int) + 1 := by omega
      have s4 : (p.length : Int) + 1 ≤ (S.size : Int) := by omega
      have s6 : (p.length : Int) ≤ (p.length : Int) + 1 := by omega
      by_cases hpr : Sf.prI c.toNat = true
      · have hr0 : (32 : Int) ≤ ((S[p.length]'hlt).toNat : Int) := by rw [hat]; simp [Sf.prI] at hpr; omega
        have hr1 : ((S[p.length]'hlt).toNat : Int) ≤ 126 := by rw [hat]; simp [Sf.prI] at hpr; omega
        have HPL : Hid ((p ++ [c]).length = p.length + 1) := Lib.hid (by simp)
        have HN : Hid (TxInv S (p ++ [c]) r) := Lib.hid ⟨by rw [← hI.out.eq]; simp, by rw [allB_snoc, hI.out.ok, hpr]; rfl, esc_len _⟩
        have HES := Lib.hid (esc_snoc p c)
        obtain ⟨es, hes⟩ : ∃ es, Sf.esc p = es := ⟨_, rfl⟩
        rw [hes] at hel HES ⊢
        have hel2 : es.length ≤ 20000 := by omega
        by_cases c34 : c = 34
        · have g1 : (((S[p.length]'hlt).toNat : Int) == 34) = true := by rw [hat, c34]; rfl
          rw [if_pos (.inl c34)] at HES
          clear hI HO HST hsz hat hpr hes hel c34
          go_wp2_with fail
          go_round
          case rel =>
            refine ⟨p ++ [c], r, ?_, by rw [HPL.out]; go_num, HN⟩
            rw [HES.out]
            show Value.string (bA es ++ bA [92] ++ bA [c]) = _
            rw [bA_app es [92], bA_app (es ++ [92]) [c], List.append_assoc]; rfl
          case measure => simp [intOf]; omega
        · have g1 : (((S[p.length]'hlt).toNat : Int) == 34) = false := by rw [hat]; exact byte_off (d := 34) c34
          by_cases c92 : c = 92
          · have g2 : (((S[p.length]'hlt).toNat : Int) == 92) = true := by rw [hat, c92]; rfl
            rw [if_pos (.inr c92)] at HES
            clear hI HO HST hsz hat hpr hes hel c92 c34
            go_wp2_with fail
            go_round
            case rel =>
              refine ⟨p ++ [c], r, ?_, by rw [HPL.out]; go_num, HN⟩
              rw [HES.out]
              show Value.string (bA es ++ bA [92] ++ bA [c]) = _
              rw [bA_app es [92], bA_app (es ++ [92]) [c], List.append_assoc]; rfl
            case measure => simp [intOf]; omega
          · have g2 : (((S[p.length]'hlt).toNat : Int) == 92) = false := by rw [hat]; exact byte_off (d := 92) c92
            rw [if_neg (by simp [c34, c92])] at HES
            clear hI HO HST hsz hat hpr hes hel
            go_wp2_with fail
            go_round
            case rel =>
              refine ⟨p ++ [c], r, ?_, by rw [HPL.out]; go_num, HN⟩
              rw [HES.out, ← bA_app]
            case measure => simp [intOf]; omega
      · have hO : o = none := by
          rw [← HO.out, ← hI.out.eq, tx_bad (by simpa using hpr)]; rfl
        subst hO
        by_cases h32 : (c.toNat : Int) < 32
        · have hr0 : ((S[p.length]'hlt).toNat : Int) < 32 := by rw [hat]; exact h32
          clear hI HO HST hsz hat hpr hel
          go_wp2_with fail
          go_ret2; exact ValR.none _ (Below.refl _ _)
        · have hr0 : (32 : Int) ≤ ((S[p.length]'hlt).toNat : Int) := by rw [hat]; omega
          have hr1 : (126 : Int) < ((S[p.length]'hlt).toNat : Int) := by rw [hat]; simp [Sf.prI] at hpr; omega
          clear hI HO HST hsz hat hpr hel
          go_wp2_with fail
          go_ret2; exact ValR.none _ (Below.refl _ _)
end Go.Proofs.YtogjekjklknfeaaGreatDoor

/- The contract of the document's Value: tokens, bytes; and as a whole. -/
namespace Go.Proofs.YtogjekjklknfeaaGreatDoor
open Go.RowKit Go.Shelf Go.Deep

theorem num_kind {sg : Int} {s r : List UInt8} {p : Sf.Par} (h : Sf.num sg s = some (p, r)) : p.kind = 1 ∨ p.kind = 2 := by
  unfold Sf.num at h
  split at h
  · cases h
  · split at h
    · split at h
      · cases h
      · cases h; exact .inr rfl
    · cases h; exact .inl rfl
def tokQ (o : Option (Sf.Par × List UInt8)) : Bool := match o with | none => false | some (p, r) => r.isEmpty && p.kind == 4
def bytQ (t : List UInt8) (o : Option (Sf.Par × List UInt8)) : Bool := match o with | none => false | some (p, r) => r.isEmpty && (p.kind == 5 && p.text == t)
theorem dw_empty (q : Int → Bool) (t : List UInt8) : (Sf.dw q t).isEmpty = Oct.allB q t := by
  unfold Sf.dw Oct.allB
  induction t with
  | nil => rfl
  | cons c t ih =>
    cases hc : q c.toNat with
    | true => rw [List.dropWhile_cons_of_pos (by exact hc), ih]; simp [hc]
    | false => rw [List.dropWhile_cons_of_neg (by simp [hc])]; simp [hc]
theorem rtok_first {c : UInt8} (h : (Oct.letterI c.toNat || c == 42) = true) : c ≠ 45 ∧ Oct.digitI c.toNat = false ∧ c ≠ 34 := by
  refine ⟨?_, ?_, ?_⟩
  · rintro rfl; exact absurd h (by decide)
  · by_cases h42 : c = 42
    · subst h42; rfl
    · have h1 : Oct.letterI c.toNat = true := by simpa [h42] using h
      simp [Oct.letterI] at h1
      simp [Oct.digitI]; omega
  · rintro rfl; exact absurd h (by decide)
theorem rtok_is (t : List UInt8) : tokQ (Sf.value t) = Sf.tokB t := by
  cases t with
  | nil => rfl
  | cons c r =>
    cases hL : (Oct.letterI c.toNat || c == 42) with
    | true =>
      obtain ⟨h1, h2, h3⟩ := rtok_first hL
      rw [Sf.value_cons, if_neg h1, if_neg (by rw [h2]; simp), if_neg h3, if_pos hL]
      simp only [tokQ, Sf.tokB, hL, dw_empty, Sf.kv]; simp
    | false =>
      have hT : Sf.tokB (c :: r) = false := by rw [Sf.tokB, hL]; rfl
      rw [hT]
      cases hv : Sf.value (c :: r) with
      | none => rfl
      | some x =>
        obtain ⟨p, r'⟩ := x
        have hk : p.kind ≠ 4 := by
          rw [Sf.value_cons] at hv
          split at hv
          · rcases num_kind hv with h | h <;> omega
          · split at hv
            · rcases num_kind hv with h | h <;> omega
            · split at hv
              · cases hq : Sf.quo r with
                | none => rw [hq] at hv; cases hv
                | some y => rw [hq] at hv; cases hv; simp [Sf.kv]
              · rw [if_neg (by rw [hL]; simp)] at hv
                split at hv
                · split at hv
                  · cases hv; simp [Sf.kv]
                  · cases hv
                · split at hv
                  · split at hv
                    · cases hv; simp [Sf.kv]
                    · split at hv
                      · cases hv; simp [Sf.kv]
                      · cases hv
                  · cases hv
        simp [tokQ, hk]
theorem byt_is (t : List UInt8) : bytQ t (Sf.value (58 :: (t ++ [58]))) = Oct.allB Sf.baseI t := by
  have hv : ∀ u, Sf.value (58 :: u) = if (Sf.dw Sf.baseI u).headD 0 = 58 then some (Sf.kv 5 0 (Sf.tw Sf.baseI u), (Sf.dw Sf.baseI u).drop 1) else none := fun _ => rfl
  rw [hv]
  cases ha : Oct.allB Sf.baseI t with
  | true =>
    obtain ⟨q1, q2⟩ := tw_at (r := []) (e := 58) ha rfl
    rw [q1, q2]
    simp [bytQ, Sf.kv]
  | false =>
    have hx : ∃ x ∈ t, (fun b : UInt8 => Sf.baseI b.toNat) x = false := by
      unfold Oct.allB at ha
      obtain ⟨x, hx, h⟩ := List.all_eq_false.1 ha
      exact ⟨x, hx, by simpa using h⟩
    have e1 : Sf.dw Sf.baseI (t ++ [58]) = Sf.dw Sf.baseI t ++ [58] := dw_app _ _ _ hx
    have hne : (Sf.dw Sf.baseI t).isEmpty = false := by rw [dw_empty]; exact ha
    rw [e1]
    cases hd : Sf.dw Sf.baseI t with
    | nil => rw [hd] at hne; cases hne
    | cons e r =>
      split
      · simp [bytQ]
      · rfl
set_option maxHeartbeats 2000000 in
set_option maxRecDepth 20000 in
theorem rval_tok (t : List UInt8) (w : World) (ht : t.length ≤ 10000) : Calls Tryz.prog 56 #[.int .i64 4, .int .i64 0, .string (bA t)] w (ValR w (Sf.vtext 4 0 t)) := by
  rw [vt_tok, ← rtok_is]
  have H := Lib.hid (rvalue_all t w (by omega))
  obtain ⟨o, ho⟩ : ∃ o, Sf.value t = o := ⟨_, rfl⟩
  rw [ho] at H ⊢
  clear ho
  obtain ⟨res, hres⟩ : ∃ res, (if tokQ o then some t else none) = res := ⟨_, rfl⟩
  rw [hres]
  have HR := Lib.hid hres
  clear hres
  go_enter Tryz.func56, Tryz.ntmps56
  go_wp2_with fail
  refine H.out.mono ?_
  rintro e w1 ⟨rfl, hb⟩
  clear H
  cases o with
  | none =>
    have HB := Lib.hid (below_al hb (.cells #[.string ⟨#[]⟩, .int .i64 0, .int .i64 0, .string ⟨#[]⟩] 53))
    have hr : res = none := HR.out.symm
    subst hr
    clear hb
    unfold rvalV zPar
    go_wp2_with fail
    obtain ⟨w5, hw5⟩ : ∃ w5, w1.alloc (.cells #[.string ⟨#[]⟩, .int .i64 0, .int .i64 0, .string ⟨#[]⟩] 53) = w5 := ⟨_, rfl⟩
    have HB5 : Hid (Below w.heap.size w w5) := by rw [Hid, ← hw5]; exact HB.out
    have HX5 : CBox w5 w1.heap.size 53 #[.string ⟨#[]⟩, .int .i64 0, .int .i64 0, .string ⟨#[]⟩] := by rw [← hw5]; exact CBox.new _ _ _
    rw [hw5]
    obtain ⟨c0, c1, c2, c3, _, _, _, _⟩ := HX5.all4
    clear hw5 HX5
    go_quiet (fail)
    go_wp2_with fail
    go_ret2
    exact ValR.none _ (below_drewQ HB5.out nq)
  | some x =>
    obtain ⟨p, r⟩ := x
    have HB := Lib.hid (below_al hb (.cells (pC p) 53))
    clear hb
    unfold rvalV parV pC
    cases r with
    | nil =>
      obtain ⟨b, hb⟩ : ∃ b, (p.kind == 4) = b := ⟨_, rfl⟩
      have hq : tokQ (some (p, [])) = b := by rw [← hb]; rfl
      have HQ := Lib.hid hq
      clear hq
      cases b with
      | true =>
        have hr : res = some t := by rw [← HR.out, HQ.out]; rfl
        subst hr
        go_wp2_with fail
        obtain ⟨w5, hw5⟩ : ∃ w5, w1.alloc (.cells #[.string (bA p.key), .int .i64 p.kind, .int .i64 p.n, .string (bA p.text)] 53) = w5 := ⟨_, rfl⟩
        have HB5 : Hid (Below w.heap.size w w5) := by rw [Hid, ← hw5]; exact HB.out
        have HX5 : CBox w5 w1.heap.size 53 #[.string (bA p.key), .int .i64 p.kind, .int .i64 p.n, .string (bA p.text)] := by rw [← hw5]; exact CBox.new _ _ _
        rw [hw5]
        obtain ⟨c0, c1, c2, c3, _, _, _, _⟩ := HX5.all4
        clear hw5 HX5
        go_quiet (fail)
        go_wp2_with fail
        go_ret2
        exact ValR.some _ (below_drewQ HB5.out nq)
      | false =>
        have hr : res = none := by rw [← HR.out, HQ.out]; rfl
        subst hr
        go_wp2_with fail
        obtain ⟨w5, hw5⟩ : ∃ w5, w1.alloc (.cells #[.string (bA p.key), .int .i64 p.kind, .int .i64 p.n, .string (bA p.text)] 53) = w5 := ⟨_, rfl⟩
        have HB5 : Hid (Below w.heap.size w w5) := by rw [Hid, ← hw5]; exact HB.out
        have HX5 : CBox w5 w1.heap.size 53 #[.string (bA p.key), .int .i64 p.kind, .int .i64 p.n, .string (bA p.text)] := by rw [← hw5]; exact CBox.new _ _ _
        rw [hw5]
        obtain ⟨c0, c1, c2, c3, _, _, _, _⟩ := HX5.all4
        clear hw5 HX5
        go_quiet (fail)
        go_wp2_with fail
        go_ret2
        exact ValR.none _ (below_drewQ HB5.out nq)
    | cons c r =>
      have hq : tokQ (some (p, c :: r)) = false := rfl
      have hr : res = none := by rw [← HR.out, hq]; rfl
      subst hr
      clear hq
      go_wp2_with fail
      obtain ⟨w5, hw5⟩ : ∃ w5, w1.alloc (.cells #[.string (bA p.key), .int .i64 p.kind, .int .i64 p.n, .string (bA p.text)] 53) = w5 := ⟨_, rfl⟩
      have HB5 : Hid (Below w.heap.size w w5) := by rw [Hid, ← hw5]; exact HB.out
      have HX5 : CBox w5 w1.heap.size 53 #[.string (bA p.key), .int .i64 p.kind, .int .i64 p.n, .string (bA p.text)] := by rw [← hw5]; exact CBox.new _ _ _
      rw [hw5]
      obtain ⟨c0, c1, c2, c3, _, _, _, _⟩ := HX5.all4
      clear hw5 HX5
      go_quiet (fail)
      go_wp2_with fail
      go_ret2
      exact ValR.none _ (below_drewQ HB5.out nq)
set_option maxHeartbeats 2000000 in
set_option maxRecDepth 20000 in
theorem rval_byt (t : List UInt8) (w : World) (ht : t.length ≤ 10000) : Calls Tryz.prog 56 #[.int .i64 5, .int .i64 0, .string (bA t)] w (ValR w (Sf.vtext 5 0 t)) := by
  rw [vt_byt, ← byt_is]
  have H := Lib.hid (rvalue_all (58 :: (t ++ [58])) w (by simp; omega))
  have hz1 : ∀ W : World, (Op.stringOp .add ⟨#[58]⟩ (bA t)).run Tryz.prog W = .ok (.string (bA (58 :: t))) W := fun W => by
    rw [run_string_add_sum W (bA [58]) (bA t) (by rw [bA_size, bA_size]; simp; omega), bA_app]; rfl
  have hz2 : ∀ W : World, (Op.stringOp .add (bA (58 :: t)) ⟨#[58]⟩).run Tryz.prog W = .ok (.string (bA (58 :: (t ++ [58])))) W := fun W => by
    rw [run_string_add_sum W (bA (58 :: t)) (bA [58]) (by rw [bA_size, bA_size]; simp; omega), bA_app]; rfl
  obtain ⟨o, ho⟩ : ∃ o, Sf.value (58 :: (t ++ [58])) = o := ⟨_, rfl⟩
  rw [ho] at H ⊢
  clear ho
  obtain ⟨res, hres⟩ : ∃ res, (if bytQ t o then some (58 :: (t ++ [58])) else none) = res := ⟨_, rfl⟩
  rw [hres]
  have HR := Lib.hid hres
  clear hres
  go_enter Tryz.func56, Tryz.ntmps56
  go_wp2_with fail
  refine H.out.mono ?_
  rintro e w1 ⟨rfl, hb⟩
  clear H
  cases o with
  | none =>
    have HB := Lib.hid (below_al hb (.cells #[.string ⟨#[]⟩, .int .i64 0, .int .i64 0, .string ⟨#[]⟩] 53))
    have hr : res = none := HR.out.symm
    subst hr
    clear hb
    unfold rvalV zPar
    go_wp2_with fail
    obtain ⟨w5, hw5⟩ : ∃ w5, w1.alloc (.cells #[.string ⟨#[]⟩, .int .i64 0, .int .i64 0, .string ⟨#[]⟩] 53) = w5 := ⟨_, rfl⟩
    have HB5 : Hid (Below w.heap.size w w5) := by rw [Hid, ← hw5]; exact HB.out
    have HX5 : CBox w5 w1.heap.size 53 #[.string ⟨#[]⟩, .int .i64 0, .int .i64 0, .string ⟨#[]⟩] := by rw [← hw5]; exact CBox.new _ _ _
    rw [hw5]
    obtain ⟨c0, c1, c2, c3, _, _, _, _⟩ := HX5.all4
    clear hw5 HX5
    go_quiet (fail)
    go_wp2_with fail
    go_ret2
    exact ValR.none _ (below_drewQ HB5.out nq)
  | some x =>
    obtain ⟨p, r⟩ := x
    have HB := Lib.hid (below_al hb (.cells (pC p) 53))
    clear hb
    unfold rvalV parV pC
    cases r with
    | nil =>
      obtain ⟨b, hb⟩ : ∃ b, (p.kind == 5) = b := ⟨_, rfl⟩
      obtain ⟨c, hc⟩ : ∃ c, (p.text == t) = c := ⟨_, rfl⟩
      have hq : bytQ t (some (p, [])) = (b && c) := by rw [← hb, ← hc]; rfl
      have HQ := Lib.hid hq
      clear hq
      cases b with
      | true =>
        cases c with
        | true =>
          have hr : res = some (58 :: (t ++ [58])) := by rw [← HR.out, HQ.out]; rfl
          subst hr
          go_wp2_with fail
          obtain ⟨w5, hw5⟩ : ∃ w5, w1.alloc (.cells #[.string (bA p.key), .int .i64 p.kind, .int .i64 p.n, .string (bA p.text)] 53) = w5 := ⟨_, rfl⟩
          have HB5 : Hid (Below w.heap.size w w5) := by rw [Hid, ← hw5]; exact HB.out
          have HX5 : CBox w5 w1.heap.size 53 #[.string (bA p.key), .int .i64 p.kind, .int .i64 p.n, .string (bA p.text)] := by rw [← hw5]; exact CBox.new _ _ _
          rw [hw5]
          obtain ⟨c0, c1, c2, c3, _, _, _, _⟩ := HX5.all4
          clear hw5 HX5
          go_quiet (fail)
          go_wp2_with fail
          go_ret2
          exact ValR.some _ (below_drewQ HB5.out nq)
        | false =>
          have hr : res = none := by rw [← HR.out, HQ.out]; rfl
          subst hr
          go_wp2_with fail
          obtain ⟨w5, hw5⟩ : ∃ w5, w1.alloc (.cells #[.string (bA p.key), .int .i64 p.kind, .int .i64 p.n, .string (bA p.text)] 53) = w5 := ⟨_, rfl⟩
          have HB5 : Hid (Below w.heap.size w w5) := by rw [Hid, ← hw5]; exact HB.out
          have HX5 : CBox w5 w1.heap.size 53 #[.string (bA p.key), .int .i64 p.kind, .int .i64 p.n, .string (bA p.text)] := by rw [← hw5]; exact CBox.new _ _ _
          rw [hw5]
          obtain ⟨c0, c1, c2, c3, _, _, _, _⟩ := HX5.all4
          clear hw5 HX5
          go_quiet (fail)
          go_wp2_with fail
          go_ret2
          exact ValR.none _ (below_drewQ HB5.out nq)
      | false =>
        have hr : res = none := by rw [← HR.out, HQ.out]; rfl
        subst hr
        go_wp2_with fail
        obtain ⟨w5, hw5⟩ : ∃ w5, w1.alloc (.cells #[.string (bA p.key), .int .i64 p.kind, .int .i64 p.n, .string (bA p.text)] 53) = w5 := ⟨_, rfl⟩
        have HB5 : Hid (Below w.heap.size w w5) := by rw [Hid, ← hw5]; exact HB.out
        have HX5 : CBox w5 w1.heap.size 53 #[.string (bA p.key), .int .i64 p.kind, .int .i64 p.n, .string (bA p.text)] := by rw [← hw5]; exact CBox.new _ _ _
        rw [hw5]
        obtain ⟨c0, c1, c2, c3, _, _, _, _⟩ := HX5.all4
        clear hw5 HX5
        go_quiet (fail)
        go_wp2_with fail
        go_ret2
        exact ValR.none _ (below_drewQ HB5.out nq)
    | cons c r =>
      have hq : bytQ t (some (p, c :: r)) = false := rfl
      have hr : res = none := by rw [← HR.out, hq]; rfl
      subst hr
      clear hq
      go_wp2_with fail
      obtain ⟨w5, hw5⟩ : ∃ w5, w1.alloc (.cells #[.string (bA p.key), .int .i64 p.kind, .int .i64 p.n, .string (bA p.text)] 53) = w5 := ⟨_, rfl⟩
      have HB5 : Hid (Below w.heap.size w w5) := by rw [Hid, ← hw5]; exact HB.out
      have HX5 : CBox w5 w1.heap.size 53 #[.string (bA p.key), .int .i64 p.kind, .int .i64 p.n, .string (bA p.text)] := by rw [← hw5]; exact CBox.new _ _ _
      rw [hw5]
      obtain ⟨c0, c1, c2, c3, _, _, _, _⟩ := HX5.all4
      clear hw5 HX5
      go_quiet (fail)
      go_wp2_with fail
      go_ret2
      exact ValR.none _ (below_drewQ HB5.out nq)
/-- The document's Value. -/
theorem rval_any (k n : Int) (t : List UInt8) (w : World) (ht : t.length ≤ 10000) (hT : Tab w) : Calls Tryz.prog 56 #[.int .i64 k, .int .i64 n, .string (bA t)] w (ValR w (Sf.vtext k n t)) := by
  by_cases h0 : n < -999999999999999 ∨ 999999999999999 < n
  · exact rval_big k n t w h0
  have h1 : -999999999999999 ≤ n := by omega
  have h2 : n ≤ 999999999999999 := by omega
  by_cases k1 : k = 1
  · subst k1; exact rval_int n t w h1 h2 hT
  by_cases k2 : k = 2
  · subst k2; exact rval_dec n t w h1 h2 hT
  by_cases k6 : k = 6
  · subst k6; exact rval_bool n t w h1 h2 hT
  have hk : Sf.numK k = false := by simp [Sf.numK, k1, k2, k6]
  by_cases hn : n = 0
  · subst hn
    by_cases k3 : k = 3
    · subst k3; exact rval_text t w ht
    by_cases k4 : k = 4
    · subst k4; exact rval_tok t w ht
    by_cases k5 : k = 5
    · subst k5; exact rval_byt t w ht
    exact rval_other k 0 t w hk (.inr ⟨k3, k4, k5⟩)
  · exact rval_other k n t w hk (.inl hn)
end Go.Proofs.YtogjekjklknfeaaGreatDoor

/- The contract of the document's Tail. -/
namespace Go.Proofs.YtogjekjklknfeaaGreatDoor
open Go.RowKit Go.Shelf Go.Maps Go.Deep

structure LInv (w : World) (l : List Sf.Par) (j : Nat) (wr : World) (t : List UInt8) : Prop where
  jl : j ≤ l.length
  below : Below w.heap.size w wr
  len : t.length ≤ j * 60000
  eq : Sf.tailF [] l = (Sf.tailF (Sf.keys (l.take j)) (l.drop j)).map fun x => t ++ x
theorem key_full {k : List UInt8} (h : Sf.keyB k = true) : Sf.keyOf k = some (k, []) := by
  have := Sf.keyOf_back (r := []) h (.inl rfl)
  simpa using this
theorem below_q {w w' : World} {n : Nat} (h : Below n w w') (q : Nat) : Below n w (w'.drewN q) := ⟨h.os, h.tape, h.output, h.size, h.block⟩
theorem mem_keys {l : List Sf.Par} {j m : Nat} {k : List UInt8} (hm : m < j) (hj : j ≤ l.length) (hk : (l[m]'(by omega)).key = k) : k ∈ Sf.keys (l.take j) := by
  unfold Sf.keys
  rw [← hk]
  refine List.mem_map_of_mem ?_
  rw [List.mem_take_iff_getElem]
  exact ⟨m, by omega, rfl⟩
theorem not_keys {l : List Sf.Par} {j : Nat} {k : List UInt8} (hj : j ≤ l.length) (h : ∀ m (hm : m < l.length), m < j → l[m].key ≠ k) : k ∉ Sf.keys (l.take j) := by
  intro hk
  unfold Sf.keys at hk
  obtain ⟨p, hp, rfl⟩ := List.mem_map.1 hk
  obtain ⟨m, hm, rfl⟩ := List.mem_take_iff_getElem.1 hp
  exact h m (by omega) (by omega) rfl

/-- What stands while a parameter's value is told. -/
structure RdyV (wr : World) (g of : Nat) (p : Sf.Par) (W : World) : Prop where
  lt : g < wr.heap.size
  b : Below wr.heap.size wr W
  c1 : W.cell? ⟨g, of + 1, none⟩ = some (.int .i64 p.kind)
  c2 : W.cell? ⟨g, of + 2, none⟩ = some (.int .i64 p.n)
  c3 : W.cell? ⟨g, of + 3, none⟩ = some (.string (bA p.text))
theorem RdyV.all {wr W : World} {g of : Nat} {p : Sf.Par} (h : RdyV wr g of p W) : W.cell? ⟨g, of + 1, none⟩ = some (.int .i64 p.kind) ∧ W.cell? ⟨g, of + 2, none⟩ = some (.int .i64 p.n) ∧ W.cell? ⟨g, of + 3, none⟩ = some (.string (bA p.text)) ∧ RdyV wr g of p W := ⟨h.c1, h.c2, h.c3, h⟩
theorem RdyV.drew {wr W : World} {g of : Nat} {p : Sf.Par} (h : RdyV wr g of p W) : RdyV wr g of p W.drew := ⟨h.lt, h.b.drew, h.c1, h.c2, h.c3⟩
theorem RdyV.on {wr W W' : World} {g of : Nat} {p : Sf.Par} (h : RdyV wr g of p W) (hb : Below W.heap.size W W') : RdyV wr g of p W' := by
  have hl := Nat.lt_of_lt_of_le h.lt h.b.size
  exact ⟨h.lt, onto h.b hb, (hb.cell hl).trans h.c1, (hb.cell hl).trans h.c2, (hb.cell hl).trans h.c3⟩
theorem cat_val (t k v : List UInt8) : bA (t ++ 59 :: k) ++ ⟨#[61]⟩ ++ bA v = bA (t ++ 59 :: (k ++ 61 :: v)) := by
  show bA (t ++ 59 :: k) ++ bA [61] ++ bA v = _
  rw [bA_app (t ++ 59 :: k) [61], bA_app _ v]
  congr 1; simp
theorem keyV_form (o : Option (List UInt8 × List UInt8)) : ∃ (K R : List UInt8) (E : Int), keyV o = .tuple #[.string (bA K), .string (bA R), .int .i64 E] ∧ ((o = none ∧ E = 50) ∨ (o = some (K, R) ∧ E = 0)) := by
  cases o with
  | none => exact ⟨[], [], 50, rfl, .inl ⟨rfl, rfl⟩⟩
  | some x => exact ⟨x.1, x.2, 0, rfl, .inr ⟨rfl, rfl⟩⟩
theorem pt_key {p : Sf.Par} (h : Sf.keyB p.key = false) : Sf.ptext p = none := by unfold Sf.ptext; rw [h]; rfl
theorem pt_val {p : Sf.Par} (h : Sf.vtext p.kind p.n p.text = none) : Sf.ptext p = none := by
  unfold Sf.ptext; rw [h]; split <;> rfl
theorem pt_some {p : Sf.Par} {v : List UInt8} (hk : Sf.keyB p.key = true) (h : Sf.vtext p.kind p.n p.text = some v) : Sf.ptext p = some (59 :: (p.key ++ (if p.kind = 6 ∧ p.n = 1 then [] else 61 :: v))) := by
  unfold Sf.ptext; rw [hk, h]; rfl
theorem tail_none {l : List Sf.Par} {j : Nat} (hj : j < l.length) {p : Sf.Par} (hp : l[j] = p) (seen : List (List UInt8)) (h : Sf.ptext p = none) : Sf.tailF seen (l.drop j) = none := by
  rw [tail_step hj, hp, h]; split <;> rfl
set_option maxHeartbeats 4000000 in
set_option maxRecDepth 100000 in
theorem rtail_any (A : Option Addr) (cp : Nat) (l : List Sf.Par) (w : World) (hA : SeenP w A l) (hS : SmallL l) (hT : Tab w) :
    Calls Tryz.prog 35 #[.slice A l.length cp] w fun e w' => e = .returned (textV (Sf.tailF [] l)) ∧ Below w.heap.size w w' := by
  have hst : LInv w l 0 w [] := ⟨Nat.zero_le _, Below.refl _ _, by simp, by simp [Sf.keys]⟩
  have HS := Lib.hid hst
  have hlen := hS.len
  have HE := Lib.hid hS.each
  have HA := Lib.hid hA; have HT := Lib.hid hT
  obtain ⟨o, ho⟩ : ∃ o, Sf.tailF [] l = o := ⟨_, rfl⟩
  rw [ho]
  have HO := Lib.hid ho
  clear hst hS hA hT ho
  go_enter Tryz.func35, Tryz.ntmps35
  go_wp2_with fail
  go_loopg [4, 5] l.length (fun k v i wr => ∃ j t, l.length - j = k ∧ i = .int .i64 ((j : Nat) : Int) ∧ v = .string (bA t) ∧ LInv w l j wr t)
  case atStart => exact ⟨0, [], rfl, rfl, rfl, HS.out⟩
  case round =>
    obtain ⟨j, t, hk, rfl, rfl, hI⟩ := hrel
    have HI := Lib.hid hI
    have hjl := hI.jl
    have htl := hI.len
    clear hI HS
    by_cases hj : j < l.length
    · obtain ⟨g, of, rfl, hab, hcell⟩ := HA.out.below HI.out.below (by omega)
      obtain ⟨c0, c1, c2, c3⟩ := hcell j hj
      obtain ⟨p, hp⟩ : ∃ p, l[j] = p := ⟨_, rfl⟩
      rw [hp] at c0 c1 c2 c3
      have hsp : SmallP p := by rw [← hp]; exact HE.out _ (List.getElem_mem hj)
      have HP := Lib.hid hp
      have HSP := Lib.hid hsp
      have hkl := hsp.key
      have HC := Lib.hid hcell
      clear hp hcell hsp
      have H1 := Lib.hid (rkey_any p.key wr (by omega))
      go_wp2_with fail
      refine H1.out.mono ?_
      rintro e w1 ⟨rfl, q, hq⟩
      have HB1 : Hid (Below wr.heap.size wr w1) := by rw [Hid, hq]; exact below_drew wr q
      have hz1 : w1.heap.size = wr.heap.size := by rw [hq]; rfl
      obtain ⟨K, R, E, hkv, hkc⟩ := keyV_form (Sf.keyOf p.key)
      rw [hkv]
      have HKC := Lib.hid hkc
      have hr1 : RdyV wr g (of + j * 4) p w1 := ⟨hab, HB1.out, (HB1.out.cell hab).trans c1, (HB1.out.cell hab).trans c2, (HB1.out.cell hab).trans c3⟩
      have H2 := Lib.hid (fun W (h : RdyV wr g (of + j * 4) p W) => rval_any p.kind p.n p.text W HSP.out.text (HT.out.below (onto HI.out.below h.b)))
      clear hkv hkc hq H1 c0 c1 c2 c3 hz1
      obtain ⟨c1, c2, c3, _⟩ := hr1.all
      go_wp2_with fail
      go_region_held3 (fun w' => w'.cell? ⟨g, of + j * 4 + 1, none⟩ = some (.int .i64 p.kind) ∧ w'.cell? ⟨g, of + j * 4 + 2, none⟩ = some (.int .i64 p.n) ∧ w'.cell? ⟨g, of + j * 4 + 3, none⟩ = some (.string (bA p.text)) ∧ RdyV wr g (of + j * 4) p w')
        (first
          | exact hr1.all
          | exact hr1.drew.all
          | exact hr3.all)
        (first
          | (go_at_call 56; refine (H2.out _ hr1.drew).mono ?_; rintro e w3 ⟨⟨x, rfl, hx⟩, hb3⟩; have hr3 := hr1.drew.on hb3))
      rename_i hHeld
      have HB3 := Lib.hid hr3.b
      have HX := Lib.hid hx
      have HR3 := Lib.hid hr3
      have HC3 : Hid (∀ i (h : i < l.length), w3.cell? ⟨g, of + i * 4, none⟩ = some (.string (bA l[i].key))) := Lib.hid (fun i h => (HB3.out.cell hab).trans (HC.out i h).1)
      clear hx hb3 c1 c2 c3 HC H2 HB1 hHeld hr1 hr3
      have HTN := Lib.hid (fun h => tail_none hj HP.out (Sf.keys (l.take j)) h)
      have HON : Hid (Sf.ptext p = none → o = none) := Lib.hid (fun h => by rw [← HO.out, HI.out.eq, HTN.out h]; rfl)
      rcases HKC.out with ⟨hko, hE⟩ | ⟨hko, hE⟩
      · have hn : o = none := HON.out (pt_key (by cases hkb : Sf.keyB p.key; rfl; rw [key_full hkb] at hko; cases hko))
        subst hn
        subst hE
        clear hko HKC HON HTN
        go_wp2_with fail
        go_ret2
        exact ⟨rfl, onto HI.out.below HB3.out⟩
      · subst hE
        obtain ⟨e1, e2, _⟩ := Sf.keyOf_ways hko
        cases R with
        | cons c R =>
          have hn : o = none := HON.out (pt_key (by cases hkb : Sf.keyB p.key; rfl; rw [key_full hkb] at hko; cases hko))
          subst hn
          clear hko HKC HON HTN e1 e2
          go_wp2_with fail
          go_ret2
          exact ⟨rfl, onto HI.out.below HB3.out⟩
        | nil =>
          rw [List.append_nil] at e1
          subst e1
          cases hv : Sf.vtext p.kind p.n p.text with
          | none =>
            have hn : o = none := HON.out (pt_val hv)
            subst hn
            clear hko HKC HON HTN e2 hv
            rw [Option.isSome_none]
            go_wp2_with fail
            go_ret2
            exact ⟨rfl, onto HI.out.below HB3.out⟩
          | some v =>
            have hxv := HX.out v hv
            subst hxv
            have HPT := Lib.hid (pt_some e2 hv)
            have hvl := vtext_len hv HSP.out.text
            rw [Option.isSome_some]
            clear hko HKC HON HTN e2 hv HX
            go_wp2_with fail
            go_loop [11] (fun kk => ∃ m : Nat, m ≤ j ∧ kk = .int .i64 m ∧ Hid (∀ i (hi : i < l.length), i < m → l[i].key ≠ p.key)) (fun kk => j - (intOf kk).toNat)
            case atStart => exact ⟨0, Nat.zero_le _, rfl, fun i hi h => absurd h (by omega)⟩
            case round =>
              obtain ⟨m, hm, rfl, hin⟩ := hrel
              by_cases hmj : m < j
              · have hml : m < l.length := by omega
                have d0 := HC3.out m hml
                obtain ⟨y, hy⟩ : ∃ y, l[m] = y := ⟨_, rfl⟩
                rw [hy] at d0
                have HY := Lib.hid hy
                clear hy
                cases hb : (y.key == p.key) with
                | true =>
                  have hmem : p.key ∈ Sf.keys (l.take j) := mem_keys hmj hjl (by rw [HY.out]; exact beq_iff_eq.1 hb)
                  have hn : o = none := by rw [← HO.out, HI.out.eq, tail_step hj, HP.out, if_pos hmem]; rfl
                  subst hn
                  clear hmem
                  go_wp2_with fail
                  go_ret2
                  exact ⟨rfl, onto HI.out.below HB3.out⟩
                | false =>
                  have hne : y.key ≠ p.key := by simpa using hb
                  have HN : Hid (∀ i (hi : i < l.length), i < m + 1 → l[i].key ≠ p.key) := Lib.hid (fun i hi h => by
                    by_cases hi' : i < m
                    · exact hin.out i hi hi'
                    · have : i = m := by omega
                      subst this
                      rw [HY.out]; exact hne)
                  clear hne hin
                  go_wp2_with fail
                  go_round
                  case rel => exact ⟨m + 1, by omega, by go_num, HN⟩
                  case measure => simp [intOf]; omega
              · have hmm : m = j := by omega
                subst hmm
                have hmem : p.key ∉ Sf.keys (l.take m) := not_keys hjl hin.out
                have HST := Lib.hid (tail_step hj (Sf.keys (l.take m)))
                have HKT := Lib.hid (keys_take hj)
                rw [HP.out] at HST HKT
                obtain ⟨c1, c2, c3, _⟩ := HR3.out.all
                obtain ⟨K, hK⟩ : ∃ K, p.key = K := ⟨_, rfl⟩
                have hkl2 : K.length ≤ 10000 := by rw [← hK]; exact hkl
                have z1 : ∀ W : World, (Op.stringOp .add (bA t) ⟨#[59]⟩).run Tryz.prog W = .ok (.string (bA (t ++ [59]))) W := fun W => by
                  rw [run_string_add_sum W (bA t) (bA [59]) (by simp only [bA_size, List.length_cons, List.length_nil]; omega), bA_app]
                have z2 : ∀ W : World, (Op.stringOp .add (bA (t ++ [59])) (bA p.key)).run Tryz.prog W = .ok (.string (bA (t ++ [59] ++ p.key))) W := fun W => by
                  rw [run_string_add_sum W _ (bA p.key) (by simp only [bA_size, List.length_append, List.length_cons, List.length_nil]; omega), bA_app]
                have z3 : ∀ W : World, (Op.stringOp .add (bA (t ++ [59] ++ p.key)) ⟨#[61]⟩).run Tryz.prog W = .ok (.string (bA (t ++ [59] ++ p.key ++ [61]))) W := fun W => by
                  rw [run_string_add_sum W _ (bA [61]) (by simp only [bA_size, List.length_append, List.length_cons, List.length_nil]; omega), bA_app]
                have z4 : ∀ W : World, (Op.stringOp .add (bA (t ++ [59] ++ p.key ++ [61])) (bA v)).run Tryz.prog W = .ok (.string (bA (t ++ [59] ++ p.key ++ [61] ++ v))) W := fun W => by
                  rw [run_string_add_sum W _ (bA v) (by simp only [bA_size, List.length_append, List.length_cons, List.length_nil]; omega), bA_app]
                clear hin hK hkl2
                by_cases k6 : p.kind = 6
                · by_cases n1 : p.n = 1
                  · have q1 : (p.kind != 6) = false := by simp [k6]
                    have q2 : (p.n != 1) = false := by simp [n1]
                    have HTX : Hid (Sf.ptext p = some (59 :: p.key)) := by rw [Hid, HPT.out]; rw [if_pos ⟨k6, n1⟩, List.append_nil]
                    have HL := Lib.hid (ptext_len HTX.out HSP.out)
                    have HN : Hid (LInv w l (m + 1) w3 (t ++ (59 :: p.key))) := Lib.hid ⟨by omega, onto HI.out.below HB3.out, by rw [List.length_append]; have := HL.out; omega, by rw [HI.out.eq, HST.out, if_neg hmem, HTX.out, HKT.out]; simp only [Option.map_map]; congr 1; funext x; simp⟩
                    clear hmem HPT HTX HL HST HKT HO
                    go_wp2_with fail
                    go_roundg (l.length - (m + 1))
                    case measure => omega
                    case rel => exact ⟨m + 1, t ++ (59 :: p.key), rfl, by go_num, by simp, HN.out⟩
                  · have q1 : (p.kind != 6) = false := by simp [k6]
                    have q2 : (p.n != 1) = true := by simpa using n1
                    have HTX : Hid (Sf.ptext p = some (59 :: (p.key ++ 61 :: v))) := by rw [Hid, HPT.out]; rw [if_neg (fun h => n1 h.2)]
                    have HL := Lib.hid (ptext_len HTX.out HSP.out)
                    have HN : Hid (LInv w l (m + 1) w3 (t ++ (59 :: (p.key ++ 61 :: v)))) := Lib.hid ⟨by omega, onto HI.out.below HB3.out, by rw [List.length_append]; have := HL.out; omega, by rw [HI.out.eq, HST.out, if_neg hmem, HTX.out, HKT.out]; simp only [Option.map_map]; congr 1; funext x; simp⟩
                    clear hmem HPT HTX HL HST HKT HO
                    go_wp2_with fail
                    go_roundg (l.length - (m + 1))
                    case measure => omega
                    case rel => exact ⟨m + 1, t ++ (59 :: (p.key ++ 61 :: v)), rfl, by go_num, by simp; exact cat_val _ _ _, HN.out⟩
                · have q1 : (p.kind != 6) = true := by simpa using k6
                  have HTX : Hid (Sf.ptext p = some (59 :: (p.key ++ 61 :: v))) := by rw [Hid, HPT.out]; rw [if_neg (fun h => k6 h.1)]
                  have HL := Lib.hid (ptext_len HTX.out HSP.out)
                  have HN : Hid (LInv w l (m + 1) w3 (t ++ (59 :: (p.key ++ 61 :: v)))) := Lib.hid ⟨by omega, onto HI.out.below HB3.out, by rw [List.length_append]; have := HL.out; omega, by rw [HI.out.eq, HST.out, if_neg hmem, HTX.out, HKT.out]; simp only [Option.map_map]; congr 1; funext x; simp⟩
                  clear hmem HPT HTX HL HST HKT HO
                  go_wp2_with fail
                  go_roundg (l.length - (m + 1))
                  case measure => omega
                  case rel => exact ⟨m + 1, t ++ (59 :: (p.key ++ 61 :: v)), rfl, by go_num, by simp; exact cat_val _ _ _, HN.out⟩
    · have hjj : j = l.length := by omega
      subst hjj
      have hn : o = some t := by
        rw [← HO.out, HI.out.eq, List.drop_length, Sf.tailF]; simp
      subst hn
      go_wp2_with fail
      go_ret2
      exact ⟨rfl, HI.out.below⟩
end Go.Proofs.YtogjekjklknfeaaGreatDoor

/- The contract of the document's Text. -/
namespace Go.Proofs.YtogjekjklknfeaaGreatDoor
open Go.RowKit Go.Shelf Go.Maps Go.Deep

set_option maxHeartbeats 1000000 in
set_option maxRecDepth 20000 in
theorem rtext_any (k n : Int) (t : List UInt8) (A : Option Addr) (cp : Nat) (l : List Sf.Par) (w : World) (hS : SmallI k n t l) (hA : SeenP w A l) (hT : Tab w) :
    Calls Tryz.prog 53 #[.agg #[.int .i64 k, .int .i64 n, .string (bA t), .slice A l.length cp]] w fun e w' => e = .returned (textV (Sf.text ⟨k, n, t, l⟩)) ∧ Below w.heap.size w w' := by
  have hb0 : Below w.heap.size w (w.alloc (.cells (iC k n t (.slice A l.length cp)) 35)) := (Below.refl _ _).alloc (Nat.le_refl _) _
  have H1 := Lib.hid (rval_any k n t _ hS.text (hT.below hb0))
  have HBX := Lib.hid (CBox.new w 35 (iC k n t (.slice A l.length cp)))
  have HB0 := Lib.hid hb0
  have HS := Lib.hid hS; have HA := Lib.hid hA; have HT := Lib.hid hT
  have HX : Hid (Sf.text ⟨k, n, t, l⟩ = match Sf.vtext k n t with | none => none | some a => (Sf.tailF [] l).map fun b => a ++ b) := Lib.hid rfl
  obtain ⟨o, ho⟩ : ∃ o, Sf.text ⟨k, n, t, l⟩ = o := ⟨_, rfl⟩
  rw [ho] at HX ⊢
  have hll := hS.params.len
  clear ho hb0 hS hA hT
  go_enter Tryz.func53, Tryz.ntmps53
  go_wp2_with fail
  refine H1.out.mono ?_
  rintro e w1 ⟨⟨x, rfl, hx⟩, hb1⟩
  have hB1 := HB0.out.trans (hb1.mono HB0.out.size)
  have hx1 := HBX.out.keep hb1
  have c3 : w1.cell? ⟨w.heap.size, 3, none⟩ = some (.slice A l.length cp) := hx1.c 3
  have H2 := Lib.hid (rtail_any A cp l w1 (HA.out.below hB1) HS.out.params (HT.out.below hB1))
  have HB1 := Lib.hid hB1
  clear hB1 hx1 hb1 H1 HBX HB0
  obtain ⟨ov, hov⟩ : ∃ ov, Sf.vtext k n t = ov := ⟨_, rfl⟩
  obtain ⟨ot, hot⟩ : ∃ ot, Sf.tailF [] l = ot := ⟨_, rfl⟩
  have HOV := Lib.hid hov
  have HOT := Lib.hid hot
  rw [hov, hot] at HX
  rw [hot] at H2
  rw [hov] at hx ⊢
  have HXV := Lib.hid hx
  clear hov hot hx
  go_wp2_with fail
  refine H2.out.mono ?_
  rintro e w2 ⟨rfl, hb2⟩
  have HB2 := Lib.hid (HB1.out.trans (hb2.mono HB1.out.size))
  clear hb2 H2 c3
  unfold textV
  cases ov with
  | none =>
    have hn : o = none := HX.out
    subst hn
    rw [Option.isSome_none]
    cases ot with
    | none =>
      go_wp2_with fail
      go_ret2
      exact ⟨rfl, HB2.out⟩
    | some b =>
      go_wp2_with fail
      go_ret2
      exact ⟨rfl, HB2.out⟩
  | some a =>
    have hxa := HXV.out a rfl
    subst hxa
    rw [Option.isSome_some]
    cases ot with
    | none =>
      have hn : o = none := HX.out
      subst hn
      go_wp2_with fail
      go_ret2
      exact ⟨rfl, HB2.out⟩
    | some b =>
      have hn : o = some (a ++ b) := HX.out
      subst hn
      have hal := vtext_len HOV.out HS.out.text
      have hbl := tail_len HOT.out HS.out.params.each
      have hb2 : b.length ≤ 10000 * 60000 := Nat.le_trans hbl (Nat.mul_le_mul hll (Nat.le_refl _))
      clear hbl
      go_wp2_with fail
      go_ret2
      refine ⟨?_, HB2.out⟩
      show Ending.returned (.tuple #[.string (bA a ++ bA b), .int .i64 0]) = _
      rw [bA_app]; rfl
end Go.Proofs.YtogjekjklknfeaaGreatDoor
