/- The walk of the statement on keys (SfieldKeys). -/
import Derived.Test.YtogjekjklknfeaaGreatDoorSdLaws1
namespace Go.Proofs.YtogjekjklknfeaaGreatDoor
open Go.RowKit Go.Shelf Go.Maps Go.Deep

theorem idx_of (n : Int) (L : Nat) (hL : 0 < L) (hn : 0 ≤ n) : ∃ i : Nat, i < L ∧ n.tmod (L : Int) = (i : Int) := by
  refine ⟨n.toNat % L, Nat.mod_lt _ hL, ?_⟩
  rw [Int.tmod_eq_emod_of_nonneg hn]
  obtain ⟨k, rfl⟩ := Int.eq_ofNat_of_zero_le hn
  simp
theorem keys_ne {l : List Sf.Mem} (hn : (Sf.keysM l).Nodup) {i k : Nat} (hi : i < l.length) (hk : k < i) : (l[i].key == (l[k]'(by omega)).key) = false := by
  rw [beq_eq_false_iff_ne]
  intro e
  have h := nodup_inj hn (i := i) (j := k) (by simpa [Sf.keysM] using hi) (by simp [Sf.keysM]; omega) (by simpa [Sf.keysM] using e)
  omega
set_option maxHeartbeats 8000000 in
set_option maxRecDepth 100000 in
theorem walk_SfieldKeys (s : ByteArray) (n : Int) (w : World) (hs : s.size ≤ maxLen) (hn : (Lit.int .i64 n).wf = true) (hT : Tab w) (hM : TabM w) :
    Calls Tryz.prog 7 #[.string s, .int .i64 n] w fun e w' => e = .returned (.bool true) ∧ Below w.heap.size w w' := by
  obtain ⟨S, rfl⟩ : ∃ S, s = bA S := ⟨s.data.toList, rfl⟩
  rw [bA_size] at hs
  obtain ⟨hn0, hn1⟩ := bounds_i64 hn
  have H0 := Lib.hid (awake_sf w hT hM)
  have hs' := hs
  unfold maxLen at hs
  clear hT hM hn
  by_cases hl : S.length ≤ 1000
  · have hl' : (S.length : Int) ≤ 1000 := by omega
    cases ho : Sf.readL true S with
    | none =>
      have HA := Lib.hid (fun W => dict_none ho hs' W)
      clear ho hs'
      go_enter Tryz.func7, Tryz.ntmps7
      go_wp2_with fail
      refine H0.out.mono ?_
      rintro e w1 ⟨rfl, hb1⟩
      have HB1 := Lib.hid hb1
      clear hb1 H0
      go_wp2_with fail
      refine (HA.out _).mono ?_
      rintro e w2 ⟨rfl, hb2⟩
      have HB2 := Lib.hid (onto HB1.out hb2)
      clear hb2 HA HB1
      go_wp2_with fail
      go_loop [8] (fun i => i = .int .i64 0) (fun _ => 0)
      case atStart => rfl
      case round =>
        subst hrel
        go_wp2_with fail
        go_ret
        exact ⟨rfl, HB2.out⟩
    | some l =>
      have HA := Lib.hid (fun W => dict_some ho hs' W)
      have hlen := read_len ho
      obtain ⟨hnd, hkb⟩ := Sf.read_nodup ho
      have HND := Lib.hid hnd
      have HO := Lib.hid ho
      have HKL := Lib.hid (read_keylen ho)
      clear ho hs' hnd hkb
      go_enter Tryz.func7, Tryz.ntmps7
      go_wp2_with fail
      refine H0.out.mono ?_
      rintro e w1 ⟨rfl, hb1⟩
      have HB1 := Lib.hid hb1
      clear hb1 H0
      go_wp2_with fail
      refine (HA.out _).mono ?_
      rintro e w2 ⟨A1, k1, rfl, hb2, hv1⟩
      have HB2 := Lib.hid (onto HB1.out hb2); have HV1 := Lib.hid hv1
      clear hb2 hv1 HA HB1
      go_wp2_with fail
      go_loopg [8] l.length (fun k i wr => ∃ j : Nat, l.length - j = k ∧ j ≤ l.length ∧ i = .int .i64 j ∧ Below w2.heap.size w2 wr)
      case atStart => exact ⟨0, rfl, Nat.zero_le _, rfl, Below.refl _ _⟩
      case round =>
        obtain ⟨j, hk, hj, rfl, hb⟩ := hrel
        have HW := Lib.hid hb
        clear hb
        by_cases hjl : j < l.length
        · go_wp2_with fail
          go_loopg [9] j (fun k i wq => ∃ m : Nat, j - m = k ∧ m ≤ j ∧ i = .int .i64 m ∧ Below w2.heap.size w2 wq)
          case atStart => exact ⟨0, rfl, Nat.zero_le _, rfl, HW.out⟩
          case round =>
            obtain ⟨m, hm, hmj, rfl, hb⟩ := hrel
            have HQ := Lib.hid hb
            clear hb
            by_cases hml : m < j
            · obtain ⟨g, of, rfl, hg, hc⟩ := HV1.out.seen.below HQ.out (by omega)
              obtain ⟨_, _, _, _, a0, _⟩ := hc j hjl
              obtain ⟨_, _, _, _, b0, _⟩ := hc m (by omega)
              have hne := keys_ne HND.out hjl hml
              obtain ⟨x, hx⟩ : ∃ x, l[j] = x := ⟨_, rfl⟩
              obtain ⟨y, hy⟩ : ∃ y, l[m]'(by omega) = y := ⟨_, rfl⟩
              rw [hx] at a0 hne
              rw [hy] at b0 hne
              clear hx hy hc
              go_wp2_with fail
              go_quiet (fail)
              go_wp2_with fail
              go_roundg (j - (m + 1))
              case measure => omega
              case rel => exact ⟨m + 1, rfl, by omega, by go_num, onto HQ.out (below_drew _ _)⟩
            · go_wp2_with fail
              go_roundg (l.length - (j + 1))
              case measure => omega
              case rel => exact ⟨j + 1, rfl, by omega, by go_num, HQ.out⟩
        · have hjj : j = l.length := by omega
          subst hjj
          have hv1 := HV1.out.below HW.out
          have HVr := Lib.hid hv1
          have HBr := Lib.hid (onto HB2.out HW.out)
          clear hv1 HV1 HB2
          obtain ⟨L, hL⟩ : ∃ L, l.length = L := ⟨_, rfl⟩
          rw [hL] at hlen
          have HL := Lib.hid hL
          rw [hL]
          clear hL
          rcases L with _ | L
          · go_wp2_with fail
            go_ret
            exact ⟨rfl, HBr.out⟩
          · by_cases hneg : n < 0
            · obtain ⟨i, hi, hii0⟩ := idx_of (-(n + 1)) (L + 1) (by omega) (by omega)
              have hii : -(n + 1).tmod ((L : Int) + 1) = (i : Int) := by rw [← hii0, Int.neg_tmod]; rfl
              clear hii0
              have hil : i < l.length := by rw [HL.out]; exact hi
              obtain ⟨g, of, rfl, hg, hc⟩ := HVr.out.seen (by omega)
              obtain ⟨_, _, _, _, a0, _⟩ := hc i hil
              obtain ⟨k, hk⟩ : ∃ k, l[i].key = k := ⟨_, rfl⟩
              rw [hk] at a0
              have hkl : k.length ≤ S.length := by rw [← hk]; exact HKL.out _ (List.getElem_mem hil)
              have HK := Lib.hid hk
              have hrk : Sf.readL true (S ++ (44 :: (k ++ [61, 55, 55]))) = some (l.set i (Sf.m77 k)) := by
                rw [Sf.read_keys HO.out (k := k) (by rw [← hk]; exact List.mem_map_of_mem (List.getElem_mem hil)) (by omega), Sf.repM_set HND.out hil hk]
              have e4 : S ++ [44] ++ k ++ [61, 55, 55] = S ++ (44 :: (k ++ [61, 55, 55])) := by simp
              have HD := Lib.hid (dict_some hrk (by unfold maxLen; simp only [List.length_append, List.length_cons, List.length_nil]; omega) wr)
              rw [← e4, List.length_set, HL.out] at HD
              have z1 : ∀ W : World, (Op.stringOp .add (bA S) ⟨#[44]⟩).run Tryz.prog W = .ok (.string (bA (S ++ [44]))) W := fun W => sum_S S [44] (by simp only [List.length_cons, List.length_nil]; omega) W
              have z2 : ∀ W : World, (Op.stringOp .add (bA (S ++ [44])) (bA k)).run Tryz.prog W = .ok (.string (bA (S ++ [44] ++ k))) W := fun W => sum_S _ k (by simp only [List.length_append, List.length_cons, List.length_nil]; omega) W
              have z3 : ∀ W : World, (Op.stringOp .add (bA (S ++ [44] ++ k)) ⟨#[61, 55, 55]⟩).run Tryz.prog W = .ok (.string (bA (S ++ [44] ++ k ++ [61, 55, 55]))) W := fun W => sum_S _ [61, 55, 55] (by simp only [List.length_append, List.length_cons, List.length_nil]; omega) W
              obtain ⟨Z1, hZ1⟩ : ∃ Z, S ++ [44] = Z := ⟨_, rfl⟩
              rw [hZ1] at z1 z2 z3 HD
              obtain ⟨Z2, hZ2⟩ : ∃ Z, Z1 ++ k = Z := ⟨_, rfl⟩
              rw [hZ2] at z2 z3 HD
              obtain ⟨Z3, hZ3⟩ : ∃ Z, Z2 ++ [61, 55, 55] = Z := ⟨_, rfl⟩
              rw [hZ3] at z3 HD
              clear hk hrk e4 hZ1 hZ2 hZ3 hc
              go_wp2_with fail
              refine HD.out.mono ?_
              rintro e w4 ⟨A4, k4, rfl, hb4, hv4⟩
              have hx1 := HVr.out.below hb4
              rw [HL.out] at hx1
              have HX1 := Lib.hid (hx1.below (below_one w4 (.cells #[] 40)))
              have HM4 := Lib.hid hv4.seen
              have HB4 := Lib.hid (onto HBr.out hb4)
              have a04 : w4.cell? ⟨g, of + i * 8, none⟩ = some (.string (bA k)) := (hb4.cell (p := ⟨g, of + i * 8, none⟩) hg).trans a0
              have hg4 : g < w4.heap.size := Nat.lt_of_lt_of_le hg hb4.size
              have HE0 : Hid (LV (w4.alloc (.cells #[] 40)) w4.heap.size (.slice (some ⟨w4.heap.size, 0, none⟩) 0 0) []) := Lib.hid ⟨[], own_empty, rfl⟩
              have HBE := Lib.hid (below_one w4 (.cells #[] 40))
              clear hb4 hv4 hx1 HD z1 z2 z3 a0 hg
              go_wp2_with (at_builtin; refine wpList_append_mem rfl _ _ rfl w4.heap.size _ _ _ [] l rfl rfl HE0.out HX1.out (by have := HL.out; simp only [List.length_nil]; omega) (by simp) ?_)
              intro v5 w5 hv5 hg5 _
              have hb5 : Below w4.heap.size w4 w5 := HBE.out.grown hg5 (by simp) (fun k hk => by cases hk; exact Nat.le_refl _)
              obtain ⟨ys, hrow5, hrm5⟩ := hv5
              obtain ⟨g5, c5, rfl⟩ : ∃ g5 c5, v5 = .slice (some ⟨g5, 0, none⟩) (L + 1) c5 := by
                have hr := hrow5
                obtain ⟨_, ⟨h1, h2⟩ | ⟨g, cap, _, h1, _⟩⟩ := hr
                · have := HL.out; omega
                · rw [HL.out] at h1; exact ⟨g, cap, h1⟩
              rw [HL.out] at hrow5
              have a05 : w5.cell? ⟨g, of + i * 8, none⟩ = some (.string (bA k)) := (hb5.cell (p := ⟨g, of + i * 8, none⟩) hg4).trans a04
              obtain ⟨u1, u2, u3, _, hx8⟩ := hrm5.at i hil
              obtain ⟨d0, f0⟩ := own_cell hrow5 (hx8 0 (by omega))
              obtain ⟨d1, f1⟩ := own_cell hrow5 (hx8 1 (by omega))
              obtain ⟨d2, f2⟩ := own_cell hrow5 (hx8 2 (by omega))
              obtain ⟨d3, f3⟩ := own_cell hrow5 (hx8 3 (by omega))
              obtain ⟨d4, f4⟩ := own_cell hrow5 (hx8 4 (by omega))
              obtain ⟨d5, f5⟩ := own_cell hrow5 (hx8 5 (by omega))
              obtain ⟨d6, f6⟩ := own_cell hrow5 (hx8 6 (by omega))
              obtain ⟨d7, f7⟩ := own_cell hrow5 (hx8 7 (by omega))
              simp only [Nat.add_zero] at d0 f0
              have hcap : L + 1 ≤ c5 := by
                obtain ⟨_, ⟨h1, h2⟩ | ⟨g', cap, _, h1, _, _, h2, _⟩⟩ := hrow5
                · cases h1
                · cases h1; exact h2
              have hgb : w4.heap.size ≤ g5 := (hrow5.lt g5 rfl).1
              obtain ⟨r8, hg8⟩ := own_setg hrow5 (k := i * 8) (.string (bA k)) (.bool false) (.int .i64 1) (.int .i64 77) (.string ⟨#[]⟩) (.slice none 0 0) (.slice none 0 0) (.slice none 0 0)
              have hk8 : ∀ e, e ≠ 40 → KeptT e w5 _ := fun e he => KeptT.row he hrow5 hg8
              have hv8 : LV (setg w5 g5 (i * 8) (.string (bA k)) (.bool false) (.int .i64 1) (.int .i64 77) (.string ⟨#[]⟩) (.slice none 0 0) (.slice none 0 0) (.slice none 0 0)) w4.heap.size (.slice (some ⟨g5, 0, none⟩) (L + 1) c5) (l.set i (Sf.m77 k)) :=
                ⟨_, by rw [List.length_set, HL.out]; exact r8, RowM.set (m := Sf.m77 k) ⟨PV.nil _, IV.nil _, PV.nil _⟩ (hrm5.kept (hk8 _ (by decide)) (hk8 _ (by decide))) i hil⟩
              have hb8 : Below w4.heap.size w4 (setg w5 g5 (i * 8) (.string (bA k)) (.bool false) (.int .i64 1) (.int .i64 77) (.string ⟨#[]⟩) (.slice none 0 0) (.slice none 0 0) (.slice none 0 0)) := hb5.grown hg8 hb5.size (fun k hk => by cases hk; exact hgb)
              have h9 := same_yes A4 (some ⟨g5, 0, none⟩) k4 c5 (l.set i (Sf.m77 k)) _ (HM4.out.below hb8) hv8.seen (by unfold maxLen; rw [List.length_set, HL.out]; omega)
              rw [List.length_set, HL.out] at h9
              unfold setg at h9
              have H9 := Lib.hid h9
              have HB8 := Lib.hid (onto HB4.out hb8)
              have hlt5 : g5 < w5.heap.size := (hrow5.lt g5 rfl).2
              have hg5' : g < w5.heap.size := Nat.lt_of_lt_of_le hg4 hb5.size
              clear hrow5 hrm5 hx8 r8 hg8 hk8 hv8 hb8 h9 hg5 hb5 a04
              go_wp2_with fail
              refine H9.out.mono ?_
              rintro e w9 ⟨rfl, hb9⟩
              unfold setg at HB8
              have HB9 := Lib.hid (onto HB8.out hb9)
              clear hb9 H9
              go_wp2_with fail
              go_ret
              exact ⟨rfl, HB9.out⟩
            · obtain ⟨i, hi, hii0⟩ := idx_of n (L + 1) (by omega) (by omega)
              have hii : n % ((L : Int) + 1) = (i : Int) := by rw [← hii0, Int.tmod_eq_emod_of_nonneg (by omega)]; rfl
              clear hii0
              have hil : i < l.length := by rw [HL.out]; exact hi
              obtain ⟨g, of, rfl, hg, hc⟩ := HVr.out.seen (by omega)
              obtain ⟨_, _, _, _, a0, _⟩ := hc i hil
              obtain ⟨k, hk⟩ : ∃ k, l[i].key = k := ⟨_, rfl⟩
              rw [hk] at a0
              have hkl : k.length ≤ S.length := by rw [← hk]; exact HKL.out _ (List.getElem_mem hil)
              have HK := Lib.hid hk
              have hrk : Sf.readL true (S ++ (44 :: (k ++ [61, 55, 55]))) = some (l.set i (Sf.m77 k)) := by
                rw [Sf.read_keys HO.out (k := k) (by rw [← hk]; exact List.mem_map_of_mem (List.getElem_mem hil)) (by omega), Sf.repM_set HND.out hil hk]
              have e4 : S ++ [44] ++ k ++ [61, 55, 55] = S ++ (44 :: (k ++ [61, 55, 55])) := by simp
              have HD := Lib.hid (dict_some hrk (by unfold maxLen; simp only [List.length_append, List.length_cons, List.length_nil]; omega) wr)
              rw [← e4, List.length_set, HL.out] at HD
              have z1 : ∀ W : World, (Op.stringOp .add (bA S) ⟨#[44]⟩).run Tryz.prog W = .ok (.string (bA (S ++ [44]))) W := fun W => sum_S S [44] (by simp only [List.length_cons, List.length_nil]; omega) W
              have z2 : ∀ W : World, (Op.stringOp .add (bA (S ++ [44])) (bA k)).run Tryz.prog W = .ok (.string (bA (S ++ [44] ++ k))) W := fun W => sum_S _ k (by simp only [List.length_append, List.length_cons, List.length_nil]; omega) W
              have z3 : ∀ W : World, (Op.stringOp .add (bA (S ++ [44] ++ k)) ⟨#[61, 55, 55]⟩).run Tryz.prog W = .ok (.string (bA (S ++ [44] ++ k ++ [61, 55, 55]))) W := fun W => sum_S _ [61, 55, 55] (by simp only [List.length_append, List.length_cons, List.length_nil]; omega) W
              obtain ⟨Z1, hZ1⟩ : ∃ Z, S ++ [44] = Z := ⟨_, rfl⟩
              rw [hZ1] at z1 z2 z3 HD
              obtain ⟨Z2, hZ2⟩ : ∃ Z, Z1 ++ k = Z := ⟨_, rfl⟩
              rw [hZ2] at z2 z3 HD
              obtain ⟨Z3, hZ3⟩ : ∃ Z, Z2 ++ [61, 55, 55] = Z := ⟨_, rfl⟩
              rw [hZ3] at z3 HD
              clear hk hrk e4 hZ1 hZ2 hZ3 hc
              go_wp2_with fail
              refine HD.out.mono ?_
              rintro e w4 ⟨A4, k4, rfl, hb4, hv4⟩
              have hx1 := HVr.out.below hb4
              rw [HL.out] at hx1
              have HX1 := Lib.hid (hx1.below (below_one w4 (.cells #[] 40)))
              have HM4 := Lib.hid hv4.seen
              have HB4 := Lib.hid (onto HBr.out hb4)
              have a04 : w4.cell? ⟨g, of + i * 8, none⟩ = some (.string (bA k)) := (hb4.cell (p := ⟨g, of + i * 8, none⟩) hg).trans a0
              have hg4 : g < w4.heap.size := Nat.lt_of_lt_of_le hg hb4.size
              have HE0 : Hid (LV (w4.alloc (.cells #[] 40)) w4.heap.size (.slice (some ⟨w4.heap.size, 0, none⟩) 0 0) []) := Lib.hid ⟨[], own_empty, rfl⟩
              have HBE := Lib.hid (below_one w4 (.cells #[] 40))
              clear hb4 hv4 hx1 HD z1 z2 z3 a0 hg
              go_wp2_with (at_builtin; refine wpList_append_mem rfl _ _ rfl w4.heap.size _ _ _ [] l rfl rfl HE0.out HX1.out (by have := HL.out; simp only [List.length_nil]; omega) (by simp) ?_)
              intro v5 w5 hv5 hg5 _
              have hb5 : Below w4.heap.size w4 w5 := HBE.out.grown hg5 (by simp) (fun k hk => by cases hk; exact Nat.le_refl _)
              obtain ⟨ys, hrow5, hrm5⟩ := hv5
              obtain ⟨g5, c5, rfl⟩ : ∃ g5 c5, v5 = .slice (some ⟨g5, 0, none⟩) (L + 1) c5 := by
                have hr := hrow5
                obtain ⟨_, ⟨h1, h2⟩ | ⟨g, cap, _, h1, _⟩⟩ := hr
                · have := HL.out; omega
                · rw [HL.out] at h1; exact ⟨g, cap, h1⟩
              rw [HL.out] at hrow5
              have a05 : w5.cell? ⟨g, of + i * 8, none⟩ = some (.string (bA k)) := (hb5.cell (p := ⟨g, of + i * 8, none⟩) hg4).trans a04
              obtain ⟨u1, u2, u3, _, hx8⟩ := hrm5.at i hil
              obtain ⟨d0, f0⟩ := own_cell hrow5 (hx8 0 (by omega))
              obtain ⟨d1, f1⟩ := own_cell hrow5 (hx8 1 (by omega))
              obtain ⟨d2, f2⟩ := own_cell hrow5 (hx8 2 (by omega))
              obtain ⟨d3, f3⟩ := own_cell hrow5 (hx8 3 (by omega))
              obtain ⟨d4, f4⟩ := own_cell hrow5 (hx8 4 (by omega))
              obtain ⟨d5, f5⟩ := own_cell hrow5 (hx8 5 (by omega))
              obtain ⟨d6, f6⟩ := own_cell hrow5 (hx8 6 (by omega))
              obtain ⟨d7, f7⟩ := own_cell hrow5 (hx8 7 (by omega))
              simp only [Nat.add_zero] at d0 f0
              have hcap : L + 1 ≤ c5 := by
                obtain ⟨_, ⟨h1, h2⟩ | ⟨g', cap, _, h1, _, _, h2, _⟩⟩ := hrow5
                · cases h1
                · cases h1; exact h2
              have hgb : w4.heap.size ≤ g5 := (hrow5.lt g5 rfl).1
              obtain ⟨r8, hg8⟩ := own_setg hrow5 (k := i * 8) (.string (bA k)) (.bool false) (.int .i64 1) (.int .i64 77) (.string ⟨#[]⟩) (.slice none 0 0) (.slice none 0 0) (.slice none 0 0)
              have hk8 : ∀ e, e ≠ 40 → KeptT e w5 _ := fun e he => KeptT.row he hrow5 hg8
              have hv8 : LV (setg w5 g5 (i * 8) (.string (bA k)) (.bool false) (.int .i64 1) (.int .i64 77) (.string ⟨#[]⟩) (.slice none 0 0) (.slice none 0 0) (.slice none 0 0)) w4.heap.size (.slice (some ⟨g5, 0, none⟩) (L + 1) c5) (l.set i (Sf.m77 k)) :=
                ⟨_, by rw [List.length_set, HL.out]; exact r8, RowM.set (m := Sf.m77 k) ⟨PV.nil _, IV.nil _, PV.nil _⟩ (hrm5.kept (hk8 _ (by decide)) (hk8 _ (by decide))) i hil⟩
              have hb8 : Below w4.heap.size w4 (setg w5 g5 (i * 8) (.string (bA k)) (.bool false) (.int .i64 1) (.int .i64 77) (.string ⟨#[]⟩) (.slice none 0 0) (.slice none 0 0) (.slice none 0 0)) := hb5.grown hg8 hb5.size (fun k hk => by cases hk; exact hgb)
              have h9 := same_yes A4 (some ⟨g5, 0, none⟩) k4 c5 (l.set i (Sf.m77 k)) _ (HM4.out.below hb8) hv8.seen (by unfold maxLen; rw [List.length_set, HL.out]; omega)
              rw [List.length_set, HL.out] at h9
              unfold setg at h9
              have H9 := Lib.hid h9
              have HB8 := Lib.hid (onto HB4.out hb8)
              have hlt5 : g5 < w5.heap.size := (hrow5.lt g5 rfl).2
              have hg5' : g < w5.heap.size := Nat.lt_of_lt_of_le hg4 hb5.size
              clear hrow5 hrm5 hx8 r8 hg8 hk8 hv8 hb8 h9 hg5 hb5 a04
              go_wp2_with fail
              refine H9.out.mono ?_
              rintro e w9 ⟨rfl, hb9⟩
              unfold setg at HB8
              have HB9 := Lib.hid (onto HB8.out hb9)
              clear hb9 H9
              go_wp2_with fail
              go_ret
              exact ⟨rfl, HB9.out⟩
  · have hl' : (1000 : Int) < (S.length : Int) := by omega
    clear hl
    go_enter Tryz.func7, Tryz.ntmps7
    go_wp2_with fail
    refine H0.out.mono ?_
    rintro e w1 ⟨rfl, hb1⟩
    have HB1 := Lib.hid hb1
    clear hb1 H0
    go_wp2_with fail
    go_ret
    exact ⟨rfl, HB1.out⟩
end Go.Proofs.YtogjekjklknfeaaGreatDoor
