/- The contract of the document's DictText. (Written by mkt.py.) -/
import Derived.Test.YtogjekjklknfeaaGreatDoorSdTell2
namespace Go.Proofs.YtogjekjklknfeaaGreatDoor
open Go.RowKit Go.Shelf Go.Maps Go.Deep

theorem add_run (a b c : List UInt8) (h : a.length + b.length ≤ 9000000000000000000) (hc : a ++ b = c) (W : World) : (Op.stringOp .add (bA a) (bA b)).run Tryz.prog W = .ok (.string (bA c)) W := by
  rw [run_string_add_sum W (bA a) (bA b) (by rw [bA_size, bA_size]; omega), bA_app, hc]
def nb (l : List Sf.Mem) (k : List UInt8) (p : Nat) : Bool := (l.take p).all fun y => y.key != k
theorem nb_next {l : List Sf.Mem} {k : List UInt8} {p : Nat} (hp : p < l.length) {y : Sf.Mem} (hy : l[p] = y) : nb l k (p + 1) = (nb l k p && (y.key != k)) := by
  unfold nb
  rw [List.take_succ_eq_append_getElem hp, List.all_append, hy]; simp
theorem nb_no {l : List Sf.Mem} {k : List UInt8} {j : Nat} (h : nb l k j = true) : k ∉ Sf.keysM (l.take j) := by
  intro hk
  unfold Sf.keysM at hk
  obtain ⟨y, hy, e⟩ := List.mem_map.1 hk
  have := List.all_eq_true.1 h y hy
  rw [e] at this; simp at this
theorem nb_yes {l : List Sf.Mem} {k : List UInt8} {j : Nat} (h : nb l k j = false) : k ∈ Sf.keysM (l.take j) := by
  unfold nb at h
  rw [List.all_eq_false] at h
  obtain ⟨y, hy, e⟩ := h
  unfold Sf.keysM
  refine List.mem_map.2 ⟨y, hy, ?_⟩
  simpa using e
theorem etx_inner {m : Sf.Mem} {t : List UInt8} (h : mtx m = some t) (hk : Sf.keyB m.key = true) (hi : m.inner = true) : etx true m = some (m.key ++ 61 :: t) := by
  obtain ⟨hok, rfl⟩ := mtx_some h
  unfold etx Sf.okE Sf.tx Sf.dt Sf.oneB
  rw [hok, hk, hi]
  rfl
set_option maxHeartbeats 8000000 in
set_option maxRecDepth 100000 in
theorem rdictText_any (A : Option Addr) (c : Nat) (l : List Sf.Mem) (w : World) (hA : SeenM w A l) (hl : l.length ≤ 50) (hS : ∀ m ∈ l, SmallM m) (hT : Tab w) :
    Calls Tryz.prog 19 #[.slice A l.length c] w fun e w' => e = .returned (textV (Sf.textL true l)) ∧ Below w.heap.size w w' := by
  have HS0 : Hid (LtI w true l 0 w []) := Lib.hid ⟨Nat.zero_le _, Below.refl _ _, by simp, by simp [Sf.keysM], by simp [Sf.jn]⟩
  have HA := Lib.hid hA; have HS := Lib.hid hS; have HT := Lib.hid hT
  obtain ⟨o, ho⟩ : ∃ o, Sf.textL true l = o := ⟨_, rfl⟩
  rw [ho]
  have HO := Lib.hid ho
  clear ho hA hS hT
  go_enter Tryz.func19, Tryz.ntmps19
  go_wp2_with fail
  go_loopg [4, 5] l.length (fun k v i wr => ∃ j t, l.length - j = k ∧ i = .int .i64 ((j : Nat) : Int) ∧ v = .string (bA t) ∧ LtI w true l j wr t)
  case atStart => exact ⟨0, [], rfl, rfl, rfl, HS0.out⟩
  case round =>
    obtain ⟨j, t, hk, rfl, rfl, hI⟩ := hrel
    have HV := Lib.hid hI
    have hjl := hI.jl
    have htl := hI.len hl HS.out
    clear hI HS0
    by_cases hj : j < l.length
    · obtain ⟨g, of, rfl, hab, hcell⟩ := HA.out.below HV.out.below (by omega)
      have HCE := Lib.hid hcell
      obtain ⟨v1, v2, v3, hsm, d0, d1, d2, d3, d4, d5, d6, d7⟩ := hcell j hj
      obtain ⟨m, hm⟩ : ∃ m, l[j] = m := ⟨_, rfl⟩
      have hsx : SmallM m := by rw [← hm]; exact HS.out _ (List.getElem_mem hj)
      rw [hm] at hsm d0 d1 d2 d3 d4
      obtain ⟨A1, p1, rfl, hs1⟩ := hsm.item.is
      obtain ⟨A2, p2, rfl, _⟩ := hsm.items.is
      obtain ⟨A3, p3, rfl, _⟩ := hsm.params.is
      have HM := Lib.hid hm
      have h1 := rmtext_any m _ _ _ wr hsm hsx (HT.out.below HV.out.below)
      have HTL : Hid (∀ u, mtx m = some u → u.length ≤ 3000000000000) := Lib.hid (fun u h => by obtain ⟨h1, rfl⟩ := mtx_some h; exact mt_size h1 hsx)
      have HSX := Lib.hid hsx
      have HA1 := Lib.hid hs1
      have hkl := hsx.key
      have HD : Hid (Cells8 wr g (of + j * 8) m (.slice A1 m.item.params.length p1) (.slice A2 m.items.length p2) (.slice A3 m.params.length p3)) := Lib.hid ⟨d0, d1, d2, d3, d4, d5, d6, d7⟩
      unfold mC at h1
      have H1 := Lib.hid h1
      clear hm hsx hcell hsm h1 hs1
      go_wp2_with fail
      refine H1.out.mono ?_
      rintro e w1 ⟨⟨x, rfl, hx⟩, hb1⟩
      have HB1 := Lib.hid hb1
      have e0 := (hb1.cell hab).trans d0
      have HX := Lib.hid hx
      clear hb1 H1 d0 d1 d2 d3 d4 d5 d6 d7 hx
      have H2 := Lib.hid (rkey_any m.key w1 (by omega))
      obtain ⟨K, R, E, hkv, hkc⟩ := keyV_form (Sf.keyOf m.key)
      rw [hkv] at H2
      have HKC := Lib.hid hkc
      obtain ⟨b, hb⟩ : ∃ b, (mtx m).isSome = b := ⟨_, rfl⟩
      rw [hb]
      have HBM := Lib.hid hb
      clear hkv hkc hb
      go_wp2_with fail
      refine H2.out.mono ?_
      rintro e w2 ⟨rfl, q, hq⟩
      have HB2 : Hid (Below wr.heap.size wr w2) := by rw [Hid, hq]; exact below_dr HB1.out q
      clear hq H2 e0
      go_wp2_with fail
      go_loopg [7, 11] j (fun k v i wq => ∃ (p : Nat) (bb : Bool), j - p = k ∧ p ≤ j ∧ i = .int .i64 p ∧ v = .bool bb ∧ Below wr.heap.size wr wq ∧ Hid (bb = (b && nb l m.key p)))
      case atStart => exact ⟨0, b, rfl, Nat.zero_le _, rfl, rfl, HB2.out, by simp [Hid, nb]⟩
      case round =>
        obtain ⟨p, bb, hk2, hp, rfl, rfl, hbq, hbb⟩ := hrel
        have HBQ := Lib.hid hbq
        clear hbq
        by_cases hpj : p < j
        · have hpl : p < l.length := by omega
          obtain ⟨y, hy⟩ : ∃ y, l[p] = y := ⟨_, rfl⟩
          have HY := Lib.hid hy
          clear hy
          cases bb with
          | false =>
            have HN : Hid (false = (b && nb l m.key (p + 1))) := by
              have h1 := hbb.out
              rw [Hid, nb_next hpl HY.out, ← Bool.and_assoc, ← h1]; rfl
            go_wp2_with fail
            go_quiet (fail)
            go_wp2_with fail
            go_roundg (j - (p + 1))
            case measure => omega
            case rel => exact ⟨p + 1, false, rfl, by omega, by go_num, rfl, below_dr HBQ.out _, HN.out⟩
          | true =>
            obtain ⟨bk, hbk⟩ : ∃ bk, (y.key != m.key) = bk := ⟨_, rfl⟩
            have HN : Hid (bk = (b && nb l m.key (p + 1))) := by
              have h1 := hbb.out
              rw [Hid, nb_next hpl HY.out, ← Bool.and_assoc, ← h1, hbk]; rfl
            obtain ⟨_, _, _, _, y0, _⟩ := HCE.out p hpl
            rw [HY.out] at y0
            have f0 := (HBQ.out.cell hab).trans HD.out.1
            have f1 := (HBQ.out.cell hab).trans y0
            have hbk' : (y.key == m.key) = !bk := by rw [← hbk, bne]; simp
            clear y0
            go_wp2_with fail
            go_quiet (fail)
            go_wp2_with fail
            go_roundg (j - (p + 1))
            case measure => omega
            case rel => exact ⟨p + 1, bk, rfl, by omega, by go_num, rfl, below_dr HBQ.out _, HN.out⟩
        · have hpj' : p = j := by omega
          subst hpj'
          have HBW := Lib.hid (onto HV.out.below HBQ.out)
          cases bb with
          | false =>
            have hn : o = none := by
              rw [← HO.out]
              have hmn : b = false → mtx m = none := fun h => by
                have h2 := HBM.out
                rw [h] at h2
                cases hmt : mtx m with
                | none => rfl
                | some u => rw [hmt] at h2; cases h2
              have h1 := hbb.out.symm
              rw [Bool.and_eq_false_iff] at h1
              rcases h1 with h1 | h1
              · exact textL_bad hj (by rw [HM.out]; exact etx_notext (hmn h1))
              · exact textL_same hj (by rw [HM.out]; exact nb_yes h1)
            subst hn
            go_wp2_with fail
            go_ret2
            exact ⟨rfl, HBW.out⟩
          | true =>
            have hbt : b = true ∧ nb l m.key p = true := by have h1 := hbb.out.symm; rwa [Bool.and_eq_true] at h1
            obtain ⟨hb1, hnb⟩ := hbt
            subst hb1
            obtain ⟨u, hu⟩ := Option.isSome_iff_exists.1 HBM.out
            have hxu := HX.out u hu
            subst hxu
            have hul := HTL.out x hu
            have HMT := Lib.hid hu
            have HNB : Hid (m.key ∉ Sf.keysM (l.take p)) := Lib.hid (nb_no hnb)
            clear hu hnb hbb HTL HX HBM
            rcases key_cases m.key with ⟨hko, hkb⟩ | ⟨k', c', r', hko, hkb⟩ | ⟨hko, hkb⟩
            · have hE : E = 50 := by
                rcases HKC.out with ⟨_, h⟩ | ⟨h, _⟩
                · exact h
                · rw [hko] at h; cases h
              subst hE
              have hn : o = none := by rw [← HO.out]; exact textL_bad hj (by rw [HM.out]; exact etx_nokey hkb)
              subst hn
              clear hko hkb HKC
              go_wp2_with fail
              go_ret2
              exact ⟨rfl, HBW.out⟩
            · obtain ⟨hE, hR⟩ : E = 0 ∧ R = c' :: r' := by
                rcases HKC.out with ⟨h, _⟩ | ⟨h, h2⟩
                · rw [hko] at h; cases h
                · rw [hko] at h; cases h; exact ⟨h2, rfl⟩
              subst hE
              subst hR
              have hn : o = none := by rw [← HO.out]; exact textL_bad hj (by rw [HM.out]; exact etx_nokey hkb)
              subst hn
              clear hko hkb HKC
              go_wp2_with fail
              go_ret2
              exact ⟨rfl, HBW.out⟩
            · obtain ⟨hE, hR, hKK⟩ : E = 0 ∧ R = [] ∧ K = m.key := by
                rcases HKC.out with ⟨h, _⟩ | ⟨h, h2⟩
                · rw [hko] at h; cases h
                · rw [hko] at h; cases h; exact ⟨h2, rfl, rfl⟩
              subst hE
              subst hR
              subst hKK
              have HKB := Lib.hid hkb
              clear hko hkb HKC
              obtain ⟨f0, f1, f2, f3, f4, f5, f6, f7⟩ := HD.out.below hab HBQ.out
              clear f0 f4 f6 f7
              rcases p with _ | p
              · cases hi : m.inner with
                | true =>
                  simp only [Nat.zero_mul, Nat.add_zero] at f1 f2 f3 f5
                  obtain ⟨T1, hT1⟩ : ∃ T1, t ++ m.key = T1 := ⟨_, rfl⟩
                  have hT1n : T1.length ≤ 500000000000000 := by rw [← hT1, List.length_append]; omega
                  have z1 := add_run t m.key T1 (by omega) hT1
                  have HN := Lib.hid (HV.out.next hj (by rw [HM.out]; exact etx_inner HMT.out HKB.out hi) (fun _ => by rw [HM.out]; exact HNB.out) HBQ.out)
                  obtain ⟨T2, hT2⟩ : ∃ T2, T1 ++ [61] = T2 := ⟨_, rfl⟩
                  have hT2n : T2.length ≤ 600000000000000 := by rw [← hT2, List.length_append, List.length_cons, List.length_nil]; omega
                  have z2 : ∀ W : World, (Op.stringOp .add (bA T1) ⟨#[61]⟩).run Tryz.prog W = .ok (.string (bA T2)) W := add_run T1 [61] T2 (by rw [List.length_cons, List.length_nil]; omega) hT2
                  obtain ⟨T3, hT3⟩ : ∃ T3, T2 ++ x = T3 := ⟨_, rfl⟩
                  have z3 := add_run T2 x T3 (by omega) hT3
                  have hE2 : t ++ (m.key ++ 61 :: x) = T3 := by rw [← hT3, ← hT2, ← hT1, List.append_assoc, List.append_assoc]; rfl
                  rw [if_pos rfl, hE2] at HN
                  rw [hi] at f1
                  clear hE2 hT1 hT2 hT3
                  go_wp2_with fail
                  go_roundg (l.length - (1))
                  case measure => omega
                  case rel => exact ⟨1, T3, rfl, by go_num, rfl, HN.out⟩
                | false =>
                  by_cases k6 : m.item.kind = 6
                  · by_cases n1 : m.item.n = 1
                    · simp only [Nat.zero_mul, Nat.add_zero] at f1 f2 f3 f5
                      obtain ⟨T1, hT1⟩ : ∃ T1, t ++ m.key = T1 := ⟨_, rfl⟩
                      have hT1n : T1.length ≤ 500000000000000 := by rw [← hT1, List.length_append]; omega
                      have z1 := add_run t m.key T1 (by omega) hT1
                      obtain ⟨htl2, hex⟩ := etx_one HMT.out HKB.out k6 n1
                      have hTl : (Sf.T m.item.params).length ≤ 600000000 := T_size (by rw [htl2]; rfl) HSX.out.item.params
                      have h3 := rtail_any A1 p1 m.item.params _ (HA1.out.below HBQ.out) HSX.out.item.params (HT.out.below HBW.out)
                      rw [htl2] at h3
                      have H3 := Lib.hid h3
                      have HEX := Lib.hid hex
                      obtain ⟨TL, hTL⟩ : ∃ TL, Sf.T m.item.params = TL := ⟨_, rfl⟩
                      rw [hTL] at H3 HEX hTl
                      obtain ⟨T2, hT2⟩ : ∃ T2, T1 ++ TL = T2 := ⟨_, rfl⟩
                      have z2 := add_run T1 TL T2 (by omega) hT2
                      have HE2 : Hid (t ++ (m.key ++ TL) = T2) := Lib.hid (by rw [← hT2, ← hT1, List.append_assoc])
                      clear htl2 hex h3 hTL hT1 hT2
                      rw [k6] at f2
                      rw [n1] at f3
                      rw [hi] at f1
                      go_wp2_with fail
                      refine H3.out.mono ?_
                      rintro e w3 ⟨rfl, hb3⟩
                      have HB3 := Lib.hid (onto HBQ.out hb3)
                      clear hb3 H3
                      unfold textV
                      simp only [Option.isSome_some, Option.getD_some]
                      have HN := Lib.hid (HV.out.next hj (by rw [HM.out]; exact HEX.out) (fun _ => by rw [HM.out]; exact HNB.out) HB3.out)
                      rw [if_pos rfl, HE2.out] at HN
                      go_wp2_with fail
                      go_roundg (l.length - (1))
                      case measure => omega
                      case rel => exact ⟨1, T2, rfl, by go_num, rfl, HN.out⟩
                    · simp only [Nat.zero_mul, Nat.add_zero] at f1 f2 f3 f5
                      obtain ⟨T1, hT1⟩ : ∃ T1, t ++ m.key = T1 := ⟨_, rfl⟩
                      have hT1n : T1.length ≤ 500000000000000 := by rw [← hT1, List.length_append]; omega
                      have z1 := add_run t m.key T1 (by omega) hT1
                      have HN := Lib.hid (HV.out.next hj (by rw [HM.out]; exact etx_val HMT.out HKB.out (fun h => n1 h.2)) (fun _ => by rw [HM.out]; exact HNB.out) HBQ.out)
                      obtain ⟨T2, hT2⟩ : ∃ T2, T1 ++ [61] = T2 := ⟨_, rfl⟩
                      have hT2n : T2.length ≤ 600000000000000 := by rw [← hT2, List.length_append, List.length_cons, List.length_nil]; omega
                      have z2 : ∀ W : World, (Op.stringOp .add (bA T1) ⟨#[61]⟩).run Tryz.prog W = .ok (.string (bA T2)) W := add_run T1 [61] T2 (by rw [List.length_cons, List.length_nil]; omega) hT2
                      obtain ⟨T3, hT3⟩ : ∃ T3, T2 ++ x = T3 := ⟨_, rfl⟩
                      have z3 := add_run T2 x T3 (by omega) hT3
                      have hE2 : t ++ (m.key ++ 61 :: x) = T3 := by rw [← hT3, ← hT2, ← hT1, List.append_assoc, List.append_assoc]; rfl
                      rw [if_pos rfl, hE2] at HN
                      rw [hi] at f1
                      rw [k6] at f2
                      have n1b : (m.item.n == 1) = false := by rw [beq_eq_false_iff_ne]; exact n1
                      clear hE2 hT1 hT2 hT3
                      go_wp2_with fail
                      go_roundg (l.length - (1))
                      case measure => omega
                      case rel => exact ⟨1, T3, rfl, by go_num, rfl, HN.out⟩
                  · simp only [Nat.zero_mul, Nat.add_zero] at f1 f2 f3 f5
                    obtain ⟨T1, hT1⟩ : ∃ T1, t ++ m.key = T1 := ⟨_, rfl⟩
                    have hT1n : T1.length ≤ 500000000000000 := by rw [← hT1, List.length_append]; omega
                    have z1 := add_run t m.key T1 (by omega) hT1
                    have HN := Lib.hid (HV.out.next hj (by rw [HM.out]; exact etx_val HMT.out HKB.out (fun h => k6 h.1)) (fun _ => by rw [HM.out]; exact HNB.out) HBQ.out)
                    obtain ⟨T2, hT2⟩ : ∃ T2, T1 ++ [61] = T2 := ⟨_, rfl⟩
                    have hT2n : T2.length ≤ 600000000000000 := by rw [← hT2, List.length_append, List.length_cons, List.length_nil]; omega
                    have z2 : ∀ W : World, (Op.stringOp .add (bA T1) ⟨#[61]⟩).run Tryz.prog W = .ok (.string (bA T2)) W := add_run T1 [61] T2 (by rw [List.length_cons, List.length_nil]; omega) hT2
                    obtain ⟨T3, hT3⟩ : ∃ T3, T2 ++ x = T3 := ⟨_, rfl⟩
                    have z3 := add_run T2 x T3 (by omega) hT3
                    have hE2 : t ++ (m.key ++ 61 :: x) = T3 := by rw [← hT3, ← hT2, ← hT1, List.append_assoc, List.append_assoc]; rfl
                    rw [if_pos rfl, hE2] at HN
                    rw [hi] at f1
                    have k6b : (m.item.kind == 6) = false := by rw [beq_eq_false_iff_ne]; exact k6
                    clear hE2 hT1 hT2 hT3
                    go_wp2_with fail
                    go_roundg (l.length - (1))
                    case measure => omega
                    case rel => exact ⟨1, T3, rfl, by go_num, rfl, HN.out⟩
              · cases hi : m.inner with
                | true =>
                  obtain ⟨T, hT⟩ : ∃ T, t ++ [44, 32] = T := ⟨_, rfl⟩
                  have hTn : T.length ≤ 400000000000000 := by rw [← hT, List.length_append, List.length_cons, List.length_cons, List.length_nil]; omega
                  have z0 : ∀ W : World, (Op.stringOp .add (bA t) ⟨#[44, 32]⟩).run Tryz.prog W = .ok (.string (bA T)) W := add_run t [44, 32] T (by rw [List.length_cons, List.length_cons, List.length_nil]; omega) hT
                  obtain ⟨T1, hT1⟩ : ∃ T1, T ++ m.key = T1 := ⟨_, rfl⟩
                  have hT1n : T1.length ≤ 500000000000000 := by rw [← hT1, List.length_append]; omega
                  have z1 := add_run T m.key T1 (by omega) hT1
                  have HN := Lib.hid (HV.out.next hj (by rw [HM.out]; exact etx_inner HMT.out HKB.out hi) (fun _ => by rw [HM.out]; exact HNB.out) HBQ.out)
                  obtain ⟨T2, hT2⟩ : ∃ T2, T1 ++ [61] = T2 := ⟨_, rfl⟩
                  have hT2n : T2.length ≤ 600000000000000 := by rw [← hT2, List.length_append, List.length_cons, List.length_nil]; omega
                  have z2 : ∀ W : World, (Op.stringOp .add (bA T1) ⟨#[61]⟩).run Tryz.prog W = .ok (.string (bA T2)) W := add_run T1 [61] T2 (by rw [List.length_cons, List.length_nil]; omega) hT2
                  obtain ⟨T3, hT3⟩ : ∃ T3, T2 ++ x = T3 := ⟨_, rfl⟩
                  have z3 := add_run T2 x T3 (by omega) hT3
                  have hE2 : T ++ (m.key ++ 61 :: x) = T3 := by rw [← hT3, ← hT2, ← hT1, List.append_assoc, List.append_assoc]; rfl
                  rw [if_neg (by omega), hT, hE2] at HN
                  rw [hi] at f1
                  clear hE2 hT hT1 hT2 hT3
                  go_wp2_with fail
                  go_roundg (l.length - (p + 1 + 1))
                  case measure => omega
                  case rel => exact ⟨p + 1 + 1, T3, rfl, by go_num, rfl, HN.out⟩
                | false =>
                  by_cases k6 : m.item.kind = 6
                  · by_cases n1 : m.item.n = 1
                    · obtain ⟨T, hT⟩ : ∃ T, t ++ [44, 32] = T := ⟨_, rfl⟩
                      have hTn : T.length ≤ 400000000000000 := by rw [← hT, List.length_append, List.length_cons, List.length_cons, List.length_nil]; omega
                      have z0 : ∀ W : World, (Op.stringOp .add (bA t) ⟨#[44, 32]⟩).run Tryz.prog W = .ok (.string (bA T)) W := add_run t [44, 32] T (by rw [List.length_cons, List.length_cons, List.length_nil]; omega) hT
                      obtain ⟨T1, hT1⟩ : ∃ T1, T ++ m.key = T1 := ⟨_, rfl⟩
                      have hT1n : T1.length ≤ 500000000000000 := by rw [← hT1, List.length_append]; omega
                      have z1 := add_run T m.key T1 (by omega) hT1
                      obtain ⟨htl2, hex⟩ := etx_one HMT.out HKB.out k6 n1
                      have hTl : (Sf.T m.item.params).length ≤ 600000000 := T_size (by rw [htl2]; rfl) HSX.out.item.params
                      have h3 := rtail_any A1 p1 m.item.params _ (HA1.out.below HBQ.out) HSX.out.item.params (HT.out.below HBW.out)
                      rw [htl2] at h3
                      have H3 := Lib.hid h3
                      have HEX := Lib.hid hex
                      obtain ⟨TL, hTL⟩ : ∃ TL, Sf.T m.item.params = TL := ⟨_, rfl⟩
                      rw [hTL] at H3 HEX hTl
                      obtain ⟨T2, hT2⟩ : ∃ T2, T1 ++ TL = T2 := ⟨_, rfl⟩
                      have z2 := add_run T1 TL T2 (by omega) hT2
                      have HE2 : Hid (T ++ (m.key ++ TL) = T2) := Lib.hid (by rw [← hT2, ← hT1, List.append_assoc])
                      have HT0 := Lib.hid hT
                      clear htl2 hex h3 hTL hT hT1 hT2
                      rw [k6] at f2
                      rw [n1] at f3
                      rw [hi] at f1
                      go_wp2_with fail
                      refine H3.out.mono ?_
                      rintro e w3 ⟨rfl, hb3⟩
                      have HB3 := Lib.hid (onto HBQ.out hb3)
                      clear hb3 H3
                      unfold textV
                      simp only [Option.isSome_some, Option.getD_some]
                      have HN := Lib.hid (HV.out.next hj (by rw [HM.out]; exact HEX.out) (fun _ => by rw [HM.out]; exact HNB.out) HB3.out)
                      rw [if_neg (by omega), HT0.out, HE2.out] at HN
                      go_wp2_with fail
                      go_roundg (l.length - (p + 1 + 1))
                      case measure => omega
                      case rel => exact ⟨p + 1 + 1, T2, rfl, by go_num, rfl, HN.out⟩
                    · obtain ⟨T, hT⟩ : ∃ T, t ++ [44, 32] = T := ⟨_, rfl⟩
                      have hTn : T.length ≤ 400000000000000 := by rw [← hT, List.length_append, List.length_cons, List.length_cons, List.length_nil]; omega
                      have z0 : ∀ W : World, (Op.stringOp .add (bA t) ⟨#[44, 32]⟩).run Tryz.prog W = .ok (.string (bA T)) W := add_run t [44, 32] T (by rw [List.length_cons, List.length_cons, List.length_nil]; omega) hT
                      obtain ⟨T1, hT1⟩ : ∃ T1, T ++ m.key = T1 := ⟨_, rfl⟩
                      have hT1n : T1.length ≤ 500000000000000 := by rw [← hT1, List.length_append]; omega
                      have z1 := add_run T m.key T1 (by omega) hT1
                      have HN := Lib.hid (HV.out.next hj (by rw [HM.out]; exact etx_val HMT.out HKB.out (fun h => n1 h.2)) (fun _ => by rw [HM.out]; exact HNB.out) HBQ.out)
                      obtain ⟨T2, hT2⟩ : ∃ T2, T1 ++ [61] = T2 := ⟨_, rfl⟩
                      have hT2n : T2.length ≤ 600000000000000 := by rw [← hT2, List.length_append, List.length_cons, List.length_nil]; omega
                      have z2 : ∀ W : World, (Op.stringOp .add (bA T1) ⟨#[61]⟩).run Tryz.prog W = .ok (.string (bA T2)) W := add_run T1 [61] T2 (by rw [List.length_cons, List.length_nil]; omega) hT2
                      obtain ⟨T3, hT3⟩ : ∃ T3, T2 ++ x = T3 := ⟨_, rfl⟩
                      have z3 := add_run T2 x T3 (by omega) hT3
                      have hE2 : T ++ (m.key ++ 61 :: x) = T3 := by rw [← hT3, ← hT2, ← hT1, List.append_assoc, List.append_assoc]; rfl
                      rw [if_neg (by omega), hT, hE2] at HN
                      rw [hi] at f1
                      rw [k6] at f2
                      have n1b : (m.item.n == 1) = false := by rw [beq_eq_false_iff_ne]; exact n1
                      clear hE2 hT hT1 hT2 hT3
                      go_wp2_with fail
                      go_roundg (l.length - (p + 1 + 1))
                      case measure => omega
                      case rel => exact ⟨p + 1 + 1, T3, rfl, by go_num, rfl, HN.out⟩
                  · obtain ⟨T, hT⟩ : ∃ T, t ++ [44, 32] = T := ⟨_, rfl⟩
                    have hTn : T.length ≤ 400000000000000 := by rw [← hT, List.length_append, List.length_cons, List.length_cons, List.length_nil]; omega
                    have z0 : ∀ W : World, (Op.stringOp .add (bA t) ⟨#[44, 32]⟩).run Tryz.prog W = .ok (.string (bA T)) W := add_run t [44, 32] T (by rw [List.length_cons, List.length_cons, List.length_nil]; omega) hT
                    obtain ⟨T1, hT1⟩ : ∃ T1, T ++ m.key = T1 := ⟨_, rfl⟩
                    have hT1n : T1.length ≤ 500000000000000 := by rw [← hT1, List.length_append]; omega
                    have z1 := add_run T m.key T1 (by omega) hT1
                    have HN := Lib.hid (HV.out.next hj (by rw [HM.out]; exact etx_val HMT.out HKB.out (fun h => k6 h.1)) (fun _ => by rw [HM.out]; exact HNB.out) HBQ.out)
                    obtain ⟨T2, hT2⟩ : ∃ T2, T1 ++ [61] = T2 := ⟨_, rfl⟩
                    have hT2n : T2.length ≤ 600000000000000 := by rw [← hT2, List.length_append, List.length_cons, List.length_nil]; omega
                    have z2 : ∀ W : World, (Op.stringOp .add (bA T1) ⟨#[61]⟩).run Tryz.prog W = .ok (.string (bA T2)) W := add_run T1 [61] T2 (by rw [List.length_cons, List.length_nil]; omega) hT2
                    obtain ⟨T3, hT3⟩ : ∃ T3, T2 ++ x = T3 := ⟨_, rfl⟩
                    have z3 := add_run T2 x T3 (by omega) hT3
                    have hE2 : T ++ (m.key ++ 61 :: x) = T3 := by rw [← hT3, ← hT2, ← hT1, List.append_assoc, List.append_assoc]; rfl
                    rw [if_neg (by omega), hT, hE2] at HN
                    rw [hi] at f1
                    have k6b : (m.item.kind == 6) = false := by rw [beq_eq_false_iff_ne]; exact k6
                    clear hE2 hT hT1 hT2 hT3
                    go_wp2_with fail
                    go_roundg (l.length - (p + 1 + 1))
                    case measure => omega
                    case rel => exact ⟨p + 1 + 1, T3, rfl, by go_num, rfl, HN.out⟩
    · have hjj : j = l.length := by omega
      subst hjj
      have hn : o = some t := by rw [← HO.out]; exact HV.out.done
      subst hn
      go_wp2_with fail
      go_ret2
      exact ⟨rfl, HV.out.below⟩
end Go.Proofs.YtogjekjklknfeaaGreatDoor
