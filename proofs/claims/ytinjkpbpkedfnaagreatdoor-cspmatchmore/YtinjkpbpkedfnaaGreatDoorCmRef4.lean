/- The contract of the document's Parse. -/
import Derived.Test.YtinjkpbpkedfnaaGreatDoorCmRef3
import Derived.Test.YtinjkpbpkedfnaaGreatDoorCmBox
import Derived.Deep.Cut
import Derived.Deep.CutRange
namespace Go.Proofs.YtinjkpbpkedfnaaGreatDoor
open Go.RowKit
open Oct (lower digitI letterI numOk val)
open Urp (bef aft hasB No)

namespace Cm
theorem drop_last {s : List UInt8} {k : Nat} (hk : k < s.length) (h : k = s.length - 1) : s.drop k = [s[k]] := by
  rw [List.drop_eq_getElem_cons hk, List.drop_of_length_le (by omega)]
theorem bef_len (c : UInt8) (l : List UInt8) : (bef c l).length ≤ l.length := by
  unfold bef; exact (List.takeWhile_sublist _).length_le
theorem aft_len (c : UInt8) (l : List UInt8) : (aft c l).length ≤ l.length := by
  unfold aft; simp; have := (List.dropWhile_sublist (fun b => b != c) (l := l)).length_le; omega
end Cm
theorem go_slice3 (s : List UInt8) (k : Nat) (h : k + 3 ≤ s.length) (W : World) : (Instr.slice 9 (.string (bA s)) (some (.int .i64 (k : Int))) (some (.int .i64 ((k : Int) + 3))) none).run Tryz.prog W = .ok (.string (bA ((s.drop k).take 3))) W := by
  have te : (bA s).extract k (k + 3) = bA ((s.drop k).take 3) := by rw [Lib.extract_eq, Nat.add_sub_cancel_left]
  have h1 : (k : Int) + 3 ≤ (s.length : Int) := by omega
  have h2 : (k : Int) ≤ (k : Int) + 3 := by omega
  have h3 : ((k : Int) + 3).toNat = k + 3 := by omega
  simp [go_sem, h1, h2, h3, te, Tryz.underlying9]
set_option maxHeartbeats 8000000 in
set_option maxRecDepth 20000 in
theorem rcmParse_any (t : List UInt8) (w : World) (hs : t.length ≤ 100000000) : Calls Tryz.prog 13 #[.string (bA t)] w fun e w' => e = .returned (srcV (Cm.parse t)) ∧ Below w.heap.size w w' := by
  have hlow : ∀ W : World, Calls Tryz.prog 31 #[.string (bA t)] W fun e w' => e = .returned (.string (bA (lower t))) ∧ Below W.heap.size W w' := fun W => rlower_any (bA t) W (by rw [bA_size]; unfold maxLen; omega)
  have hsl : (lower t).length = t.length := Oct.lower_length t
  have hP : Cm.parse t = Cm.parseN (lower t) := rfl
  rw [hP]
  obtain ⟨s, hs'⟩ : ∃ s, lower t = s := ⟨_, rfl⟩
  rw [hs'] at hlow hsl ⊢
  have hsm : s.length ≤ 100000000 := by omega
  have HL := Lib.hid hlow
  clear hlow hsl hP hs' hs
  have HX0 := Lib.hid (CBox.new w 24 zeroC); have HB0 := Lib.hid ((Below.refl w.heap.size w).alloc (Nat.le_refl _) (.cells zeroC 24))
  unfold Cm.parseN
  cases b1 : s == Cm.sSelf with
  | true =>
    rw [if_pos (beq_iff_eq.1 b1)]
    unfold Cm.sSelf at b1
    go_enter Tryz.func13, Tryz.ntmps13
    go_wp2_with fail
    refine (HL.out _).mono ?_
    rintro e w1 ⟨rfl, hb1⟩
    have HX1 := Lib.hid (HX0.out.keep hb1); have HB1 := Lib.hid (Below.onto HB0.out hb1)
    clear hb1
    obtain ⟨f0, f1, f2, f3, f4, f5, f6, f7⟩ := HX1.out.all4
    go_wp2_with fail
    exact src_done (x := ⟨1, [], [], 0⟩) rfl rfl rfl HX1.out HB1.out (Nat.le_refl _) rfl
  | false =>
  rw [if_neg (beq_eq_false_iff_ne.1 b1)]
  unfold Cm.sSelf at b1
  cases b2 : s == [42] with
  | true =>
    rw [if_pos (beq_iff_eq.1 b2)]
    go_enter Tryz.func13, Tryz.ntmps13
    go_wp2_with fail
    refine (HL.out _).mono ?_
    rintro e w1 ⟨rfl, hb1⟩
    have HX1 := Lib.hid (HX0.out.keep hb1); have HB1 := Lib.hid (Below.onto HB0.out hb1)
    clear hb1
    obtain ⟨f0, f1, f2, f3, f4, f5, f6, f7⟩ := HX1.out.all4
    go_wp2_with fail
    exact src_done (x := ⟨2, [], [], 0⟩) rfl rfl rfl HX1.out HB1.out (Nat.le_refl _) rfl
  | false =>
  rw [if_neg (beq_eq_false_iff_ne.1 b2)]
  have hsch : ∀ W : World, Calls Tryz.prog 32 #[.string (bA s)] W fun e w' => e = .returned (.int .i64 (Cm.schN s)) ∧ W = w' := fun W => rscheme_any (bA s) W (by rw [bA_size]; omega)
  have hkl := Cm.schN_le s
  obtain ⟨k, hk⟩ : ∃ k, Cm.schN s = k := ⟨_, rfl⟩
  have hhas : Cm.hasS s ↔ 0 < k ∧ (s.drop k).take 3 = [58, 47, 47] := by unfold Cm.hasS; rw [hk]
  simp only [hhas]
  rw [hk] at hsch hkl ⊢
  have HSCH := Lib.hid hsch
  clear hsch hk hhas
  by_cases hd : 0 < k ∧ s.drop k = [58]
  · rw [if_pos hd]
    obtain ⟨hk0, hdk⟩ := hd
    have hkl2 : s.length = k + 1 := by have := congrArg List.length hdk; simp at this; omega
    have hg : (bA s)[k]'(by rw [bA_size]; omega) = 58 := by
      rw [bA_get s k (by omega)]
      have := List.drop_eq_getElem_cons (l := s) (i := k) (by omega)
      rw [hdk] at this
      exact (List.cons.inj this).1.symm
    have t1 : (bA s).extract 0 k = bA (s.take k) := Byt.take_ext (bA s) k
    go_enter Tryz.func13, Tryz.ntmps13
    go_wp2_with fail
    refine (HL.out _).mono ?_
    rintro e w1 ⟨rfl, hb1⟩
    have HX1 := Lib.hid (HX0.out.keep hb1); have HB1 := Lib.hid (Below.onto HB0.out hb1)
    clear hb1
    go_wp2_with fail
    refine (HSCH.out _).mono ?_
    rintro e w2 ⟨rfl, rfl⟩
    have HX2 := Lib.hid (fun o => HX1.out.alloc o); have HB2 := Lib.hid (fun o => HB1.out.alloc HB1.out.size o)
    have f := fun o => (HX2.out o).all4
    have f0 := fun o => (f o).1; have f1 := fun o => (f o).2.1; have f2 := fun o => (f o).2.2.1; have f3 := fun o => (f o).2.2.2.1; have f4 := fun o => (f o).2.2.2.2.1; have f5 := fun o => (f o).2.2.2.2.2.1; have f6 := fun o => (f o).2.2.2.2.2.2.1; have f7 := fun o => (f o).2.2.2.2.2.2.2
    have hk0' : (0 : Int) < (k : Int) := by omega
    have hkq : ((k : Int) == (s.length : Int) - 1) = true := by rw [beq_iff_eq]; omega
    have hgi : (((bA s)[k]'(by rw [bA_size]; omega)).toNat : Int) = 58 := by rw [hg]; rfl
    clear f HX0 HB0 HL HSCH hdk hg
    go_wp2_with fail
    exact src_done (x := ⟨3, s.take k, [], 0⟩) rfl rfl rfl (HX2.out _) (HB2.out _) (Nat.le_refl _) rfl
  · rw [if_neg hd]
    obtain ⟨sch, hsch⟩ : ∃ x, (if 0 < k ∧ (s.drop k).take 3 = [58, 47, 47] then s.take k else []) = x := ⟨_, rfl⟩
    obtain ⟨r, hr⟩ : ∃ x, (if 0 < k ∧ (s.drop k).take 3 = [58, 47, 47] then s.drop (k + 3) else s) = x := ⟨_, rfl⟩
    rw [hsch, hr]
    have hH : Cm.hostS sch r = if Cm.patB (bef 58 (bef 47 r)) then if hasB 58 (bef 47 r) then if aft 58 (bef 47 r) = [42] then ⟨4, sch, bef 58 (bef 47 r), -2⟩ else if numOk (aft 58 (bef 47 r)) 65535 = true then ⟨4, sch, bef 58 (bef 47 r), val (aft 58 (bef 47 r))⟩ else Cm.none_ else ⟨4, sch, bef 58 (bef 47 r), -1⟩ else Cm.none_ := rfl
    obtain ⟨H, hHe⟩ : ∃ y, Cm.hostS sch r = y := ⟨_, rfl⟩
    rw [hHe] at hH ⊢
    have HH := Lib.hid hH
    clear hH hHe
    have hrl : r.length ≤ 100000000 := by
      rw [← hr]; split
      · rw [List.length_drop]; omega
      · exact hsm
    have HSR := Lib.hid hsch; have HR := Lib.hid hr; have HRL := Lib.hid hrl
    clear hsch hr hrl
    go_enter Tryz.func13, Tryz.ntmps13
    go_wp2_with fail
    refine (HL.out _).mono ?_
    rintro e w1 ⟨rfl, hb1⟩
    have HX1 := Lib.hid (HX0.out.keep hb1); have HB1 := Lib.hid (Below.onto HB0.out hb1)
    clear hb1
    go_wp2_with fail
    refine (HSCH.out _).mono ?_
    rintro e w2 ⟨rfl, rfl⟩
    obtain ⟨w2, hw2⟩ : ∃ W, w1.alloc (.cells #[.int .i64 4, .string ⟨#[]⟩, .string ⟨#[]⟩, .int .i64 (-1)] 24) = W := ⟨_, rfl⟩
    have HX2 : Hid (CBox w2 w.heap.size 24 zeroC) := Lib.hid (by rw [← hw2]; exact HX1.out.alloc _)
    have HB2 : Hid (Below w.heap.size w w2) := Lib.hid (by rw [← hw2]; exact HB1.out.alloc HB1.out.size _)
    have HY2 : Hid (CBox w2 w1.heap.size 24 (srcC ⟨4, [], [], -1⟩)) := Lib.hid (by rw [← hw2]; exact CBox.new w1 _ _)
    have HNE : Hid (w.heap.size < w1.heap.size) := Lib.hid HX1.out.lt
    rw [hw2]
    obtain ⟨B2, hB2⟩ : ∃ B, w1.heap.size = B := ⟨_, rfl⟩
    rw [hB2] at HY2 HNE ⊢
    clear hw2 hB2 HX0 HB0 HX1 HB1 HL HSCH
    go_upto_region 8 with fail
    go_cut [36] from 22 to 36 (fun v wx => v = .bool false ∧ wx = w2)
    case first =>
      by_cases q0 : k = 0
      · subst q0
        go_wp2_with fail
        go_meet
        exact ⟨rfl, rfl⟩
      · have hk0' : (0 : Int) < (k : Int) := by omega
        by_cases q1 : k + 1 = s.length
        · have hkq : ((k : Int) == (s.length : Int) - 1) = true := by rw [beq_iff_eq]; omega
          have hgn : (bA s)[k]'(by rw [bA_size]; omega) ≠ 58 := fun e => hd ⟨by omega, by
            rw [Cm.drop_last (by omega) (by omega)]
            rw [bA_get s k (by omega)] at e; rw [e]⟩
          have hgi : ((((bA s)[k]'(by rw [bA_size]; omega)).toNat : Int) == 58) = false := by
            have := Cm.byte_eq ((bA s)[k]'(by rw [bA_size]; omega)) 58
            rw [show (((58 : UInt8).toNat : Int)) = 58 from rfl] at this
            rw [this, beq_eq_false_iff_ne]; exact hgn
          clear hgn hd
          go_wp2_with fail
          go_meet
          exact ⟨rfl, rfl⟩
        · have hkq : ((k : Int) == (s.length : Int) - 1) = false := by rw [beq_eq_false_iff_ne]; omega
          go_wp2_with fail
          go_meet
          exact ⟨rfl, rfl⟩
    case rest =>
    obtain ⟨rfl, rfl⟩ := hcut
    obtain ⟨hb, hhb⟩ : ∃ b, b = decide (0 < k ∧ (s.drop k).take 3 = [58, 47, 47]) := ⟨_, rfl⟩
    have HHB := Lib.hid hhb
    clear hd hhb
    go_upto_region 10 with fail
    go_cut [57] from 41 to 57 (fun v wx => v = .bool hb ∧ wx = wc)
    case first =>
      by_cases q0 : k = 0
      · subst q0
        have h := HHB.out
        rw [decide_eq_false (by omega)] at h
        subst h
        go_wp2_with fail
        go_meet
        exact ⟨rfl, rfl⟩
      · have hk0' : (0 : Int) < (k : Int) := by omega
        by_cases q3 : k + 3 ≤ s.length
        · have hl3 : (k : Int) + 3 ≤ (s.length : Int) := by omega
          have hsl3 : ∀ W : World, (Instr.slice 9 (.string (bA s)) (some (.int .i64 (k : Int))) (some (.int .i64 ((k : Int) + 3))) none).run Tryz.prog W = .ok (.string (bA ((s.drop k).take 3))) W := fun W => by
            exact go_slice3 s k q3 W
          have h := HHB.out
          cases q4 : (s.drop k).take 3 == [58, 47, 47] with
          | true =>
            rw [decide_eq_true ⟨by omega, beq_iff_eq.1 q4⟩] at h
            subst h
            go_wp2_with fail
            go_meet
            exact ⟨rfl, rfl⟩
          | false =>
            rw [decide_eq_false (fun h => beq_eq_false_iff_ne.1 q4 h.2)] at h
            subst h
            go_wp2_with fail
            go_meet
            exact ⟨rfl, rfl⟩
        · have hl3 : ¬ (k : Int) + 3 ≤ (s.length : Int) := by omega
          have hn3 : ¬ (s.drop k).take 3 = [58, 47, 47] := fun e => by have := congrArg List.length e; simp at this; omega
          have h := HHB.out
          rw [decide_eq_false (fun h => hn3 h.2)] at h
          subst h
          clear hn3
          go_wp2_with fail
          go_meet
          exact ⟨rfl, rfl⟩
    case rest =>
    obtain ⟨rfl, rfl⟩ := hcut
    go_upto_if 57 with fail
    go_cut [0] from 58 to 65 (fun s0 wx => s0 = .string (bA r) ∧ Hid (CBox wx B2 24 (srcC ⟨4, sch, [], -1⟩)) ∧ Hid (CBox wx w.heap.size 24 zeroC) ∧ Hid (Below w.heap.size w wx))
    case first =>
      have h1 := HSR.out; have h2 := HR.out
      cases hb with
      | true =>
        obtain ⟨p0, p3⟩ := of_decide_eq_true HHB.out.symm
        rw [if_pos ⟨p0, p3⟩] at h1 h2
        obtain rfl := h1; obtain rfl := h2
        have hl3 : k + 3 ≤ s.length := by have := congrArg List.length p3; simp at this; omega
        have hl3' : (k : Int) + 3 ≤ (s.length : Int) := by omega
        have t1 : (bA s).extract 0 k = bA (s.take k) := Byt.take_ext (bA s) k
        have t2 : (bA s).extract (k + 3) s.length = bA (s.drop (k + 3)) := by have := Byt.drop_ext (bA s) (k + 3); rw [bA_size] at this; exact this
        obtain ⟨f0, f1, f2, f3, f4, f5, f6, f7⟩ := HY2.out.all4
        clear p3
        go_wp2_with fail
        go_meet
        exact ⟨rfl, Lib.hid (HY2.out.set (i := 1) (.string (bA (s.take k)))), Lib.hid (HX2.out.other (by have := HNE.out; omega)), Lib.hid (HB2.out.setCell (p := ⟨B2, 1, none⟩) (Nat.le_of_lt HNE.out) _)⟩
      | false =>
        have hnp := of_decide_eq_false HHB.out.symm
        rw [if_neg hnp] at h1 h2
        obtain rfl := h1; obtain rfl := h2
        clear hnp
        go_wp2_with fail
        go_meet
        exact ⟨rfl, HY2, HX2, HB2⟩
    case rest =>
    obtain ⟨rfl, HY3, HX3, HB3⟩ := hcut
    clear HHB HSR HR HX2 HY2 HB2
    have c1 : ∀ W : World, Calls Tryz.prog 33 #[.string (bA r), .int .u8 47] W fun e w' => e = .returned (.tuple #[.string (bA (bef 47 r)), .string (bA (aft 47 r)), .bool (hasB 47 r)]) ∧ Below W.heap.size W w' := fun W => rcut_any (bA r) 47 W (by rw [bA_size]; exact HRL.out)
    have hxl := Cm.bef_len 47 r
    have hH := HH.out
    obtain ⟨x, hx⟩ : ∃ x, bef 47 r = x := ⟨_, rfl⟩
    rw [hx] at c1 hxl hH
    have hxl2 : x.length ≤ 100000000 := Nat.le_trans hxl HRL.out
    have c2 : ∀ W : World, Calls Tryz.prog 33 #[.string (bA x), .int .u8 58] W fun e w' => e = .returned (.tuple #[.string (bA (bef 58 x)), .string (bA (aft 58 x)), .bool (hasB 58 x)]) ∧ Below W.heap.size W w' := fun W => rcut_any (bA x) 58 W (by rw [bA_size]; exact hxl2)
    have hnl := Cm.bef_len 58 x
    have hpl := Cm.aft_len 58 x
    obtain ⟨nm, hnm⟩ : ∃ x', bef 58 x = x' := ⟨_, rfl⟩
    obtain ⟨pt, hpt⟩ : ∃ x', aft 58 x = x' := ⟨_, rfl⟩
    obtain ⟨hs2, hhs⟩ : ∃ b, hasB 58 x = b := ⟨_, rfl⟩
    rw [hnm, hpt, hhs] at c2
    rw [hnm] at hnl
    rw [hpt] at hpl
    rw [hnm, hpt, hhs] at hH
    have HV := Lib.hid hH
    have c3 := fun W : World => rpattern_any nm W (by omega)
    have hptl : pt.length ≤ 100000000 := by omega
    have C1 := Lib.hid c1; have C2 := Lib.hid c2; have C3 := Lib.hid c3; have HPT := Lib.hid hptl
    clear c1 c2 c3 hxl hxl2 hnl hpl hnm hpt hhs hx hH hptl HH
    go_wp2_with fail
    refine (C1.out _).mono ?_
    rintro e w4 ⟨rfl, hb4⟩
    have HY4 := Lib.hid (HY3.out.keep hb4); have HX4 := Lib.hid (HX3.out.keep hb4); have HB4 := Lib.hid (Below.onto HB3.out hb4)
    clear hb4 HY3 HX3 HB3 C1
    go_wp2_with fail
    refine (C2.out _).mono ?_
    rintro e w5 ⟨rfl, hb5⟩
    have HY5 := Lib.hid (HY4.out.keep hb5); have HX5 := Lib.hid (HX4.out.keep hb5); have HB5 := Lib.hid (Below.onto HB4.out hb5)
    clear hb5 HY4 HX4 HB4 C2
    obtain ⟨f0, f1, f2, f3, f4, f5, f6, f7⟩ := HY5.out.all4
    go_wp2_with fail
    obtain ⟨w6, hw6⟩ : ∃ W, w5.setCell ⟨B2, 2, none⟩ (.string (bA nm)) = W := ⟨_, rfl⟩
    have HY6 : Hid (CBox w6 B2 24 (srcC ⟨4, sch, nm, -1⟩)) := Lib.hid (by rw [← hw6]; exact HY5.out.set (i := 2) (.string (bA nm)))
    have HX6 : Hid (CBox w6 w.heap.size 24 zeroC) := Lib.hid (by rw [← hw6]; exact HX5.out.other (by have := HNE.out; omega))
    have HB6 : Hid (Below w.heap.size w w6) := Lib.hid (by rw [← hw6]; exact HB5.out.setCell (p := ⟨B2, 2, none⟩) (Nat.le_of_lt HNE.out) _)
    rw [hw6]
    clear hw6 f0 f1 f2 f3 f4 f5 f6 f7 HY5 HX5 HB5
    refine (C3.out _).mono ?_
    rintro e w7 ⟨rfl, hb7⟩
    have HY7 := Lib.hid (HY6.out.keep hb7); have HX7 := Lib.hid (HX6.out.keep hb7); have HB7 := Lib.hid (Below.onto HB6.out hb7)
    clear hb7 HY6 HX6 HB6 C3
    have hv := HV.out
    obtain ⟨f0, f1, f2, f3, f4, f5, f6, f7⟩ := HX7.out.all4
    cases hp : Cm.patB nm with
    | false =>
      rw [hp, if_neg (by simp)] at hv
      go_wp2_with fail
      exact src_done (x := Cm.none_) rfl rfl rfl HX7.out HB7.out (Nat.le_refl _) hv.symm
    | true =>
      rw [hp, if_pos rfl] at hv
      obtain ⟨g0, g1, g2, g3, g4, g5, g6, g7⟩ := HY7.out.all4
      cases hs2 with
      | false =>
        rw [if_neg (by simp)] at hv
        go_wp2_with fail
        exact src_done (x := ⟨4, sch, nm, -1⟩) rfl rfl rfl HX7.out HB7.out (Nat.le_refl _) hv.symm
      | true =>
        rw [if_pos rfl] at hv
        have HXS : Hid (∀ v, CBox (w7.setCell ⟨B2, 3, none⟩ v) w.heap.size 24 zeroC) := Lib.hid (fun v => HX7.out.other (by have := HNE.out; omega))
        have q := fun v => (HXS.out v).all4
        have q0 := fun v => (q v).1; have q1 := fun v => (q v).2.1; have q2 := fun v => (q v).2.2.1; have q3 := fun v => (q v).2.2.2.1
        have q4 := fun v => (q v).2.2.2.2.1; have q5 := fun v => (q v).2.2.2.2.2.1; have q6 := fun v => (q v).2.2.2.2.2.2.1; have q7 := fun v => (q v).2.2.2.2.2.2.2
        clear q HV
        cases hpt : pt == [42] with
        | true =>
          rw [if_pos (beq_iff_eq.1 hpt)] at hv
          go_wp2_with fail
          exact src_done (x := ⟨4, sch, nm, -2⟩) rfl rfl rfl (HX7.out.other (by have := HNE.out; omega)) (HB7.out.setCell (p := ⟨B2, 3, none⟩) (Nat.le_of_lt HNE.out) _) (Nat.le_refl _) hv.symm
        | false =>
          rw [if_neg (beq_eq_false_iff_ne.1 hpt)] at hv
          have cn := fun W : World => rnumber_any (bA pt) 65535 W (by rw [bA_size]; have := HPT.out; unfold maxLen; omega) (by decide) (by decide)
          have CN := Lib.hid cn
          clear cn
          go_wp2_with fail
          refine (CN.out _).mono ?_
          rintro e w8 ⟨rfl, rfl⟩
          have hnv : Oct.numV (bA pt).data.toList 65535 = if numOk pt 65535 = true then val pt else 0 := rfl
          have hno : numOk (bA pt).data.toList 65535 = numOk pt 65535 := rfl
          rw [hnv, hno]
          clear hnv hno CN
          cases hok : numOk pt 65535 with
          | false =>
            rw [hok, if_neg (by simp)] at hv
            rw [if_neg (by simp)]
            go_wp2_with fail
            exact src_done (x := Cm.none_) rfl rfl rfl HX7.out HB7.out (Nat.le_refl _) hv.symm
          | true =>
            rw [hok, if_pos rfl] at hv
            rw [if_pos rfl]
            go_wp2_with fail
            exact src_done (x := ⟨4, sch, nm, val pt⟩) rfl rfl rfl (HXS.out _) (HB7.out.setCell (p := ⟨B2, 3, none⟩) (Nat.le_of_lt HNE.out) _) (Nat.le_refl _) hv.symm
end Go.Proofs.YtinjkpbpkedfnaaGreatDoor
