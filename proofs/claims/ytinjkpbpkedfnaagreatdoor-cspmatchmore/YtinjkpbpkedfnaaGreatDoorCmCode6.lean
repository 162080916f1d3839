/- The contracts of the program's parseHost and Parse. -/
import Derived.Test.YtinjkpbpkedfnaaGreatDoorCmCode5
namespace Go.Proofs.YtinjkpbpkedfnaaGreatDoor
open Go.RowKit
open Oct (lower numOk)
open Urp (bef aft hasB No begB)

theorem cmPhost_any (s : List UInt8) (w : World) (hs : s.length ≤ 100000000) (hlow : ∀ b ∈ s, Oct.low1 b = b) : Calls Tryz.prog 30 #[.string (bA s)] w fun e w' => e = .returned (srcV (Cm.hostP s)) ∧ Below w.heap.size w w' := by
  obtain ⟨hl1, hl2⟩ := up_low hlow
  obtain ⟨hn1, hn2⟩ := up_len s
  have hcut := fun W (h : CBox W w.heap.size 9 #[.string (bA s)]) => cutHost_any w.heap.size s W h hs
  have hb := begB_take [58, 47, 47] (Cm.rst s)
  unfold Cm.hostP
  by_cases h3 : (Cm.rst s).take 3 = [58, 47, 47]
  · rw [if_pos h3]
    have hul : ((Cm.rst s).drop 3).length ≤ 100000000 := by rw [List.length_drop]; omega
    obtain ⟨hl3, _⟩ := up_low (s := (Cm.rst s).drop 3) (fun b hb => hl2 b (List.mem_of_mem_drop hb))
    obtain ⟨hn3, hn4⟩ := up_len ((Cm.rst s).drop 3)
    exact cmPhost_yes s (Cm.up s) (Cm.rst s) ((Cm.rst s).drop 3) _ _ w (Cm.scB (Cm.up s)) hul (Nat.le_trans hn3 hul) (Nat.le_trans hn4 hul) hl3 (hb.trans (decide_eq_true h3)) rfl rfl rfl hcut
      (fun W => cmScheme_any (bA (Cm.up s)) W (by rw [bA_size]; omega) hl1)
  · rw [if_neg h3]
    exact cmPhost_no s (Cm.up s) (Cm.rst s) w (by omega) (by omega) hl1 (hb.trans (decide_eq_false h3)) hcut
theorem suf_end (s : List UInt8) (w : World) (h : s.length ≤ 100000000) : Calls Tryz.prog 28 #[.string (bA s), .string ⟨#[58]⟩] w fun e w' => e = .returned (.tuple #[.string (bA (if s.drop (s.length - 1) = [58] then s.take (s.length - 1) else s)), .bool (decide (s.drop (s.length - 1) = [58]))]) ∧ w = w' := by
  have hx : Lib.hasSuffix s [58] = decide (s.drop (s.length - 1) = [58]) := by
    rw [Bool.eq_iff_iff, decide_eq_true_eq]
    unfold Lib.hasSuffix
    rw [List.isSuffixOf_iff_suffix, List.suffix_iff_eq_drop]
    exact eq_comm
  refine (Tryz.strings_CutSuffix (bA s) ⟨#[58]⟩ w (by rw [bA_size]; omega)).mono ?_
  rintro e w' ⟨rfl, rfl⟩
  refine ⟨?_, rfl⟩
  have ht : Lib.trimSuffix s [58] = if s.drop (s.length - 1) = [58] then s.take (s.length - 1) else s := by
    unfold Lib.trimSuffix
    rw [hx]
    by_cases h : s.drop (s.length - 1) = [58]
    · rw [if_pos h, decide_eq_true h]; rfl
    · rw [if_neg h, decide_eq_false h]; rfl
  show Ending.returned (.tuple #[.string (bA (Lib.trimSuffix s [58])), .bool (Lib.hasSuffix s [58])]) = _
  rw [ht, hx]
set_option maxHeartbeats 4000000 in
theorem cmParse_any (t : List UInt8) (w : World) (_ : Tab w) (_ : Tab8 w) (ht : t.length ≤ 10000) : Calls Tryz.prog 12 #[.string (bA t)] w fun e w' => e = .returned (srcV (Cm.parse t)) ∧ Below w.heap.size w w' := by
  have hlow : ∀ W : World, Calls Tryz.prog 27 #[.string (bA t)] W fun e w' => e = .returned (.string (bA (lower t))) ∧ Below W.heap.size W w' := fun W => lower_any (bA t) W (by rw [bA_size]; unfold maxLen; omega)
  have hsl : (lower t).length = t.length := Oct.lower_length t
  have hsf : ∀ b ∈ lower t, Oct.low1 b = b := fun b hb => by
    unfold Oct.lower at hb
    obtain ⟨c, _, rfl⟩ := List.mem_map.1 hb
    exact Oct.low1_low1 c
  have hP : Cm.parse t = Cm.parseN (lower t) := rfl
  rw [hP, Cm.parse_code]
  obtain ⟨s, hs'⟩ : ∃ s, lower t = s := ⟨_, rfl⟩
  rw [hs'] at hlow hsl hsf ⊢
  have hsm : s.length ≤ 100000000 := by omega
  have HL := Lib.hid hlow
  clear hlow hsl hP hs' ht
  have HX0 := Lib.hid (CBox.new w 24 zeroC); have HB0 := Lib.hid ((Below.refl w.heap.size w).alloc (Nat.le_refl _) (.cells zeroC 24))
  unfold zeroC srcC at HX0 HB0
  cases b1 : s == Cm.sSelf with
  | true =>
    rw [if_pos (beq_iff_eq.1 b1)]
    unfold Cm.sSelf at b1
    clear hsf
    go_enter Tryz.func12, Tryz.ntmps12
    go_wp2_with fail
    refine (HL.out _).mono ?_
    rintro e w1 ⟨rfl, hb1⟩
    have HX1 := Lib.hid (HX0.out.keep hb1); have HB1 := Lib.hid (Below.onto HB0.out hb1)
    clear hb1
    obtain ⟨f0, f1, f2, f3, f4, f5, f6, f7⟩ := HX1.out.all4
    go_wp2_with fail
    exact src_done (x := ⟨1, [], [], 0⟩) rfl rfl rfl HX1.out HB1.out (Nat.le_refl _) rfl
  | false =>
  rw [if_neg (beq_eq_false_iff_ne.1 b1)]
  unfold Cm.sSelf at b1
  cases b2 : s == [42] with
  | true =>
    rw [if_pos (beq_iff_eq.1 b2)]
    clear hsf
    go_enter Tryz.func12, Tryz.ntmps12
    go_wp2_with fail
    refine (HL.out _).mono ?_
    rintro e w1 ⟨rfl, hb1⟩
    have HX1 := Lib.hid (HX0.out.keep hb1); have HB1 := Lib.hid (Below.onto HB0.out hb1)
    clear hb1
    obtain ⟨f0, f1, f2, f3, f4, f5, f6, f7⟩ := HX1.out.all4
    go_wp2_with fail
    exact src_done (x := ⟨2, [], [], 0⟩) rfl rfl rfl HX1.out HB1.out (Nat.le_refl _) rfl
  | false =>
  rw [if_neg (beq_eq_false_iff_ne.1 b2)]
  have hcs := fun W => suf_end s W hsm
  have hph := fun W => cmPhost_any s W hsm hsf
  obtain ⟨d, hd⟩ : ∃ d, s.drop (s.length - 1) = d := ⟨_, rfl⟩
  obtain ⟨p, hp⟩ : ∃ p, s.take (s.length - 1) = p := ⟨_, rfl⟩
  have hpl : p.length ≤ 100000000 := by rw [← hp, List.length_take]; omega
  have hpf : ∀ b ∈ p, Oct.low1 b = b := by rw [← hp]; exact fun b hb => hsf b (List.mem_of_mem_take hb)
  have hsc := fun W => cmScheme_any (bA p) W (by rw [bA_size]; exact hpl) hpf
  have hsc2 : ∀ W, Calls Tryz.prog 29 #[.string (bA p)] W fun e w' => e = .returned (.bool (Cm.scB p)) ∧ W = w' := hsc
  obtain ⟨H, hH⟩ : ∃ y, Cm.hostP s = y := ⟨_, rfl⟩
  obtain ⟨sc, hsc3⟩ : ∃ y, Cm.scB p = y := ⟨_, rfl⟩
  rw [hd, hp] at hcs
  rw [hH] at hph
  rw [hsc3] at hsc2
  rw [hd, hp, hsc3, hH]
  unfold srcV srcC at hph
  have HC := Lib.hid hcs; have HS := Lib.hid hsc2; have HPH := Lib.hid hph
  clear hcs hsc hsc2 hph hd hp hpf hpl hH hsc3 hsf hsm
  by_cases h58 : d = [58]
  · rw [if_pos h58, decide_eq_true h58] at HC
    cases sc with
    | true =>
      rw [if_pos ⟨h58, rfl⟩]
      clear HPH h58
      go_enter Tryz.func12, Tryz.ntmps12
      go_wp2_with fail
      refine (HL.out _).mono ?_
      rintro e w1 ⟨rfl, hb1⟩
      have HX1 := Lib.hid (HX0.out.keep hb1); have HB1 := Lib.hid (Below.onto HB0.out hb1)
      clear hb1
      go_wp2_with fail
      refine (HC.out _).mono ?_
      rintro e w2 ⟨rfl, rfl⟩
      go_wp2_with fail
      refine (HS.out _).mono ?_
      rintro e w2 ⟨rfl, rfl⟩
      obtain ⟨f0, f1, f2, f3, f4, f5, f6, f7⟩ := HX1.out.all4
      go_wp2_with fail
      exact src_done (x := ⟨3, p, [], 0⟩) rfl rfl rfl HX1.out HB1.out (Nat.le_refl _) rfl
    | false =>
      rw [if_neg (by simp)]
      clear h58
      go_enter Tryz.func12, Tryz.ntmps12
      go_wp2_with fail
      refine (HL.out _).mono ?_
      rintro e w1 ⟨rfl, hb1⟩
      have HX1 := Lib.hid (HX0.out.keep hb1); have HB1 := Lib.hid (Below.onto HB0.out hb1)
      clear hb1
      go_wp2_with fail
      refine (HC.out _).mono ?_
      rintro e w2 ⟨rfl, rfl⟩
      go_wp2_with fail
      refine (HS.out _).mono ?_
      rintro e w2 ⟨rfl, rfl⟩
      go_wp2_with fail
      refine (HPH.out _).mono ?_
      rintro e w3 ⟨rfl, hb3⟩
      have HX3 := Lib.hid (HX1.out.keep hb3); have HB3 := Lib.hid (Below.onto HB1.out hb3)
      clear hb3
      obtain ⟨f0, f1, f2, f3, f4, f5, f6, f7⟩ := HX3.out.all4
      go_wp2_with fail
      exact src_done (x := H) rfl rfl rfl HX3.out HB3.out (Nat.le_refl _) rfl
  · rw [if_neg h58, decide_eq_false h58] at HC
    rw [if_neg (fun e => h58 e.1)]
    clear h58 HS
    go_enter Tryz.func12, Tryz.ntmps12
    go_wp2_with fail
    refine (HL.out _).mono ?_
    rintro e w1 ⟨rfl, hb1⟩
    have HX1 := Lib.hid (HX0.out.keep hb1); have HB1 := Lib.hid (Below.onto HB0.out hb1)
    clear hb1
    go_wp2_with fail
    refine (HC.out _).mono ?_
    rintro e w2 ⟨rfl, rfl⟩
    go_wp2_with fail
    refine (HPH.out _).mono ?_
    rintro e w3 ⟨rfl, hb3⟩
    have HX3 := Lib.hid (HX1.out.keep hb3); have HB3 := Lib.hid (Below.onto HB1.out hb3)
    clear hb3
    obtain ⟨f0, f1, f2, f3, f4, f5, f6, f7⟩ := HX3.out.all4
    go_wp2_with fail
    exact src_done (x := H) rfl rfl rfl HX3.out HB3.out (Nat.le_refl _) rfl
end Go.Proofs.YtinjkpbpkedfnaaGreatDoor
