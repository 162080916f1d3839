/- The walk of the statement CspparseLines. -/
import Derived.Test.YtcmbckacbdiebaaCsLaws1
namespace Go.Proofs.Ytcmbckacbdiebaa
open Go.RowKit

theorem pols_fit {v : List UInt8} (hv : v.length ≤ 10000) : (∀ p ∈ Cs.pols v, FitP p) ∧ (Cs.pols v).length ≤ v.length + 1 := by
  constructor
  · intro p hp
    unfold Cs.pols at hp
    obtain ⟨q, h3, rfl⟩ := List.mem_map.1 (List.mem_filter.1 hp).1
    have h4 := Cs.part_len h3
    exact one_fit (by omega)
  · exact Nat.le_trans (Cs.pols_len v) (Oct.split_len Cs.comma v)
theorem apart_lt {x y : Option Nat} {B : Nat} (h1 : ∀ k, x = some k → k < B) (h2 : ∀ k, y = some k → B ≤ k) : x = none ∨ x ≠ y := by
  cases hx : x with
  | none => exact .inl rfl
  | some k =>
    right
    intro e
    have a := h1 k hx
    have b := h2 k e.symm
    omega
set_option maxHeartbeats 8000000 in
set_option maxRecDepth 20000 in
theorem walk_CspparseLines (a b : ByteArray) (w : World) (ha : a.size ≤ maxLen) (hb : b.size ≤ maxLen) :
    Calls Try.prog 8 #[.string a, .string b] w fun e w' => e = .returned (.bool true) ∧ Below w.heap.size w w' := by
  obtain ⟨S, rfl⟩ : ∃ S, a = bA S := ⟨a.data.toList, rfl⟩
  obtain ⟨T, rfl⟩ : ∃ T, b = bA T := ⟨b.data.toList, rfl⟩
  rw [bA_size] at ha hb
  unfold maxLen at ha hb
  by_cases hok : S.length ≤ 2000 ∧ T.length ≤ 2000
  · obtain ⟨hs, ht⟩ := hok
    have z1 : ¬ ((2000 : Int) < (S.length : Int)) := by omega
    have z2 : ¬ ((2000 : Int) < (T.length : Int)) := by omega
    have q1 : ¬ 9223372036854775807 < S.length + 1 := by omega
    have q2 : ¬ 9223372036854775807 < S.length + 1 + T.length := by omega
    have c2 := fun W => csHead_any (some ⟨W.heap.size, 0, none⟩) 2 2 [⟨Cs.nHG, S⟩, ⟨Cs.nHG, T⟩] _ rfl (small_two (by decide) (by omega) (by decide) (by omega)) (two_line W Cs.nHG S Cs.nHG T)
    have cS := fun W => csHead_any (some ⟨W.heap.size, 0, none⟩) 1 1 [⟨Cs.nHG, S⟩] _ rfl (small_one (by decide) (by omega)) (one_line W Cs.nHG S)
    have cT := fun W => csHead_any (some ⟨W.heap.size, 0, none⟩) 1 1 [⟨Cs.nHG, T⟩] _ rfl (small_one (by decide) (by omega)) (one_line W Cs.nHG T)
    have cU := fun W => csHead_any (some ⟨W.heap.size, 0, none⟩) 1 1 [⟨Cs.nHG, S ++ [44] ++ T⟩] _ rfl (small_one (by decide) (by simp; omega)) (one_line W Cs.nHG (S ++ [44] ++ T))
    have csp := fun W => split_comma (S ++ [44] ++ T) W (by simp; omega)
    have hlen := Cs.lines_len S T
    simp only [Cs.heads_two] at c2 hlen
    simp only [Cs.heads_one] at cS cT
    simp only [← Cs.heads_lines, Cs.heads_two] at cU
    obtain ⟨f1, l1⟩ := pols_fit (v := S) (by omega)
    obtain ⟨f2, l2⟩ := pols_fit (v := T) (by omega)
    have hf : ∀ p ∈ Cs.pols S ++ Cs.pols T, FitP p := fun p hp => (List.mem_append.1 hp).elim (f1 p) (f2 p)
    obtain ⟨PS, hPS⟩ : ∃ P, Cs.pols S = P := ⟨_, rfl⟩
    obtain ⟨PT, hPT⟩ : ∃ P, Cs.pols T = P := ⟨_, rfl⟩
    obtain ⟨U, hU⟩ : ∃ U, S ++ [44] ++ T = U := ⟨_, rfl⟩
    obtain ⟨sp, hsp⟩ : ∃ sp, Oct.split Cs.comma U = sp := ⟨_, rfl⟩
    rw [hU] at cU csp hlen
    rw [hsp] at csp hlen
    simp only [hPS, hPT] at c2 cS cT cU hf hlen l1 l2
    have hL : (PS ++ PT).length ≤ 5000 := by rw [List.length_append]; omega
    have hLm : PS.length + PT.length = (PS ++ PT).length := by rw [List.length_append]
    obtain ⟨L, hLd⟩ : ∃ L, PS ++ PT = L := ⟨_, rfl⟩
    rw [hLd] at hL hLm hf hlen
    simp only [hLd] at c2 cU
    have HLM := Lib.hid hLm; have HLD := Lib.hid hLd
    have hjoin : bA S ++ bA [44] ++ bA T = bA U := by rw [bA_app, bA_app, hU]
    have hle : (L.length : Int) ≤ (sp.length : Int) := by omega
    have C2 := Lib.hid c2; have CS := Lib.hid cS; have CT := Lib.hid cT; have CU := Lib.hid cU; have CP := Lib.hid csp; have HF := Lib.hid hf; have HJ := Lib.hid hjoin
    clear c2 cS cT cU csp hf f1 f2 hU hsp hPS hPT hjoin hlen l1 l2 hs ht ha hb hLm hLd
    go_enter Try.func8, Try.ntmps8
    go_wp2_with fail
    refine (awake10_any _).mono ?_
    rintro e w1 ⟨rfl, hb1⟩
    have HB1 := Lib.hid hb1
    clear hb1
    go_wp2_with fail
    refine (csp_line _ _).mono ?_
    rintro e w2 ⟨rfl, hb2⟩
    have HB2 := Lib.hid (Below.onto HB1.out hb2)
    clear hb2 HB1
    go_wp2_with fail
    refine (csp_line _ _).mono ?_
    rintro e w3 ⟨rfl, hb3⟩
    have HB3 := Lib.hid (Below.onto HB2.out hb3)
    clear hb3 HB2
    go_wp2_with fail
    refine (C2.out w3).mono ?_
    rintro e w4 ⟨v4, rfl, hb4, ho4⟩
    obtain ⟨A4, c4, rfl⟩ := ho4.slice
    have HB4 := Lib.hid (Below.onto1 HB3.out hb4); have HO4 := Lib.hid ho4
    clear hb4 HB3 ho4 C2
    go_wp2_with fail
    refine (csp_line _ _).mono ?_
    rintro e w5 ⟨rfl, hb5⟩
    have HB5 := Lib.hid (Below.onto HB4.out hb5); have HB5L := Lib.hid (Below.onto HB4.out hb5).size; have HO5 := Lib.hid (HO4.out.below hb5); have HLT := Lib.hid (fun k hk => ((HO4.out.below hb5).lt k hk).2)
    clear hb5 HB4 HO4
    go_wp2_with fail
    refine (CS.out w5).mono ?_
    rintro e w6 ⟨v6, rfl, hb6, ho6⟩
    obtain ⟨A6, c6, rfl⟩ := ho6.slice
    have hb6' : Below w5.heap.size w5 w6 := Below.onto1 (Below.refl _ w5) hb6
    have HB6 := Lib.hid (Below.onto HB5.out hb6'); have HO6 := Lib.hid (HO5.out.below hb6'); have HL6 := Lib.hid hb6'.size; have HS6 := Lib.hid (ho6.base (base' := w5.heap.size) (by simp))
    clear hb6 hb6' HB5 HO5 ho6 CS
    go_wp2_with fail
    refine (csp_line _ _).mono ?_
    rintro e w7 ⟨rfl, hb7⟩
    have HB7 := Lib.hid (Below.onto HB6.out hb7); have HO7 := Lib.hid (HO6.out.below hb7); have HS7 := Lib.hid (HS6.out.below hb7); have HL7 := Lib.hid (Nat.le_trans HL6.out hb7.size)
    clear hb7 HB6 HO6 HS6
    go_wp2_with fail
    refine (CT.out w7).mono ?_
    rintro e w8 ⟨v8, rfl, hb8, ho8⟩
    obtain ⟨A8, c8, rfl⟩ := ho8.slice
    have hb8' : Below w7.heap.size w7 w8 := Below.onto1 (Below.refl _ w7) hb8
    have HB8 := Lib.hid (Below.onto HB7.out hb8'); have HO8 := Lib.hid (HO7.out.below hb8'); have hS8 := HS7.out.below hb8'; have HL8 := Lib.hid (Nat.le_trans HL7.out hb8'.size)
    have h8le : w5.heap.size ≤ w8.heap.size := HL8.out
    clear hb8 hb8' HB7 HO7 HS7 CT
    have hm : L.length ≤ maxLen := by unfold maxLen; omega
    go_wp2_with (at_builtin; refine wp_appP rfl _ _ rfl _ _ PS PT rfl hS8 _ A8 PT.length c8 L.length rfl rfl ho8 HLM.out hm (by omega) h8le ?_; intro A9 c9 w9 hown9 hbb9 hg9 hk9)
    have ho9 := HO8.out.keptBy hg9 (apart_lt HLT.out fun k hk => (hS8.lt k hk).1) hk9
    have HB9 := Lib.hid ((HB8.out.trans (hbb9.mono HB5L.out)) : Below w.heap.size w w9)
    have HT9 := Lib.hid ho9.seen
    have HE9 : Hid (SeenPs w9 A9 L) := Lib.hid (by have h := hown9; rw [HLD.out] at h; exact h.seen)
    have e : bA S ++ ({ data := #[44] } : ByteArray) ++ bA T = bA U := HJ.out
    have HE := Lib.hid e
    clear hown9 hbb9 hg9 hk9 hS8 HO8 HB8 ho8 ho9 e
    rw [HE.out]
    refine (csp_line _ _).mono ?_
    rintro e w10 ⟨rfl, hb10⟩
    have HB10 := Lib.hid (Below.onto HB9.out hb10); have HT10 := Lib.hid (HT9.out.below hb10); have HE10 := Lib.hid (HE9.out.below hb10)
    clear hb10 HB9 HT9 HE9
    go_wp2_with fail
    refine (CU.out w10).mono ?_
    rintro e w11 ⟨v11, rfl, hb11, ho11⟩
    obtain ⟨A11, c11, rfl⟩ := ho11.slice
    have hb11' : Below w10.heap.size w10 w11 := Below.onto1 (Below.refl _ w10) hb11
    have HB11 := Lib.hid (Below.onto HB10.out hb11'); have HT11 := Lib.hid (HT10.out.below hb11'); have HE11 := Lib.hid (HE10.out.below hb11'); have HU11 := Lib.hid ho11.seen
    clear hb11 hb11' HB10 HT10 HE10 ho11 CU
    go_wp2_with fail
    refine (sameL_self A4 A9 c4 c9 L _ (by omega) HF.out HT11.out HE11.out).mono ?_
    rintro e w12 ⟨rfl, hb12⟩
    have HB12 := Lib.hid (Below.onto HB11.out hb12); have HT12 := Lib.hid (HT11.out.below hb12); have HU12 := Lib.hid (HU11.out.below hb12)
    clear hb12 HB11 HT11 HE11 HU11
    go_wp2_with fail
    refine (sameL_self A4 A11 c4 c11 L _ (by omega) HF.out HT12.out HU12.out).mono ?_
    rintro e w13 ⟨rfl, hb13⟩
    have HB13 := Lib.hid (Below.onto HB12.out hb13)
    clear hb13 HB12 HT12 HU12
    go_wp2_with fail
    rw [HE.out]
    refine (CP.out _).mono ?_
    rintro e w14 ⟨v14, rfl, hb14, hr14⟩
    obtain ⟨A14, c14, rfl, _⟩ := own_cap hr14
    have HB14 := Lib.hid (Below.onto HB13.out hb14)
    clear hb14 hr14 HB13 CP
    go_wp2_with fail
    go_ret
    exact ⟨rfl, HB14.out⟩
  · have HB : (2000 : Int) < (S.length : Int) ∨ (¬ (2000 : Int) < (S.length : Int) ∧ (2000 : Int) < (T.length : Int)) := by omega
    rcases HB with z1 | ⟨z1, z2⟩
    all_goals
      clear hok
      go_enter Try.func8, Try.ntmps8
      go_wp2_with fail
      refine (awake10_any _).mono ?_
      rintro e w1 ⟨rfl, hb1⟩
      have HB1 := Lib.hid hb1
      clear hb1
      go_wp2_with fail
      go_ret
      exact ⟨rfl, HB1.out⟩
end Go.Proofs.Ytcmbckacbdiebaa
