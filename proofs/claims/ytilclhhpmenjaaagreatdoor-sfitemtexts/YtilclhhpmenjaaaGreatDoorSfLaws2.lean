/- The walks of SfitemNumbers and SfitemTexts. -/
import Derived.Test.YtilclhhpmenjaaaGreatDoorSfAwake
import Derived.OpenShut
namespace Go.Proofs.YtilclhhpmenjaaaGreatDoor
open Go.RowKit Go.Shelf Go.Maps Go.Deep

theorem small_nil {k n : Int} {t : List UInt8} (h0 : -9223372036854775808 ≤ n) (h1 : n ≤ 9223372036854775807) (ht : t.length ≤ 10000) : SmallI k n t [] := ⟨h0, h1, ht, by simp, by simp⟩
theorem text_bare (k n : Int) (t : List UInt8) : Sf.text ⟨k, n, t, []⟩ = Sf.vtext k n t := by
  unfold Sf.text
  cases h : Sf.vtext k n t with
  | none => rfl
  | some a => rw [Sf.tailF]; simp
theorem seen_nil (w : World) (A : Option Addr) : SeenP w A [] := fun h => by simp at h
/-- Text of an item without parameters. -/
theorem text_bare_any (k n : Int) (t : List UInt8) (w : World) (h0 : -9223372036854775808 ≤ n) (h1 : n ≤ 9223372036854775807) (ht : t.length ≤ 10000) (hT : Tab w) (hM : TabM w) :
    Calls Tryz.prog 24 #[.agg #[.int .i64 k, .int .i64 n, .string (bA t), .slice none 0 0]] w fun e w' => e = .returned (textV (Sf.vtext k n t)) ∧ Below w.heap.size w w' := by
  have := text_any k n t none 0 [] w (small_nil h0 h1 ht) (seen_nil _ _) hT hM
  rw [text_bare] at this
  exact this
theorem parse_bare {k n : Int} {t v : List UInt8} (h : Sf.vtext k n t = some v) (hv : v.length ≤ 4000) : Sf.parse v = some ⟨k, n, t, []⟩ := Sf.parse_text (x := ⟨k, n, t, []⟩) (by rw [text_bare]; exact h) hv
theorem vt1_no {n : Int} (h : ¬ (-999999999999999 ≤ n ∧ n ≤ 999999999999999)) : Sf.vtext 1 n [] = none := by
  cases hv : Sf.vtext 1 n [] with
  | none => rfl
  | some v => have := Sf.vtext_num hv; unfold Sf.maxN at this; omega
theorem vt2_no {n : Int} (h : ¬ (-999999999999999 ≤ n ∧ n ≤ 999999999999999)) : Sf.vtext 2 n [] = none := by
  cases hv : Sf.vtext 2 n [] with
  | none => rfl
  | some v => have := Sf.vtext_num hv; unfold Sf.maxN at this; omega
theorem vt1_len {n : Int} (h : -999999999999999 ≤ n ∧ n ≤ 999999999999999) : (Lib.itoa n).length ≤ 4000 := by have := itoa_short n (by omega) (by omega); omega
theorem vt2_len {n : Int} (h : -999999999999999 ≤ n ∧ n ≤ 999999999999999) : (Sf.decT n).length ≤ 4000 := by
  unfold Sf.decT
  have e3 := Sf.dec_len (n.natAbs / 1000) 20 (by omega) (by omega)
  have e4 := (Sf.frac_good (f := n.natAbs % 1000) (by omega)).2.2.1
  simp only [List.length_append, List.length_cons]
  split <;> simp <;> omega

set_option maxHeartbeats 4000000 in
set_option maxRecDepth 100000 in
theorem walk_SfitemNumbers (n : Int) (w : World) (hn : (Lit.int .i64 n).wf = true) (hT : Tab w) (hM : TabM w) : Calls Tryz.prog 10 #[.int .i64 n] w fun e w' => e = .returned (.bool true) ∧ Below w.heap.size w w' := by
  obtain ⟨h0, h1⟩ : -9223372036854775808 ≤ n ∧ n ≤ 9223372036854775807 := bounds_i64 hn
  have H := Lib.hid (awake_any w hT hM)
  have HT := Lib.hid hT; have HM := Lib.hid hM
  have H1 := Lib.hid (fun (W : World) (a : Tab W) (b : TabM W) => text_bare_any 1 n [] W h0 h1 (by simp) a b)
  have H2 := Lib.hid (fun (W : World) (a : Tab W) (b : TabM W) => text_bare_any 2 n [] W h0 h1 (by simp) a b)
  clear hT hM hn
  by_cases hf : -999999999999999 ≤ n ∧ n ≤ 999999999999999
  · rw [Sf.vt1 hf.1 hf.2] at H1
    rw [Sf.vt2 hf.1 hf.2] at H2
    have H3 := Lib.hid (fun W => parse_some (parse_bare (Sf.vt1 hf.1 hf.2) (vt1_len hf)) W)
    have H4 := Lib.hid (fun W => parse_some (parse_bare (Sf.vt2 hf.1 hf.2) (vt2_len hf)) W)
    obtain ⟨s, hs⟩ : ∃ s, Lib.itoa n = s := ⟨_, rfl⟩
    obtain ⟨t, ht⟩ : ∃ t, Sf.decT n = t := ⟨_, rfl⟩
    rw [hs] at H1 H3
    rw [ht] at H2 H4
    obtain ⟨f0, f1⟩ := hf
    clear hs ht h0 h1
    go_enter Tryz.func10, Tryz.ntmps10
    go_wp2_with fail
    refine H.out.mono ?_
    rintro e w1 ⟨rfl, hb1⟩
    have HB1 := Lib.hid hb1
    clear hb1
    go_wp2_with fail
    refine (H1.out _ (HT.out.below HB1.out) (HM.out.below HB1.out)).mono ?_
    rintro e w2 ⟨rfl, hb2⟩
    have HB2 := Lib.hid (onto HB1.out hb2)
    clear hb2 H1
    unfold textV
    go_wp2_with fail
    refine (H2.out _ (HT.out.below HB2.out) (HM.out.below HB2.out)).mono ?_
    rintro e w3 ⟨rfl, hb3⟩
    have HB3 := Lib.hid (onto HB2.out hb3)
    clear hb3 H2
    unfold textV
    go_wp2_with fail
    refine (H3.out _).mono ?_
    rintro e w4 ⟨A, c, rfl, hb4, ho4⟩
    have HB4 := Lib.hid (below_al (onto HB3.out hb4) (.cells (iC 1 n [] (.slice A 0 c)) 25))
    have HX4 := Lib.hid (CBox.new w4 25 (iC 1 n [] (.slice A 0 c)))
    clear hb4 ho4 H3
    go_wp2_with fail
    refine (H4.out _).mono ?_
    rintro e w5 ⟨A2, c2, rfl, hb5, ho5⟩
    have HB5 := Lib.hid (below_al (onto HB4.out hb5) (.cells (iC 2 n [] (.slice A2 0 c2)) 25))
    have hx5 := HX4.out.keep hb5
    have hlt := hx5.lt
    obtain ⟨d0, d1, d2, d3, _, _, _, _⟩ := hx5.all4
    have hne : ¬ w4.heap.size = w5.heap.size := by omega
    clear hb5 ho5 H4 hx5 HX4
    go_wp2_with fail
    go_ret
    exact ⟨rfl, HB5.out⟩
  · rw [vt1_no hf] at H1
    rw [vt2_no hf] at H2
    go_enter Tryz.func10, Tryz.ntmps10
    go_wp2_with fail
    refine H.out.mono ?_
    rintro e w1 ⟨rfl, hb1⟩
    have HB1 := Lib.hid hb1
    clear hb1
    by_cases hf0 : -999999999999999 ≤ n
    · have hf1 : decide (n ≤ 999999999999999) = false := decide_eq_false (fun h => hf ⟨hf0, h⟩)
      clear hf
      go_wp2_with fail
      refine (H1.out _ (HT.out.below HB1.out) (HM.out.below HB1.out)).mono ?_
      rintro e w2 ⟨rfl, hb2⟩
      have HB2 := Lib.hid (onto HB1.out hb2)
      clear hb2 H1
      unfold textV
      go_wp2_with fail
      refine (H2.out _ (HT.out.below HB2.out) (HM.out.below HB2.out)).mono ?_
      rintro e w3 ⟨rfl, hb3⟩
      have HB3 := Lib.hid (onto HB2.out hb3)
      clear hb3 H2
      unfold textV
      go_wp2_with fail
      go_ret
      exact ⟨rfl, HB3.out⟩
    · clear hf
      go_wp2_with fail
      refine (H1.out _ (HT.out.below HB1.out) (HM.out.below HB1.out)).mono ?_
      rintro e w2 ⟨rfl, hb2⟩
      have HB2 := Lib.hid (onto HB1.out hb2)
      clear hb2 H1
      unfold textV
      go_wp2_with fail
      refine (H2.out _ (HT.out.below HB2.out) (HM.out.below HB2.out)).mono ?_
      rintro e w3 ⟨rfl, hb3⟩
      have HB3 := Lib.hid (onto HB2.out hb3)
      clear hb3 H2
      unfold textV
      go_wp2_with fail
      go_ret
      exact ⟨rfl, HB3.out⟩

theorem pr_next (s : ByteArray) (k : Nat) (h : k < s.size) : Oct.allB Sf.prI (s.data.toList.take (k + 1)) = (Oct.allB Sf.prI (s.data.toList.take k) && Sf.prI s[k].toNat) := by
  have h' : k < s.data.toList.length := by simpa using h
  rw [List.take_succ_eq_append_getElem h', Sf.allB_app]
  congr 1
  simp [Oct.allB]
  rfl
theorem vt3_no {t : List UInt8} (h : Oct.allB Sf.prI t = false) : Sf.vtext 3 0 t = none := by
  unfold Sf.vtext
  split
  · rfl
  · simp [h]
set_option maxHeartbeats 4000000 in
set_option maxRecDepth 100000 in
theorem walk_SfitemTexts (s : ByteArray) (w : World) (hs : s.size ≤ maxLen) (hT : Tab w) (hM : TabM w) : Calls Tryz.prog 11 #[.string s] w fun e w' => e = .returned (.bool true) ∧ Below w.heap.size w w' := by
  unfold maxLen at hs
  have H := Lib.hid (awake_any w hT hM)
  have HT := Lib.hid hT; have HM := Lib.hid hM
  clear hT hM
  by_cases hl : 1000 < s.size
  · have hl' : (1000 : Int) < (s.size : Int) := by omega
    go_enter Tryz.func11, Tryz.ntmps11
    go_wp2_with fail
    refine H.out.mono ?_
    rintro e w1 ⟨rfl, hb1⟩
    go_wp2_with fail
    go_ret
    exact ⟨rfl, hb1⟩
  · have hl' : (s.size : Int) ≤ 1000 := by omega
    have H1 := Lib.hid (fun (W : World) (a : Tab W) (b : TabM W) => text_bare_any 3 0 s.data.toList W (by omega) (by omega) (by simp; omega) a b)
    go_enter Tryz.func11, Tryz.ntmps11
    go_wp2_with fail
    refine H.out.mono ?_
    rintro e w1 ⟨rfl, hb1⟩
    have HB1 := Lib.hid hb1
    clear hb1
    go_wp2_with fail
    go_loop [4, 5] (fun p i => ∃ k : Nat, k ≤ s.size ∧ i = .int .i64 k ∧ p = .bool (Oct.allB Sf.prI (s.data.toList.take k))) (fun _ i => s.size - (intOf i).toNat)
    case atStart => exact ⟨0, Nat.zero_le _, rfl, rfl⟩
    case round =>
      obtain ⟨k, hk, rfl, rfl⟩ := hrel
      by_cases hlt : k < s.size
      · have HN := Lib.hid (pr_next s k hlt)
        obtain ⟨b, hb⟩ : ∃ b, Oct.allB Sf.prI (s.data.toList.take k) = b := ⟨_, rfl⟩
        rw [hb] at HN ⊢
        clear hb
        cases b with
        | false =>
          go_wp2_with fail
          go_round
          case rel => exact ⟨k + 1, by omega, by go_num, by rw [HN.out]; rfl⟩
          case measure => simp [intOf]; omega
        | true =>
          by_cases h32 : (32 : Int) ≤ (s[k].toNat : Int)
          · go_wp2_with fail
            go_round
            case rel =>
              refine ⟨k + 1, by omega, by go_num, ?_⟩
              rw [HN.out]
              simp [Sf.prI]
              omega
            case measure => simp [intOf]; omega
          · have h32' : decide ((32 : Int) ≤ (s[k].toNat : Int)) = false := decide_eq_false h32
            go_wp2_with fail
            go_round
            case rel =>
              refine ⟨k + 1, by omega, by go_num, ?_⟩
              rw [HN.out]
              simp [Sf.prI]
              omega
            case measure => simp [intOf]; omega
      · have e1 : s.data.toList.take k = s.data.toList := List.take_of_length_le (by simp; omega)
        rw [e1]
        obtain ⟨l, hsl⟩ : ∃ l, s.data.toList = l := ⟨_, rfl⟩
        have hsb : s = bA l := by rw [← hsl]
        rw [hsl] at H1 ⊢
        clear e1 hsl
        subst hsb
        cases hp : Oct.allB Sf.prI l with
        | true =>
          have hv := Sf.vt3 hp
          rw [hv] at H1
          have hel := esc_len l
          have hll : l.length ≤ 1000 := by simpa [bA_size] using hl
          have H3 := Lib.hid (fun W => parse_some (parse_bare hv (by simp; omega)) W)
          obtain ⟨t, ht⟩ : ∃ t, 34 :: (Sf.esc l ++ [34]) = t := ⟨_, rfl⟩
          rw [ht] at H1 H3
          clear hp hv ht hel
          go_wp2_with fail
          refine (H1.out _ (HT.out.below HB1.out) (HM.out.below HB1.out)).mono ?_
          rintro e w2 ⟨rfl, hb2⟩
          have HB2 := Lib.hid (onto HB1.out hb2)
          clear hb2 H1
          unfold textV
          go_wp2_with fail
          refine (H3.out _).mono ?_
          rintro e w3 ⟨A, c, rfl, hb3, ho3⟩
          have HB3 := Lib.hid (below_al (onto HB2.out hb3) (.cells (iC 3 0 l (.slice A 0 c)) 25))
          clear hb3 ho3 H3
          go_wp2_with fail
          go_ret
          exact ⟨rfl, HB3.out⟩
        | false =>
          rw [vt3_no hp] at H1
          clear hp
          go_wp2_with fail
          refine (H1.out _ (HT.out.below HB1.out) (HM.out.below HB1.out)).mono ?_
          rintro e w2 ⟨rfl, hb2⟩
          have HB2 := Lib.hid (onto HB1.out hb2)
          clear hb2 H1
          unfold textV
          go_wp2_with fail
          go_ret
          exact ⟨rfl, HB2.out⟩
end Go.Proofs.YtilclhhpmenjaaaGreatDoor
