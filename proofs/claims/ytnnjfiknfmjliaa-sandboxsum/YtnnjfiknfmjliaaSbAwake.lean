/- The contracts of the statements' short, and of their head (awake). -/
import Derived.Test.YtnnjfiknfmjliaaSbCode
namespace Go.Proofs.Ytnnjfiknfmjliaa
open Go.RowKit

/-- Are words few and short? -/
def shortB (ws : List (List UInt8)) : Bool := decide (ws.length ≤ 200) && ws.all fun t => decide (t.length ≤ 200)
structure ShortW (ws : List (List UInt8)) : Prop where
  len : ws.length ≤ 200
  each : ∀ t ∈ ws, t.length ≤ 200
theorem short_is {ws : List (List UInt8)} (h : shortB ws = true) : ShortW ws := by
  unfold shortB at h
  simp only [Bool.and_eq_true, decide_eq_true_eq, List.all_eq_true] at h
  exact ⟨h.1, h.2⟩
theorem short_of {ws : List (List UInt8)} (h1 : ws.length ≤ 200) (h2 : (ws.all fun t => decide (t.length ≤ 200)) = true) : shortB ws = true := by
  unfold shortB; rw [h2, decide_eq_true h1]; rfl
theorem short_no {ws : List (List UInt8)} (h : 200 < ws.length ∨ (ws.all fun t => decide (t.length ≤ 200)) = false) : shortB ws = false := by
  unfold shortB
  rcases h with h | h
  · rw [decide_eq_false (by omega : ¬ ws.length ≤ 200)]; rfl
  · rw [h, Bool.and_false]
set_option maxHeartbeats 2000000 in
theorem short_any (A : Option Addr) (c : Nat) (ws : List (List UInt8)) (w : World) (hA : SeenT w A ws) : Calls Try.prog 10 #[.slice A ws.length c] w fun e w' => e = .returned (.bool (shortB ws)) ∧ w = w' := by
  have HA := Lib.hid hA
  clear hA
  by_cases q1 : 200 < ws.length
  · have hn := Lib.hid (short_no (ws := ws) (.inl q1))
    have q1' : (200 : Int) < (ws.length : Int) := by omega
    go_enter Try.func10, Try.ntmps10
    go_wp2_with fail
    go_ret
    exact ⟨by rw [hn.out]; rfl, rfl⟩
  have q1' : ¬ (200 : Int) < (ws.length : Int) := by omega
  have hwl : ws.length ≤ 200 := by omega
  clear q1
  go_enter Try.func10, Try.ntmps10
  go_wp2_with fail
  clear q1'
  go_loopw [3] (fun i wr => ∃ k : Nat, k ≤ ws.length ∧ i = .int .i64 k ∧ Hid ((ws.take k).all (fun t => decide (t.length ≤ 200)) = true) ∧ wr = w) (fun i _ => ws.length - (intOf i).toNat)
  case atStart => exact ⟨0, by omega, rfl, Lib.hid rfl, rfl⟩
  case round =>
    obtain ⟨k, hk, rfl, hal, rfl⟩ := hrel
    by_cases hlt : k < ws.length
    · obtain ⟨g, q, rfl, hg, hc⟩ := HA.out (by omega)
      have hce : wr.cell? ⟨g, q + k, none⟩ = some (Oct.strV ws[k]) := hc k hlt
      have hmiss : 200 < ws[k].length → (ws.all fun t => decide (t.length ≤ 200)) = false := fun h => List.all_eq_false.2 ⟨_, List.getElem_mem hlt, by simp; omega⟩
      have hnext : ¬ 200 < ws[k].length → ((ws.take (k + 1)).all fun t => decide (t.length ≤ 200)) = true := fun h => by rw [List.take_succ_eq_append_getElem hlt, List.all_append, hal.out]; simp; omega
      obtain ⟨t, ht⟩ : ∃ t, ws[k] = t := ⟨_, rfl⟩
      rw [ht] at hce hmiss hnext
      unfold Oct.strV at hce
      have hce : wr.cell? ⟨g, q + k, none⟩ = some (.string (bA t)) := hce
      clear hc ht
      by_cases q3 : 200 < t.length
      · have hn := Lib.hid (short_no (ws := ws) (.inr (hmiss q3)))
        have q3' : (200 : Int) < (t.length : Int) := by omega
        clear hmiss hnext
        go_wp2_with fail
        go_ret
        exact ⟨by rw [hn.out]; rfl, rfl⟩
      · have hn := Lib.hid (hnext q3)
        have q3' : ¬ (200 : Int) < (t.length : Int) := by omega
        clear hmiss hnext
        go_wp2_with fail
        exact ⟨⟨k + 1, by omega, by go_num, hn, trivial⟩, by simp [intOf]; omega⟩
    · obtain rfl : k = ws.length := by omega
      have hn := hal.out
      rw [List.take_of_length_le (Nat.le_refl _)] at hn
      have HN := Lib.hid (short_of hwl hn)
      clear hal hn
      go_wp2_with fail
      go_ret
      exact ⟨by rw [HN.out]; rfl, rfl⟩

/-! ### what the document fixes -/
def swF : List UInt8 := [97, 108, 108, 111, 119, 45, 102, 111, 114, 109, 115]
def swS : List UInt8 := [65, 108, 108, 111, 119, 45, 83, 99, 114, 105, 112, 116, 115]
def swX : List UInt8 := [120]
def swP : List Cs.Pol := [⟨false, [], true, []⟩, ⟨false, [], true, [swF]⟩, ⟨false, [], false, []⟩]
theorem sw_words : Sb.words 61 = [Sb.n1] := by decide +kernel
theorem sw_none : Sb.flags [] = 63 := by decide +kernel
theorem sw_one : Sb.flags [swS, swX] = 62 := by decide +kernel
theorem sw_all : Sb.all swP = 63 := by decide +kernel
theorem sw_63 : Sb.popup 63 = 63 := by decide +kernel
theorem sw_15 : Sb.popup 15 = 0 := by decide +kernel
theorem seen_two1 (w : World) (a b : List UInt8) : SeenT (w.alloc (.cells #[.string (bA a), .string (bA b)] 9)) (some ⟨w.heap.size, 0, none⟩) [a, b] := fun _ =>
  ⟨w.heap.size, 0, rfl, by simp, fun i hi => by
    have hi' : i < 2 := hi
    match i, hi' with
    | 0, _ => exact (CBox.new w 9 #[.string (bA a), .string (bA b)]).c 0
    | 1, _ => exact (CBox.new w 9 #[.string (bA a), .string (bA b)]).c 1⟩
def swC (A : Option Addr) : Array Value := #[.bool false, .slice none 0 0, .bool true, .slice none 0 0, .bool false, .slice none 0 0, .bool true, .slice A 1 1, .bool false, .slice none 0 0, .bool false, .slice none 0 0]
theorem seen_swP {W : World} {B : Nat} {A : Option Addr} (h : CBox W B 32 (swC A)) (hs : SeenT W A [swF]) : SeenPo W (some ⟨B, 0, none⟩) swP := by
  have hr : RowQ W swP (swC A).toList := ⟨none, 0, none, 0, _, rfl, SeenT.nil _ _, SeenT.nil _ _, none, 0, A, 1, _, rfl, SeenT.nil _ _, hs, none, 0, none, 0, [], rfl, SeenT.nil _ _, SeenT.nil _ _, rfl⟩
  refine hr.seen h.lt fun j u hu => ?_
  have := h.c j
  rw [Nat.zero_add, this, ← hu]
  simp
set_option maxHeartbeats 4000000 in
set_option maxRecDepth 20000 in
theorem awake12_any (w : World) : Calls Try.prog 9 #[] w fun e w' => e = .returned (.bool true) ∧ Below w.heap.size w w' := by
  have HW := Lib.hid (fun W => sbWords_any 61 W)
  have cf0 := fun W => sbFlags_any none 0 [] W (by decide) (fun _ h => by cases h) (SeenT.nil W none)
  have cf1 := fun A c W h => sbFlags_any A c [swS, swX] W (by decide) (by decide) h
  have ca := fun A c W h => sbAll_any A c swP W (by decide) (by decide) h
  have cp := fun W => sbPopup_any 63 W
  have cq := fun W => sbPopup_any 15 W
  rw [sw_words] at HW
  rw [sw_none] at cf0
  rw [sw_one] at cf1
  rw [sw_all] at ca
  rw [sw_63] at cp
  rw [sw_15] at cq
  have HF0 := Lib.hid cf0; have HF1 := Lib.hid cf1; have HA := Lib.hid ca; have HP := Lib.hid cp; have HQ := Lib.hid cq
  clear cf0 cf1 ca cp cq
  have hs0 := seen_fresh1 w swF
  have hb0 : Below w.heap.size w ((w.alloc (.cells #[.string (bA swF)] 9)).alloc (.cells (swC (some ⟨w.heap.size, 0, none⟩)) 32)) := ((Below.refl _ w).alloc (Nat.le_refl _) _).alloc (by simp) _
  have hx0 := CBox.new (w.alloc (.cells #[.string (bA swF)] 9)) 32 (swC (some ⟨w.heap.size, 0, none⟩))
  have hl0 := seen_swP hx0 (hs0.below ((Below.refl _ _).alloc (Nat.le_refl _) _))
  rw [World.size_alloc] at hl0
  have HB0 := Lib.hid hb0; have HL0 := Lib.hid hl0
  clear hs0 hb0 hx0 hl0
  go_enter Try.func9, Try.ntmps9
  go_wp2_with fail
  refine (HW.out _).mono ?_
  rintro e w1 ⟨v, rfl, hb1, hr1⟩
  obtain ⟨A1, c1, rfl, _⟩ := own_cap hr1
  have HB1 := Lib.hid (Below.onto HB0.out hb1); have HL1 := Lib.hid (HL0.out.below hb1); have HT1 := Lib.hid (own_texts hr1).seen
  clear hb1 hr1 HB0 HL0 HW
  go_wp2_with fail
  refine (HF0.out _).mono ?_
  rintro e w2 ⟨rfl, hb2⟩
  have HB2 := Lib.hid (Below.onto HB1.out hb2); have HL2 := Lib.hid (HL1.out.below hb2); have HT2 := Lib.hid (HT1.out.below hb2)
  clear hb2 HB1 HL1 HT1 HF0
  go_wp2_with fail
  refine (HF1.out _ _ _ (seen_two1 _ _ _)).mono ?_
  rintro e w3 ⟨rfl, hb3⟩
  have ba := (Below.refl w2.heap.size w2).alloc (Nat.le_refl _) (.cells #[.string (bA swS), .string (bA swX)] 9)
  have HB3 := Lib.hid (Below.onto (Below.onto HB2.out ba) hb3); have HL3 := Lib.hid ((HL2.out.below ba).below hb3); have HT3 := Lib.hid ((HT2.out.below ba).below hb3)
  clear hb3 ba HB2 HL2 HT2 HF1
  go_wp2_with fail
  refine (HA.out _ _ _ HL3.out).mono ?_
  rintro e w4 ⟨rfl, hb4⟩
  have HB4 := Lib.hid (Below.onto HB3.out hb4); have HT4 := Lib.hid (HT3.out.below hb4)
  clear hb4 HB3 HL3 HT3 HA
  go_wp2_with fail
  refine (HP.out _).mono ?_
  rintro e w5 ⟨rfl, hb5⟩
  have HB5 := Lib.hid (Below.onto HB4.out hb5); have HT5 := Lib.hid (HT4.out.below hb5)
  clear hb5 HB4 HT4 HP
  go_wp2_with fail
  refine (HQ.out _).mono ?_
  rintro e w6 ⟨rfl, hb6⟩
  have hB6 := Below.onto HB5.out hb6
  obtain ⟨g, q, rfl, hg, hc⟩ := (HT5.out.below hb6) (by simp)
  have hz : w6.cell? ⟨g, q, none⟩ = some (.string (bA Sb.n1)) := hc 0 (by simp)
  clear hb6 HB5 HT5 HQ hc
  go_wp2_with fail
  go_ret
  exact ⟨rfl, hB6⟩
end Go.Proofs.Ytnnjfiknfmjliaa
