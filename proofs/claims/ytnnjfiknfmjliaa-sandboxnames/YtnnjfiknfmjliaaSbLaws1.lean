/- The walks of the statements on flags' numbers, on words and flags, there and back. -/
import Derived.Test.YtnnjfiknfmjliaaSbAwake
import Derived.Test.YtnnjfiknfmjliaaTxSame
namespace Go.Proofs.Ytnnjfiknfmjliaa
open Go.ChangeShapes Go.WideShapes Go.ChangeAt Go.RowKit

theorem walk_SandboxNames (w : World) : Calls Try.prog 3 #[] w fun e w' => e = .returned (.bool true) ∧ Below w.heap.size w w' := by
  go_enter Try.func3, Try.ntmps3
  go_wp2_with fail
  refine (awake12_any _).mono ?_
  rintro e w1 ⟨rfl, hb1⟩
  go_wp2_with fail
  go_ret
  exact ⟨rfl, hb1⟩
theorem words_few (x : Int) : (Sb.words x).length ≤ 6 := wordsTo_len x 6
theorem words_short (x : Int) : ∀ t ∈ Sb.words x, t.length ≤ 100 := fun t ht => by
  unfold Sb.words at ht
  obtain ⟨i, hi, rfl⟩ := List.mem_map.1 ht
  have h : i < 6 := List.mem_range.1 (List.mem_filter.1 hi).1
  match i, h with
  | 0, _ => decide
  | 1, _ => decide
  | 2, _ => decide
  | 3, _ => decide
  | 4, _ => decide
  | 5, _ => decide
set_option maxHeartbeats 4000000 in
theorem walk_SandboxTells (A : Option Addr) (c : Nat) (ws : List (List UInt8)) (x : Int) (w : World) (ha : WideTs w A c ws) (hx : (Lit.int .i64 x).wf = true) :
    Calls Try.prog 4 #[.slice A ws.length c, .int .i64 x] w fun e w' => e = .returned (.bool true) ∧ Below w.heap.size w w' := by
  obtain ⟨x0, x1⟩ := bounds_i64 hx
  have HA := Lib.hid ha.seen
  have HSH := Lib.hid (fun W h => short_any A c ws W h)
  have HW1 := Lib.hid (fun W => sbWords_any x W)
  have HW2 := Lib.hid (fun W => rwords_any x W)
  have cf1 := fun W (q : ShortW ws) hA => sbFlags_any A c ws W (Nat.le_trans q.len (by decide)) (fun t ht => Nat.le_trans (q.each t ht) (by decide)) hA
  have cf2 := fun W (q : ShortW ws) hA => rflags_any A c ws W (Nat.le_trans q.len (by decide)) (fun t ht => Nat.le_trans (q.each t ht) (by decide)) hA
  have cp1 := fun W => sbPopup_any x W
  have cp2 := fun W => rpopup_any x W
  have hwl := words_few x
  have hsm := fun A1 A2 c1 c2 W h1 h2 => texts_self A1 A2 c1 c2 (Sb.words x) W (by omega) h1 h2
  obtain ⟨f, hf⟩ : ∃ f, Sb.flags ws = f := ⟨_, rfl⟩
  obtain ⟨p, hp⟩ : ∃ f, Sb.popup x = f := ⟨_, rfl⟩
  obtain ⟨l, hl⟩ : ∃ f, Sb.words x = f := ⟨_, rfl⟩
  rw [hf] at cf1 cf2; rw [hp] at cp1 cp2; rw [hl] at HW1 HW2 hsm
  have HF1 := Lib.hid cf1; have HF2 := Lib.hid cf2; have HP1 := Lib.hid cp1; have HP2 := Lib.hid cp2; have HSM := Lib.hid hsm
  clear ha hx x0 x1 cf1 cf2 cp1 cp2 hwl hsm hf hp hl
  go_enter Try.func4, Try.ntmps4
  go_wp2_with fail
  refine (awake12_any _).mono ?_
  rintro e w1 ⟨rfl, hb1⟩
  have HB1 := Lib.hid hb1; have HT1 := Lib.hid (HA.out.below hb1)
  clear hb1 HA
  go_wp2_with fail
  refine (HSH.out _ HT1.out).mono ?_
  rintro e w2 ⟨rfl, rfl⟩
  cases hsb : shortB ws with
  | false =>
    go_wp2_with fail
    go_ret
    exact ⟨rfl, HB1.out⟩
  | true =>
  have HS := Lib.hid (short_is hsb)
  clear hsb HSH
  go_wp2_with fail
  refine (HW1.out _).mono ?_
  rintro e w3 ⟨v3, rfl, hb3, hr3⟩
  obtain ⟨A3, c3, rfl, _⟩ := own_cap hr3
  have HB3 := Lib.hid (Below.onto HB1.out hb3); have HT3 := Lib.hid (HT1.out.below hb3); have HU3 := Lib.hid (own_texts hr3).seen
  clear hb3 hr3 HB1 HT1 HW1
  go_wp2_with fail
  refine (HW2.out _).mono ?_
  rintro e w4 ⟨v4, rfl, hb4, hr4⟩
  obtain ⟨A4, c4, rfl, _⟩ := own_cap hr4
  have HB4 := Lib.hid (Below.onto HB3.out hb4); have HT4 := Lib.hid (HT3.out.below hb4); have HU4 := Lib.hid (HU3.out.below hb4); have HV4 := Lib.hid (own_texts hr4).seen
  clear hb4 hr4 HB3 HT3 HU3 HW2
  go_wp2_with fail
  refine (HSM.out _ _ _ _ _ HU4.out HV4.out).mono ?_
  rintro e w5 ⟨rfl, hb5⟩
  have HB5 := Lib.hid (Below.onto HB4.out hb5); have HT5 := Lib.hid (HT4.out.below hb5)
  clear hb5 HB4 HT4 HU4 HV4 HSM
  go_wp2_with fail
  refine (HF1.out _ HS.out HT5.out).mono ?_
  rintro e w6 ⟨rfl, hb6⟩
  have HB6 := Lib.hid (Below.onto HB5.out hb6); have HT6 := Lib.hid (HT5.out.below hb6)
  clear hb6 HB5 HT5 HF1
  go_wp2_with fail
  refine (HF2.out _ HS.out HT6.out).mono ?_
  rintro e w7 ⟨rfl, hb7⟩
  have HB7 := Lib.hid (Below.onto HB6.out hb7)
  clear hb7 HB6 HT6 HF2
  go_wp2_with fail
  refine (HP1.out _).mono ?_
  rintro e w8 ⟨rfl, hb8⟩
  have HB8 := Lib.hid (Below.onto HB7.out hb8)
  clear hb8 HB7 HP1
  go_wp2_with fail
  refine (HP2.out _).mono ?_
  rintro e w9 ⟨rfl, rfl⟩
  go_wp2_with fail
  go_ret
  exact ⟨rfl, HB8.out⟩
/-- What opens, and whether popups escape. -/
theorem escapes_is (x : Int) : (x % 64 / 16 % 2 == 0) = !Sb.bit x 4 := by
  unfold Sb.bit
  rw [show (2 : Int) ^ 4 = 16 from rfl]
  have h : x % 64 / 16 % 2 = 0 ∨ x % 64 / 16 % 2 = 1 := by omega
  rcases h with h | h <;> rw [h] <;> rfl
set_option maxHeartbeats 4000000 in
theorem walk_SandboxBack (x : Int) (w : World) (hx : (Lit.int .i64 x).wf = true) : Calls Try.prog 7 #[.int .i64 x] w fun e w' => e = .returned (.bool true) ∧ Below w.heap.size w w' := by
  obtain ⟨x0, x1⟩ := bounds_i64 hx
  have ha := and63 x
  have h3 : 0 ≤ x % 64 := Int.emod_nonneg _ (by decide)
  have h4 : x % 64 < 64 := Int.emod_lt_of_pos _ (by decide)
  have HW1 := Lib.hid (fun W => sbWords_any x W)
  have cf := fun A c W hA => sbFlags_any A c (Sb.words x) W (Nat.le_trans (words_few x) (by decide)) (fun t ht => Nat.le_trans (words_short x t ht) (by decide)) hA
  have cp := fun W => sbPopup_any x W
  have hpb : Sb.popup x = if Sb.bit x 4 then x % 64 else 0 := rfl
  have cq := fun W => sbPopup_any (Sb.popup x) W
  rw [Sb.popup_part] at cq
  rw [Sb.back] at cf
  have hes := escapes_is x
  obtain ⟨b, hb⟩ : ∃ b, Sb.bit x 4 = b := ⟨_, rfl⟩
  obtain ⟨p, hp⟩ : ∃ f, Sb.popup x = f := ⟨_, rfl⟩
  obtain ⟨l, hl⟩ : ∃ f, Sb.words x = f := ⟨_, rfl⟩
  obtain ⟨y, hy⟩ : ∃ f, x % 64 = f := ⟨_, rfl⟩
  rw [hl] at HW1 cf; rw [hy] at cf ha h3 h4 hes hpb; rw [hp] at cp cq hpb; rw [hb] at hes hpb
  have HF := Lib.hid cf; have HP := Lib.hid cp; have HQ := Lib.hid cq; have HPB := Lib.hid hpb
  clear hx x0 x1 cf cp cq hpb hb hp hl hy
  go_enter Try.func7, Try.ntmps7
  go_wp2_with fail
  refine (awake12_any _).mono ?_
  rintro e w1 ⟨rfl, hb1⟩
  have HB1 := Lib.hid hb1
  clear hb1
  go_wp2_with fail
  refine (HW1.out _).mono ?_
  rintro e w3 ⟨v3, rfl, hb3, hr3⟩
  obtain ⟨A3, c3, rfl, _⟩ := own_cap hr3
  have HB3 := Lib.hid (Below.onto HB1.out hb3); have HU3 := Lib.hid (own_texts hr3).seen
  clear hb3 hr3 HB1 HW1
  go_wp2_with fail
  refine (HF.out _ _ _ HU3.out).mono ?_
  rintro e w4 ⟨rfl, hb4⟩
  have HB4 := Lib.hid (Below.onto HB3.out hb4)
  clear hb4 HB3 HU3 HF
  go_wp2_with fail
  refine (HP.out _).mono ?_
  rintro e w5 ⟨rfl, hb5⟩
  have HB5 := Lib.hid (Below.onto HB4.out hb5)
  clear hb5 HB4 HP
  have hpb := HPB.out
  cases b with
  | true =>
    obtain rfl : p = y := hpb
    clear HPB
    go_wp2_with fail
    refine (HQ.out _).mono ?_
    rintro e w6 ⟨rfl, hb6⟩
    have HB6 := Lib.hid (Below.onto HB5.out hb6)
    go_wp2_with fail
    go_ret
    exact ⟨rfl, HB6.out⟩
  | false =>
    obtain rfl : p = 0 := hpb
    clear HPB
    go_wp2_with fail
    refine (HQ.out _).mono ?_
    rintro e w6 ⟨rfl, hb6⟩
    have HB6 := Lib.hid (Below.onto HB5.out hb6)
    go_wp2_with fail
    go_ret
    exact ⟨rfl, HB6.out⟩
end Go.Proofs.Ytnnjfiknfmjliaa
