/- The contracts of strings.IndexAny and ContainsAny at the three bytes 0, 10 and 13, whatever the text. -/
import Derived.Laws.RangeAny
import Derived.Laws.RangeString
import Derived.Deep.LoopGhost
import Derived.Lib.DecodeN
import Derived.Lib.IndexAny
import Derived.BigQuiet
import Derived.Deep.QuietTactic
import Derived.Test.YtopakamglhhncaaHdSeen
import Derived.Test.YtopakamglhhncaaOctLeaf
import Derived.Test.YtopakamglhhncaaShelf
namespace Go.Proofs.Ytopakamglhhncaa
open Go.RowKit Go.Shelf

def brk : ByteArray := ⟨#[0, 10, 13]⟩
theorem enc_shape (r : Int) (h : 128 ≤ r) : 2 ≤ (Utf8.encode r).size ∧ (Utf8.encode r).size ≤ 4 ∧ ∀ i (hi : i < (Utf8.encode r).size), i + 1 = (Utf8.encode r).size → 128 ≤ ((Utf8.encode r)[i]).toNat := by
  obtain ⟨c, hc⟩ : ∃ c, (if Utf8.valid r then r.toNat else Utf8.runeError) = c := ⟨_, rfl⟩
  have hc1 : 128 ≤ c := by
    rw [← hc]; split
    · omega
    · decide
  have hc2 : ¬ c < 128 := by omega
  have hx : ∀ n, 128 ≤ (UInt8.ofNat (0x80 + n % 64)).toNat := fun n => by
    rw [UInt8.toNat_ofNat']
    omega
  unfold Utf8.encode
  simp only [hc, hc2, if_false]
  split
  · refine ⟨by show 2 ≤ 2; decide, by show 2 ≤ 4; decide, fun i hi e => ?_⟩
    have e' : i + 1 = 2 := e
    obtain rfl : i = 1 := by omega
    exact hx c
  split
  · refine ⟨by show 2 ≤ 3; decide, by show 3 ≤ 4; decide, fun i hi e => ?_⟩
    have e' : i + 1 = 3 := e
    obtain rfl : i = 2 := by omega
    exact hx c
  · refine ⟨by show 2 ≤ 4; decide, by show 4 ≤ 4; decide, fun i hi e => ?_⟩
    have e' : i + 1 = 4 := e
    obtain rfl : i = 3 := by omega
    exact hx c
theorem no_byte : ∀ (l : List UInt8) (c : UInt8), (∀ b ∈ l, b ≠ c) → Lib.indexByte l c = -1
  | [], _, _ => rfl
  | b :: l, c, h => by
    have ih := no_byte l c (fun x hx => h x (by simp [hx]))
    have hb : (b == c) = false := beq_eq_false_iff_ne.2 (h b (by simp))
    unfold Lib.indexByte
    rw [ih, hb]; rfl
set_option maxHeartbeats 1000000 in
theorem valid_any (r : Int) (w : World) : Calls Try.prog 66 #[.int .i32 r] w fun e w' => (e = .returned (.bool false) ∨ e = .returned (.bool true)) ∧ w = w' := by
  go_enter Try.func66, Try.ntmps66
  go_wp2
  all_goals (go_ret; first | exact ⟨.inl rfl, rfl⟩ | exact ⟨.inr rfl, rfl⟩)
theorem brk_no (t : ByteArray) (c : UInt8) (hc : 128 ≤ c.toNat) (ht : ∀ b ∈ t.data.toList, b.toNat < 128) (w : World) : Calls Try.prog 52 #[.string t, .int .u8 c.toNat] w fun e w' => e = .returned (.int .i64 (-1)) ∧ w = w' :=
  (indexByte_any t c.toNat w).mono (by
    rintro e w' ⟨rfl, h⟩
    refine ⟨?_, h⟩
    have : ((c.toNat : Int)).toNat.toUInt8 = c := by simp
    rw [this, no_byte _ c (fun b hb => by rintro rfl; have := ht b hb; omega)])
set_option maxHeartbeats 4000000 in
set_option maxRecDepth 100000 in
theorem idxRune_high (r : Int) (h : 128 ≤ r) (w : World) : Calls Try.prog 61 #[.string ⟨#[0, 10, 13]⟩, .int .i32 r] w fun e w' => e = .returned (.int .i64 (-1)) ∧ Below w.heap.size w w' := by
  have h0 : decide ((0 : Int) ≤ r) = true := decide_eq_true (by omega)
  have h1 : decide (r < (128 : Int)) = false := decide_eq_false (by omega)
  by_cases h3 : r = 65533
  · subst h3
    go_enter Try.func61, Try.ntmps61
    go_wp2
    go_loopg [5, 6] 3 (fun g _ _ wx => ∃ i : Nat, i + g = 3 ∧ wx = w.iter ⟨#[0, 10, 13]⟩ i)
    case atStart => exact ⟨0, by omega, rfl⟩
    case round =>
      obtain ⟨i, hig, rfl⟩ := hrel
      cases gk with
      | zero =>
        obtain rfl : i = 3 := by omega
        have hnx := fun ty => run_next_end (P := Try.prog) w ⟨#[0, 10, 13]⟩ 3 ty (by decide)
        go_wp2
        go_ret
        exact ⟨rfl, (Below.refl _ w).alloc (Nat.le_refl _) _⟩
      | succ g =>
        rcases (show i = 0 ∨ i = 1 ∨ i = 2 by omega) with rfl | rfl | rfl
        · have hnx := fun ty => run_next_ascii (P := Try.prog) w ⟨#[0, 10, 13]⟩ 0 ty (by decide) (by decide)
          go_wp2
          go_roundg g
          case measure => omega
          case rel => exact ⟨1, by omega, rfl⟩
        · have hnx := fun ty => run_next_ascii (P := Try.prog) w ⟨#[0, 10, 13]⟩ 1 ty (by decide) (by decide)
          go_wp2
          go_roundg g
          case measure => omega
          case rel => exact ⟨2, by omega, rfl⟩
        · have hnx := fun ty => run_next_ascii (P := Try.prog) w ⟨#[0, 10, 13]⟩ 2 ty (by decide) (by decide)
          go_wp2
          go_roundg g
          case measure => omega
          case rel => exact ⟨3, by omega, rfl⟩
  · have h3' : (r == 65533) = false := beq_eq_false_iff_ne.2 h3
    obtain ⟨rs, hrs⟩ : ∃ rs, Utf8.encode r = rs := ⟨_, rfl⟩
    obtain ⟨hs1, hs2, hs3⟩ := enc_shape r h
    rw [hrs] at hs1 hs2
    have HS3 : Hid (∀ i (hi : i < rs.size), i + 1 = rs.size → 128 ≤ (rs[i]).toNat) := Lib.hid (by subst hrs; exact hs3)
    clear hs3
    rcases (show rs.size = 2 ∨ rs.size = 3 ∨ rs.size = 4 by omega) with hm | hm | hm
    · -- 2 bytes
      have hlt : 1 < rs.size := by omega
      obtain ⟨x, hx⟩ : ∃ x, rs[1] = x := ⟨_, rfl⟩
      have hxh : 128 ≤ x.toNat := by rw [← hx]; exact HS3.out 1 hlt (by omega)
      have hwr : IntKind.i64.wrap 2 = 2 := by decide
      have hne : ((((⟨#[0, 10, 13]⟩ : ByteArray)[1]).toNat : Int) != (x.toNat : Int)) = true := bne_iff_ne.2 (by show ((10 : Nat) : Int) ≠ _; omega)
      have hN : Hid (∀ W : World, Calls Try.prog 52 #[.string ((⟨#[0, 10, 13]⟩ : ByteArray).extract 2 3), .int .u8 x.toNat] W fun e w' => e = .returned (.int .i64 (-1)) ∧ w' = W) := Lib.hid (fun W => (brk_no _ x hxh (by decide +kernel) W).mono fun _ _ h => ⟨h.1, h.2.symm⟩)
      clear hs1 hs2 HS3 hxh
      go_enter Try.func61, Try.ntmps61
      go_wp2_with fail
      refine (valid_any r w).mono ?_
      rintro e w1 ⟨rfl | rfl, rfl⟩
      · go_wp2
        go_ret
        exact ⟨rfl, Below.refl _ _⟩
      · go_wp2
        go_step3
        go_wp2
        go_loopw [9] (fun i wr => i = .int .i64 1 ∧ wr = w) (fun _ _ => 0)
        case atStart => exact ⟨rfl, rfl⟩
        case round =>
          obtain ⟨rfl, rfl⟩ := hrel
          go_wp2
          go_step3
          go_wp2
          go_quiet (fail)
          have HB := Lib.hid (below_drewN' (Below.refl wr.heap.size wr) nq)
          obtain ⟨w2, hw2⟩ : ∃ w2, wr.drewN nq = w2 := ⟨_, rfl⟩
          rw [hw2] at HB ⊢
          clear hw2
          go_wp2
          go_quiet (first | (go_at_call 52; refine Calls.quiet_of_same (hN.out _)))
          go_wp2
          simp +zetaDelta only [Exit.noGoto, Exit.inBlock, Exit.then]
          go_ret
          exact ⟨rfl, below_drewN' HB.out _⟩
    · -- 3 bytes
      have hlt : 2 < rs.size := by omega
      obtain ⟨x, hx⟩ : ∃ x, rs[2] = x := ⟨_, rfl⟩
      have hxh : 128 ≤ x.toNat := by rw [← hx]; exact HS3.out 2 hlt (by omega)
      have hwr : IntKind.i64.wrap 3 = 3 := by decide
      have hne : ((((⟨#[0, 10, 13]⟩ : ByteArray)[2]).toNat : Int) != (x.toNat : Int)) = true := bne_iff_ne.2 (by show ((13 : Nat) : Int) ≠ _; omega)
      have hN : Hid (∀ W : World, Calls Try.prog 52 #[.string ((⟨#[0, 10, 13]⟩ : ByteArray).extract 3 3), .int .u8 x.toNat] W fun e w' => e = .returned (.int .i64 (-1)) ∧ w' = W) := Lib.hid (fun W => (brk_no _ x hxh (by decide +kernel) W).mono fun _ _ h => ⟨h.1, h.2.symm⟩)
      clear hs1 hs2 HS3 hxh
      go_enter Try.func61, Try.ntmps61
      go_wp2_with fail
      refine (valid_any r w).mono ?_
      rintro e w1 ⟨rfl | rfl, rfl⟩
      · go_wp2
        go_ret
        exact ⟨rfl, Below.refl _ _⟩
      · go_wp2
        go_step3
        go_wp2
        go_loopw [9] (fun i wr => i = .int .i64 2 ∧ wr = w) (fun _ _ => 0)
        case atStart => exact ⟨rfl, rfl⟩
        case round =>
          obtain ⟨rfl, rfl⟩ := hrel
          go_wp2
          go_step3
          go_wp2
          go_quiet (fail)
          have HB := Lib.hid (below_drewN' (Below.refl wr.heap.size wr) nq)
          obtain ⟨w2, hw2⟩ : ∃ w2, wr.drewN nq = w2 := ⟨_, rfl⟩
          rw [hw2] at HB ⊢
          clear hw2
          go_wp2
          go_quiet (first | (go_at_call 52; refine Calls.quiet_of_same (hN.out _)))
          go_wp2
          simp +zetaDelta only [Exit.noGoto, Exit.inBlock, Exit.then]
          go_ret
          exact ⟨rfl, below_drewN' HB.out _⟩
    · -- 4 bytes
      have hlt : 3 < rs.size := by omega
      obtain ⟨x, hx⟩ : ∃ x, rs[3] = x := ⟨_, rfl⟩
      have hxh : 128 ≤ x.toNat := by rw [← hx]; exact HS3.out 3 hlt (by omega)
      go_enter Try.func61, Try.ntmps61
      go_wp2_with fail
      refine (valid_any r w).mono ?_
      rintro e w1 ⟨rfl | rfl, rfl⟩
      · go_wp2
        go_ret
        exact ⟨rfl, Below.refl _ _⟩
      · go_wp2
        go_step3
        go_wp2
        go_loopw [9] (fun i wr => i = .int .i64 3 ∧ wr = w) (fun _ _ => 0)
        case atStart => exact ⟨rfl, rfl⟩
        case round =>
          obtain ⟨rfl, rfl⟩ := hrel
          go_wp2
          rw [Exit.noGoto_ret]
          go_ret
          exact ⟨rfl, Below.refl _ _⟩

/-! ### a text that is taken apart rune by rune -/
theorem cont_high {b : Nat} (h : b / 64 = 2) : 128 ≤ b := by omega
theorem get_of (s : ByteArray) (i : Nat) (h : i < s.size) : s.get! i = s[i] := by
  simp [ByteArray.get!, getElem!_pos, h]; rfl
/-- A rune that begins with a great byte: it is great, and so are all its bytes. -/
theorem decode_run (s : ByteArray) (i : Nat) (h : i < s.size) (ha : 128 ≤ (s[i]).toNat) :
    128 ≤ (Utf8.decode s i).1 ∧ 1 ≤ (Utf8.decode s i).2 ∧ i + (Utf8.decode s i).2 ≤ s.size ∧ ∀ j (hj : j < s.size), i ≤ j → j < i + (Utf8.decode s i).2 → 128 ≤ (s[j]).toNat := by
  have hd := decode_high s i h ha
  refine ⟨hd.1, hd.2, ?_⟩
  rw [Lib.decode_at]
  have g0 : (s.get! i).toNat = (s[i]).toNat := by rw [get_of s i h]
  obtain ⟨b0, e0⟩ : ∃ b, (s.get! i).toNat = b := ⟨_, rfl⟩
  obtain ⟨b1, e1⟩ : ∃ b, (s.get! (i + 1)).toNat = b := ⟨_, rfl⟩
  obtain ⟨b2, e2⟩ : ∃ b, (s.get! (i + 2)).toNat = b := ⟨_, rfl⟩
  obtain ⟨b3, e3⟩ : ∃ b, (s.get! (i + 3)).toNat = b := ⟨_, rfl⟩
  rw [e0, e1, e2, e3]
  have hat : ∀ k b (hk : i + k < s.size), (s.get! (i + k)).toNat = b → (s[i + k]).toNat = b := fun k b hk e => by rw [← get_of s (i + k) hk]; exact e
  have one : i + 1 ≤ s.size ∧ ∀ j (hj : j < s.size), i ≤ j → j < i + 1 → 128 ≤ (s[j]).toNat := ⟨by omega, fun j hj h1 h2 => by
    obtain rfl : j = i := by omega
    exact ha⟩
  unfold Lib.decodeN
  split
  · exact one
  split
  · rename_i hc
    split
    · refine ⟨by show i + 2 ≤ _; omega, fun j hj h1 h2 => ?_⟩
      have h2' : j < i + 2 := h2
      rcases (show j = i ∨ j = i + 1 by omega) with rfl | rfl
      · exact ha
      · rw [hat 1 b1 hj e1]; exact cont_high hc.2.2
    · exact one
  split
  · rename_i hc
    split
    · refine ⟨by show i + 3 ≤ _; omega, fun j hj h1 h2 => ?_⟩
      have h2' : j < i + 3 := h2
      rcases (show j = i ∨ j = i + 1 ∨ j = i + 2 by omega) with rfl | rfl | rfl
      · exact ha
      · rw [hat 1 b1 hj e1]; exact cont_high hc.2.1.2
      · rw [hat 2 b2 hj e2]; exact cont_high hc.2.2.2
    · exact one
  split
  · rename_i hc
    split
    · refine ⟨by show i + 4 ≤ _; omega, fun j hj h1 h2 => ?_⟩
      have h2' : j < i + 4 := h2
      rcases (show j = i ∨ j = i + 1 ∨ j = i + 2 ∨ j = i + 3 by omega) with rfl | rfl | rfl | rfl
      · exact ha
      · rw [hat 1 b1 hj e1]; exact cont_high hc.2.1.2
      · rw [hat 2 b2 hj e2]; exact cont_high hc.2.2.1.2
      · rw [hat 3 b3 hj e3]; exact cont_high hc.2.2.2.2
    · exact one
  · exact one
def brkL : List UInt8 := [0, 10, 13]
theorem brk_in (b : UInt8) : brkL.contains b = Hd.badB b := by
  unfold brkL Hd.badB
  rw [List.contains_cons, List.contains_cons, List.contains_cons, List.contains_nil, Bool.or_false, Bool.or_assoc]
theorem brk_high {b : UInt8} (h : 128 ≤ b.toNat) : brkL.contains b = false := by
  rw [brk_in]; unfold Hd.badB
  have h0 : (b == 0) = false := beq_eq_false_iff_ne.2 (by rintro rfl; revert h; decide)
  have h1 : (b == 10) = false := beq_eq_false_iff_ne.2 (by rintro rfl; revert h; decide)
  have h2 : (b == 13) = false := beq_eq_false_iff_ne.2 (by rintro rfl; revert h; decide)
  rw [h0, h1, h2]; rfl
theorem any_bad (l : List UInt8) : decide (0 ≤ Lib.indexAny l brkL) = l.any Hd.badB := by
  induction l with
  | nil => rfl
  | cons b l ih =>
    have hge := Lib.indexAny_ge brkL l
    rw [Lib.indexAny, brk_in, List.any_cons]
    cases hb : Hd.badB b with
    | true => simp
    | false =>
      rw [Bool.false_or, ← ih]
      simp only [Bool.false_eq_true, if_false]
      split
      · rename_i h; have := beq_iff_eq.1 h; rw [this]
      · rename_i h
        have hne : Lib.indexAny l brkL ≠ -1 := fun e => h (by rw [e]; rfl)
        have ha : (0 : Int) ≤ Lib.indexAny l brkL + 1 := by omega
        have hb : (0 : Int) ≤ Lib.indexAny l brkL := by omega
        exact decide_eq_decide.2 ⟨fun _ => hb, fun _ => ha⟩
end Go.Proofs.Ytopakamglhhncaa
