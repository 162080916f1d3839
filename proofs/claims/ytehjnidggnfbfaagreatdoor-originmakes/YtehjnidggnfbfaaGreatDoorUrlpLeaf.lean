/- The contracts of the library's cutting of texts at a byte, and of urlp's functions of one text. -/
import Derived.Test.YtehjnidggnfbfaaGreatDoorUrlpTrim
import Derived.Test.YtehjnidggnfbfaaGreatDoorHostAll
import Derived.BigQuiet
namespace Go.Proofs.YtehjnidggnfbfaaGreatDoor
open Go.RowKit

/-- A text as a value: bytes as a list. -/
abbrev bA (l : List UInt8) : ByteArray := ⟨l.toArray⟩
theorem bA_size (l : List UInt8) : (bA l).size = l.length := rfl
theorem bA_of (s : ByteArray) : bA s.data.toList = s := rfl

theorem slite_index (s : ByteArray) (c : UInt8) (w : World) (i : Int) (h : Lib.indexByte s.data.toList c = i) : Calls Tryz.prog 89 #[.string s, .string ⟨#[c]⟩] w fun e w' => e = .returned (.int .i64 i) ∧ w = w' := by
  subst h
  exact (Tryz.stringslite_Index_one s c w).mono (by rintro e w' ⟨rfl, rfl⟩; exact ⟨rfl, rfl⟩)

set_option maxHeartbeats 1000000 in
theorem slite_cut (s : ByteArray) (c : UInt8) (w : World) (hs : s.size ≤ maxLen) : Calls Tryz.prog 66 #[.string s, .string ⟨#[c]⟩] w fun e w' => e = .returned (.tuple #[.string (bA (Urp.bef c s.data.toList)), .string (bA (Urp.aft c s.data.toList)), .bool (Urp.hasB c s.data.toList)]) ∧ ∃ n, w' = w.drewN n := by
  unfold maxLen at hs
  rcases Urp.cut_index c s.data.toList with ⟨h1, h2, h3, h4⟩ | ⟨i, h1, h2, h3, h4, h5⟩
  · rw [h2, h3, h4]
    have H1 := Lib.hid h1
    clear h1 h2 h3 h4
    go_enter Tryz.func66, Tryz.ntmps66
    go_wp2_with fail
    refine (slite_index s c w (-1) H1.out).mono ?_
    rintro e w1 ⟨rfl, rfl⟩
    go_wp2_with fail
    go_ret3
    exact ⟨rfl, 0, rfl⟩
  · rw [h3, h4, h5]
    have hi : i < s.size := by simpa using h2
    have e1 : s.extract 0 i = bA (s.data.toList.take i) := by rw [Lib.extract_eq]; simp
    have e2 : s.extract (i + 1) s.size = bA (s.data.toList.drop (i + 1)) := by
      rw [Lib.extract_eq, List.take_of_length_le (by simp)]
    rw [← e1, ← e2]
    have H1 := Lib.hid h1
    clear h1 h2 h3 h4 h5 e1 e2
    go_enter Tryz.func66, Tryz.ntmps66
    go_wp2_with fail
    refine (slite_index s c w i H1.out).mono ?_
    rintro e w1 ⟨rfl, rfl⟩
    go_wp2_with fail
    go_quiet (fail)
    go_wp2_with fail
    go_ret3
    exact ⟨rfl, _, rfl⟩

theorem cut_any (s : ByteArray) (c : UInt8) (w : World) (hs : s.size ≤ maxLen) : Calls Tryz.prog 42 #[.string s, .string ⟨#[c]⟩] w fun e w' => e = .returned (.tuple #[.string (bA (Urp.bef c s.data.toList)), .string (bA (Urp.aft c s.data.toList)), .bool (Urp.hasB c s.data.toList)]) ∧ Below w.heap.size w w' := by
  go_enter Tryz.func42, Tryz.ntmps42
  go_wp2_with fail
  refine (slite_cut s c w hs).mono ?_
  rintro e w1 ⟨rfl, n, rfl⟩
  go_wp2_with fail
  go_ret3
  exact ⟨rfl, ⟨rfl, rfl, rfl, Nat.le_refl _, fun _ _ => rfl⟩⟩
theorem hasPrefix_eq (l p : List UInt8) : Lib.hasPrefix l p = Urp.begB p l := rfl
theorem cutPrefix_any (s : ByteArray) (p : ByteArray) (w : World) : Calls Tryz.prog 67 #[.string s, .string p] w fun e w' => e = .returned (.tuple #[.string (bA (if Urp.begB p.data.toList s.data.toList then s.data.toList.drop p.size else s.data.toList)), .bool (Urp.begB p.data.toList s.data.toList)]) ∧ w = w' :=
  (Tryz.strings_CutPrefix s p w).mono (by
    rintro e w' ⟨rfl, rfl⟩
    refine ⟨?_, rfl⟩
    rw [hasPrefix_eq, Lib.trimPrefix, hasPrefix_eq]
    rfl)
theorem contains_any (s : ByteArray) (c : UInt8) (w : World) : Calls Tryz.prog 68 #[.string s, .string ⟨#[c]⟩] w fun e w' => e = .returned (.bool (Urp.hasB c s.data.toList)) ∧ w = w' :=
  (Tryz.strings_Contains_one s c w).mono (by
    rintro e w' ⟨rfl, rfl⟩
    refine ⟨?_, rfl⟩
    rcases Urp.cut_index c s.data.toList with ⟨h1, h2, _⟩ | ⟨i, h1, _, h3, _⟩
    · rw [h1, h2]; rfl
    · rw [h1, h3, decide_eq_true (by omega)])
theorem prefix_any (s p : ByteArray) (w : World) : Calls Tryz.prog 72 #[.string s, .string p] w fun e w' => e = .returned (.bool (Urp.begB p.data.toList s.data.toList)) ∧ w = w' :=
  (Tryz.strings_HasPrefix s p w).mono (by
    rintro e w' ⟨rfl, rfl⟩
    exact ⟨by rw [hasPrefix_eq], rfl⟩)

/-- The two tables of utf8 are what they are. -/
def Tab8 (w : World) : Prop := Lib.Utf8Tabs 2 3 w
theorem Tab8.below {w w' : World} (h : Tab8 w) (hb : Below w.heap.size w w') : Tab8 w' := Utf8Tabs_below h hb
theorem outer_pred (w : World) : PredAt Tryz.prog 41 #[] encR Urp.outR w := fun W r _ => by
  unfold FnGives
  have hr : decide ((r : Int) ≤ 32) = Urp.outR r := by unfold Urp.outR; rw [Bool.eq_iff_iff]; simp; omega
  have HR := Lib.hid hr
  clear hr
  go_enter Tryz.func41, Tryz.ntmps41
  go_wp2
  all_goals
    go_ret
    exact ⟨by rw [← HR.out]; first | rfl | simp_all, 0, rfl⟩
theorem trimU_any (s : ByteArray) (w : World) (hs : s.size ≤ maxLen) (hT : Tab8 w) : Calls Tryz.prog 40 #[.string s, .func (.func 41) #[] #[]] w fun e w' => e = .returned (.string (bA (Urp.trimU s.data.toList))) ∧ Below w.heap.size w w' := by
  have h := Tryz.strings_TrimFunc 41 #[] (enters_of Tryz.func41 (by kernel_rfl) rfl) Urp.outR s w (by unfold maxLen at hs; omega) hT (outer_pred w)
  rw [Urp.trimF_eq] at h
  exact h

set_option maxHeartbeats 400000 in
theorem isLetter_any (c : Int) (w : World) : Calls Tryz.prog 85 #[.int .u8 c] w fun e w' => e = .returned (.bool (Urp.lowI c)) ∧ w = w' := by
  go_enter Tryz.func85, Tryz.ntmps85
  go_wp2
  all_goals (go_ret; refine ⟨?_, rfl⟩; simp_all [Urp.lowI] <;> omega)

theorem vis_miss (s : ByteArray) (k : Nat) (h : k < s.size) (hc : Urp.visI s[k].toNat = false) : false = Urp.visB s.data.toList := by
  unfold Urp.visB; rw [Oct.allB_miss _ s k h hc]
theorem vis_end (s : ByteArray) (k : Nat) (h : s.size ≤ k) (hi : Oct.allB Urp.visI (s.data.toList.take k) = true) : true = Urp.visB s.data.toList := by
  rw [Oct.take_all s k h] at hi; exact hi.symm
set_option maxHeartbeats 1000000 in
theorem isVisible_any (s : ByteArray) (w : World) (hs : s.size ≤ maxLen) : Calls Tryz.prog 43 #[.string s] w fun e w' => e = .returned (.bool (Urp.visB s.data.toList)) ∧ w = w' := by
  unfold maxLen at hs
  go_enter Tryz.func43, Tryz.ntmps43
  go_wp2
  go_loop [6] (fun i => ∃ k : Nat, k ≤ s.size ∧ i = .int .i64 k ∧ Hid (Oct.allB Urp.visI (s.data.toList.take k) = true)) (fun i => s.size - (intOf i).toNat)
  case atStart => exact ⟨0, Nat.zero_le _, rfl, rfl⟩
  case round =>
    obtain ⟨k, hk, rfl, hin⟩ := hrel
    by_cases hlt : k < s.size
    · cases hl : Urp.visI s[k].toNat with
      | true =>
        have h1 : (32 : Int) < s[k].toNat ∧ (s[k].toNat : Int) ≤ 126 := by simp [Urp.visI] at hl; omega
        obtain ⟨h1, h2⟩ := h1
        go_wp2
        go_round
        case rel => exact ⟨k + 1, by omega, by go_num, Oct.allB_next _ s k hlt hin hl⟩
        case measure => simp [intOf]; omega
      | false =>
        have hx : (s[k].toNat : Int) ≤ 32 ∨ 126 < (s[k].toNat : Int) := by simp [Urp.visI] at hl; omega
        rcases hx with hx | hx
        · go_wp2
          go_ret
          exact ⟨Oct.ret_bool (vis_miss s k hlt hl), rfl⟩
        · have hx2 : 32 < (s[k].toNat : Int) := by omega
          go_wp2
          go_ret
          exact ⟨Oct.ret_bool (vis_miss s k hlt hl), rfl⟩
    · go_wp2
      go_ret
      exact ⟨Oct.ret_bool (vis_end s k (by omega) hin), rfl⟩

theorem sch_miss (s : ByteArray) (k : Nat) (h : k < s.size) (hc : Urp.schI s[k].toNat = false) : false = Urp.schemeB s.data.toList := by
  unfold Urp.schemeB; rw [Oct.allB_miss _ s k h hc]; rfl
theorem sch_nil (s : ByteArray) (h : s.toList.isEmpty = true) : false = Urp.schemeB s.data.toList := by
  rw [Lib.toList_data] at h
  unfold Urp.schemeB
  rw [h]; simp
theorem sch_end (s : ByteArray) (k : Nat) (h : s.size ≤ k) (hi : Oct.allB Urp.schI (s.data.toList.take k) = true) (h0 : s.toList.isEmpty = false) (hp : 0 < s.size) : (!s.toList.isEmpty && Urp.lowI s[0].toNat) = Urp.schemeB s.data.toList := by
  rw [Oct.take_all s k h] at hi
  rw [Lib.toList_data] at h0 ⊢
  unfold Urp.schemeB
  rw [hi, h0, Oct.head_at s hp]; rfl
theorem sch_yes {c : Int} (h : Urp.schI c = true) : Urp.lowI c = true ∨ (Urp.lowI c = false ∧ ((48 ≤ c ∧ c ≤ 57) ∨ (c < 48 ∧ (c != 43) = false) ∨ (c < 48 ∧ (c != 43) = true ∧ (c != 45) = false) ∨ (c < 48 ∧ (c != 43) = true ∧ (c != 45) = true ∧ (c != 46) = false))) := by
  unfold Urp.schI at h
  cases hl : Urp.lowI c <;> simp [hl, Oct.digitI] at h ⊢
  omega
theorem sch_no {c : Int} (h : Urp.schI c = false) : Urp.lowI c = false ∧ (c < 48 ∨ 57 < c) ∧ (c != 43) = true ∧ (c != 45) = true ∧ (c != 46) = true := by
  unfold Urp.schI at h
  cases hl : Urp.lowI c <;> simp [hl, Oct.digitI] at h ⊢
  omega
set_option maxHeartbeats 2000000 in
theorem isScheme_any (s : ByteArray) (w : World) (hs : s.size ≤ maxLen) : Calls Tryz.prog 63 #[.string s] w fun e w' => e = .returned (.bool (Urp.schemeB s.data.toList)) ∧ w = w' := by
  unfold maxLen at hs
  go_enter Tryz.func63, Tryz.ntmps63
  go_wp2
  go_loop [7] (fun i => ∃ k : Nat, k ≤ s.size ∧ i = .int .i64 k ∧ Hid (Oct.allB Urp.schI (s.data.toList.take k) = true)) (fun i => s.size - (intOf i).toNat)
  case atStart => exact ⟨0, Nat.zero_le _, rfl, rfl⟩
  case round =>
    obtain ⟨k, hk, rfl, hin⟩ := hrel
    by_cases hlt : k < s.size
    · cases hl : Urp.schI s[k].toNat with
      | true =>
        rcases sch_yes hl with hd | ⟨hd, ⟨h1, h2⟩ | ⟨h1, h2⟩ | ⟨h1, h2, h3⟩ | ⟨h1, h2, h3, h4⟩⟩
        all_goals
          go_wp2_with (go_at_call 85; refine (isLetter_any _ _).mono ?_; rintro e w' ⟨rfl, rfl⟩)
          go_round
          case rel => exact ⟨k + 1, by omega, by go_num, Oct.allB_next _ s k hlt hin hl⟩
          case measure => simp [intOf]; omega
      | false =>
        obtain ⟨hd, hr, h3, h4, h5⟩ := sch_no hl
        rcases hr with hr | hr
        · go_wp2_with (go_at_call 85; refine (isLetter_any _ _).mono ?_; rintro e w' ⟨rfl, rfl⟩)
          go_ret
          exact ⟨Oct.ret_bool (sch_miss s k hlt hl), rfl⟩
        · have hr2 : 48 ≤ (s[k].toNat : Int) := by omega
          go_wp2_with (go_at_call 85; refine (isLetter_any _ _).mono ?_; rintro e w' ⟨rfl, rfl⟩)
          go_ret
          exact ⟨Oct.ret_bool (sch_miss s k hlt hl), rfl⟩
    · cases he : s.toList.isEmpty with
      | true =>
        have he' := empty_list he
        have HE := Lib.hid he
        clear he
        go_wp2
        go_ret
        exact ⟨Oct.ret_bool (sch_nil s HE.out), rfl⟩
      | false =>
        have he' := empty_no he
        have hp : 0 < s.size := by
          rcases Nat.eq_zero_or_pos s.size with h | h
          · rw [Lib.toList_data] at he
            have : s.data.toList = [] := List.length_eq_zero_iff.1 (by simpa using h)
            rw [this] at he; cases he
          · exact h
        have HE := Lib.hid he
        clear he
        go_wp2_with (go_at_call 85; refine (isLetter_any _ _).mono ?_; rintro e w' ⟨rfl, rfl⟩)
        go_ret
        exact ⟨Oct.ret_bool (sch_end s k (by omega) hin HE.out hp), rfl⟩
end Go.Proofs.YtehjnidggnfbfaaGreatDoor
