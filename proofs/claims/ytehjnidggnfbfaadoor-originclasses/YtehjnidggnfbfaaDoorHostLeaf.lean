/- The contracts of host's and the document's functions of one label. -/
import Derived.Test.YtehjnidggnfbfaaDoorOctLeaf
import Derived.Test.YtehjnidggnfbfaaDoorOctNum
import Derived.Test.YtehjnidggnfbfaaDoorHostMath
import Derived.Test.YtehjnidggnfbfaaDoorShelf
namespace Go.Proofs.YtehjnidggnfbfaaDoor
open Go.RowKit

set_option maxHeartbeats 400000 in
theorem isDigit_any (c : Int) (w : World) : Calls Tryd.prog 75 #[.int .u8 c] w fun e w' => e = .returned (.bool (Oct.digitI c)) ∧ w = w' := by
  go_enter Tryd.func75, Tryd.ntmps75
  go_wp2
  all_goals (go_ret; refine ⟨?_, rfl⟩; simp_all [Oct.digitI] <;> omega)

theorem lab_yes {c : Int} (h : Hst.labI c = true) : Oct.digitI c = true ∨ (Oct.digitI c = false ∧ 97 ≤ c ∧ c ≤ 122) ∨ c = 45 ∨ c = 95 := by
  unfold Hst.labI at h
  cases hd : Oct.digitI c <;> simp [hd] at h ⊢
  exact h
theorem lab_no {c : Int} (h : Hst.labI c = false) : Oct.digitI c = false ∧ (c < 97 ∨ 122 < c) ∧ (c == 45) = false ∧ (c == 95) = false ∧ (c != 45) = true ∧ (c != 95) = true := by
  unfold Hst.labI at h
  cases hd : Oct.digitI c <;> simp [hd] at h ⊢
  obtain ⟨h1, h2, h3⟩ := h
  exact ⟨by omega, h2, h3, h2, h3⟩
theorem label_end (s : ByteArray) (k : Nat) (h : s.size ≤ k) (hi : Oct.allB Hst.labI (s.data.toList.take k) = true) (h0 : s.toList.isEmpty = false) : (!s.toList.isEmpty && decide ((s.size : Int) ≤ 63)) = Hst.labelB s.data.toList := by
  rw [Oct.take_all s k h] at hi
  rw [Lib.toList_data] at h0 ⊢
  unfold Hst.labelB
  rw [hi, h0]
  simp
  omega
theorem label_nil (s : ByteArray) (h0 : s.toList.isEmpty = true) : false = Hst.labelB s.data.toList := by
  rw [Lib.toList_data] at h0
  unfold Hst.labelB
  rw [h0]; simp
theorem label_miss (s : ByteArray) (k : Nat) (h : k < s.size) (hc : Hst.labI s[k].toNat = false) : false = Hst.labelB s.data.toList := by
  unfold Hst.labelB; rw [Oct.allB_miss _ s k h hc]; rfl

set_option maxHeartbeats 1000000 in
theorem isLabel_any (s : ByteArray) (w : World) (hs : s.size ≤ maxLen) : Calls Tryd.prog 73 #[.string s] w fun e w' => e = .returned (.bool (Hst.labelB s.data.toList)) ∧ w = w' := by
  unfold maxLen at hs
  go_enter Tryd.func73, Tryd.ntmps73
  go_wp2
  go_loop [7] (fun i => ∃ k : Nat, k ≤ s.size ∧ i = .int .i64 k ∧ Hid (Oct.allB Hst.labI (s.data.toList.take k) = true)) (fun i => s.size - (intOf i).toNat)
  case atStart => exact ⟨0, Nat.zero_le _, rfl, rfl⟩
  case round =>
    obtain ⟨k, hk, rfl, hin⟩ := hrel
    by_cases hlt : k < s.size
    · cases hl : Hst.labI s[k].toNat with
      | true =>
        rcases lab_yes hl with hd | ⟨hd, h1, h2⟩ | hc | hc
        · go_wp2_with (go_at_call 75; refine (isDigit_any _ _).mono ?_; rintro e w' ⟨rfl, rfl⟩)
          go_round
          case rel => exact ⟨k + 1, by omega, by go_num, Oct.allB_next _ s k hlt hin hl⟩
          case measure => simp [intOf]; omega
        · go_wp2_with (go_at_call 75; refine (isDigit_any _ _).mono ?_; rintro e w' ⟨rfl, rfl⟩)
          go_round
          case rel => exact ⟨k + 1, by omega, by go_num, Oct.allB_next _ s k hlt hin hl⟩
          case measure => simp [intOf]; omega
        all_goals
          have h97 : (s[k].toNat : Int) < 97 := by omega
          have hdg : Oct.digitI s[k].toNat = false := by rw [hc]; rfl
          first
            | have h45 : ((s[k].toNat : Int) != 45) = false := (by rw [hc]; rfl)
            | (have h45 : ((s[k].toNat : Int) != 45) = true := (by rw [hc]; rfl)
               have h95 : ((s[k].toNat : Int) != 95) = false := (by rw [hc]; rfl))
          clear hc
          go_wp2_with (go_at_call 75; refine (isDigit_any _ _).mono ?_; rintro e w' ⟨rfl, rfl⟩)
          go_round
          case rel => exact ⟨k + 1, by omega, by go_num, Oct.allB_next _ s k hlt hin hl⟩
          case measure => simp [intOf]; omega
      | false =>
        obtain ⟨hd, hr, h3, h4, h5, h6⟩ := lab_no hl
        rcases hr with hr | hr
        · go_wp2_with (go_at_call 75; refine (isDigit_any _ _).mono ?_; rintro e w' ⟨rfl, rfl⟩)
          go_ret
          exact ⟨Oct.ret_bool (label_miss s k hlt hl), rfl⟩
        · have hr2 : 97 ≤ (s[k].toNat : Int) := by omega
          go_wp2_with (go_at_call 75; refine (isDigit_any _ _).mono ?_; rintro e w' ⟨rfl, rfl⟩)
          go_ret
          exact ⟨Oct.ret_bool (label_miss s k hlt hl), rfl⟩
    · cases he : s.toList.isEmpty with
      | true =>
        have he' := empty_list he
        have HE := Lib.hid he
        clear he
        go_wp2
        go_ret
        exact ⟨Oct.ret_bool (label_nil s HE.out), rfl⟩
      | false =>
        have he' := empty_no he
        have HE := Lib.hid he
        clear he
        go_wp2
        go_ret
        exact ⟨Oct.ret_bool (label_end s k (by omega) hin HE.out), rfl⟩

/-- What stands behind the last byte 46 is the last part. -/
theorem last_from (s : ByteArray) (i : Nat) (hi : i < s.size) (hc : s[i] = 46) (hn : ∀ j, i < j → (h : j < s.size) → s[j] ≠ 46) : Hst.last s.data.toList = s.data.toList.drop (i + 1) := by
  have e := Oct.split_at s i hi
  rw [hc] at e
  unfold Hst.last Hst.parts
  have e2 : s.data.toList = s.data.toList.take i ++ [46] ++ s.data.toList.drop (i + 1) := by simpa using e
  have h1 : Oct.split (fun x => x == 46) (s.data.toList.drop (i + 1)) = [s.data.toList.drop (i + 1)] := by
    refine Hst.split_one _ _ ?_
    intro b hb
    obtain ⟨j, hj, rfl⟩ := List.mem_iff_getElem.1 hb
    have hj2 : i + 1 + j < s.size := by simp at hj; omega
    have := hn (i + 1 + j) (by omega) hj2
    rw [beq_eq_false_iff_ne]
    intro h
    apply this
    rw [List.getElem_drop] at h
    have h3 : (s.data.toList[i + 1 + j]'(by simpa using hj2)).toNat = 46 := by omega
    have h4 : s.data.toList[i + 1 + j]'(by simpa using hj2) = 46 := UInt8.toNat_inj.1 h3
    exact h4
  rw [e2, Oct.split_glue _ _ _ 46 rfl, ← e2, h1]
  simp
theorem last_whole (s : ByteArray) (hn : ∀ j, (h : j < s.size) → s[j] ≠ 46) : Hst.last s.data.toList = s.data.toList := by
  unfold Hst.last Hst.parts
  rw [Hst.split_one _ _ ?_]
  · rfl
  · intro b hb
    obtain ⟨j, hj, rfl⟩ := List.mem_iff_getElem.1 hb
    have hj2 : j < s.size := by simpa using hj
    have := hn j hj2
    rw [beq_eq_false_iff_ne]
    intro h
    apply this
    have h3 : (s.data.toList[j]).toNat = 46 := by omega
    exact UInt8.toNat_inj.1 h3
theorem last_idx (s : ByteArray) : ∃ k : Nat, k ≤ s.size ∧ Lib.lastIndexByte s 46 + 1 = k ∧ Hst.last s.data.toList = s.data.toList.drop k := by
  have conv : ∀ j (h : j < s.size), s.data[j]! = s[j] := fun j h => by
    have h' : j < s.data.size := h
    rw [getElem!_pos s.data j h']; rfl
  have toI : ∀ j (h : j < s.size), ((s.data[j]!).toNat : Int) = 46 ↔ s[j] = 46 := fun j h => by
    rw [conv j h]
    constructor
    · intro e
      have : s[j].toNat = 46 := by omega
      exact UInt8.toNat_inj.1 this
    · intro e; rw [e]; rfl
  rcases Lib.lastIndexByte_spec s 46 with ⟨h, hn⟩ | ⟨i, hi, h, hc, hn⟩
  · exact ⟨0, Nat.zero_le _, by rw [h]; rfl, by rw [last_whole s (fun j hj e => hn j hj ((toI j hj).2 e))]; rfl⟩
  · exact ⟨i + 1, by omega, by rw [h]; rfl, last_from s i hi ((toI i hi).1 hc) (fun j h1 h2 e => hn j h1 h2 ((toI j h2).2 e))⟩

theorem drop_extract (s : ByteArray) (k : Nat) : (s.extract k s.size).data.toList = s.data.toList.drop k := by
  simp only [ByteArray.data_extract, Array.toList_extract, List.extract_eq_take_drop]
  exact List.take_of_length_le (by simp)

theorem dig_miss {l : List UInt8} {t : ByteArray} (e : t.data.toList = l) (k : Nat) (h : k < t.size) (hc : Oct.digitI t[k].toNat = false) : false = Hst.digB l := by
  subst e; unfold Hst.digB; rw [Oct.allB_miss _ t k h hc]
theorem dig_end {l : List UInt8} {t : ByteArray} (e : t.data.toList = l) (k : Nat) (h : t.size ≤ k) (hi : Oct.allB Oct.digitI (t.data.toList.take k) = true) : true = Hst.digB l := by
  subst e; unfold Hst.digB; rw [Oct.take_all t k h] at hi; exact hi.symm

set_option maxHeartbeats 1000000 in
theorem endsInDigits_any (s : ByteArray) (w : World) (hs : s.size ≤ 1000) : Calls Tryd.prog 54 #[.string s] w fun e w' => e = .returned (.bool (Hst.digB (Hst.last s.data.toList))) ∧ w = w' := by
  obtain ⟨k0, hk0, hi, hl⟩ := last_idx s
  obtain ⟨t, ht⟩ : ∃ t, s.extract k0 s.size = t := ⟨_, rfl⟩
  have htl : t.data.toList = Hst.last s.data.toList := by rw [← ht, hl]; exact drop_extract s k0
  have hts : t.size ≤ 1000 := by rw [← ht]; simp; omega
  obtain ⟨x, hx⟩ : ∃ x, Lib.lastIndexByte s 46 = x := ⟨_, rfl⟩
  rw [hx] at hi
  obtain rfl : x = (k0 : Int) - 1 := by omega
  have HX := Lib.hid hx; have HT := Lib.hid ht; have HTL := Lib.hid htl
  clear hx hi hl ht htl
  go_enter Tryd.func54, Tryd.ntmps54
  go_wp2_with fail
  refine (Tryd.strings_LastIndexByte _ _ (by omega) _).mono ?_
  rintro e w' ⟨rfl, rfl⟩
  rw [HX.out]
  go_wp2_with fail
  have hsz : s.size - k0 = t.size := by rw [← HT.out]; simp
  rw [HT.out, hsz]
  clear hsz
  go_loop [12] (fun i => ∃ k : Nat, k ≤ t.size ∧ i = .int .i64 k ∧ Hid (Oct.allB Oct.digitI (t.data.toList.take k) = true)) (fun i => t.size - (intOf i).toNat)
  case atStart => exact ⟨0, Nat.zero_le _, rfl, rfl⟩
  case round =>
    obtain ⟨k, hk, rfl, hin⟩ := hrel
    by_cases hlt : k < t.size
    · cases hl : Oct.digitI t[k].toNat with
      | true =>
        go_wp2_with (go_at_call 75; refine (isDigit_any _ _).mono ?_; rintro e w' ⟨rfl, rfl⟩)
        go_round
        case rel => exact ⟨k + 1, by omega, by go_num, Oct.allB_next _ t k hlt hin hl⟩
        case measure => simp [intOf]; omega
      | false =>
        go_wp2_with (go_at_call 75; refine (isDigit_any _ _).mono ?_; rintro e w' ⟨rfl, rfl⟩)
        go_ret
        exact ⟨Oct.ret_bool (dig_miss HTL.out k hlt hl), rfl⟩
    · go_wp2
      go_ret
      exact ⟨Oct.ret_bool (dig_end HTL.out k (by omega) hin), rfl⟩

theorem label_len (s : ByteArray) (h : s.size < 1 ∨ 63 < s.size) : false = Hst.labelB s.data.toList := by
  unfold Hst.labelB
  rcases h with h | h
  · have : s.data.toList = [] := List.length_eq_zero_iff.1 (by have : s.data.toList.length = s.size := by simp
                                                               omega)
    rw [this]; simp
  · have : decide (s.data.toList.length ≤ 63) = false := by simp; omega
    rw [this]; simp
theorem label_fin (s : ByteArray) (k : Nat) (h : s.size ≤ k) (hi : Oct.allB Hst.labI (s.data.toList.take k) = true) (h0 : 1 ≤ s.size) (h1 : s.size ≤ 63) : true = Hst.labelB s.data.toList := by
  rw [Oct.take_all s k h] at hi
  unfold Hst.labelB
  rw [hi, show decide (s.data.toList.length ≤ 63) = true by simpa using h1]
  cases hl : s.data.toList with
  | nil => have : s.data.toList.length = s.size := by simp
           rw [hl] at this; simp at this; omega
  | cons a r => rfl
theorem lab_cases {c : Int} (h : Hst.labI c = true) : (97 ≤ c ∧ c ≤ 122) ∨ (48 ≤ c ∧ c ≤ 57 ∧ c < 97) ∨ (c < 97 ∧ c < 48 ∧ (c != 45) = false) ∨ (48 ≤ c ∧ 57 < c ∧ c < 97 ∧ (c != 45) = true ∧ (c != 95) = false) := by
  rcases lab_yes h with hd | ⟨hd, h1, h2⟩ | hc | hc
  · have := digit_bd _ hd; omega
  · exact .inl ⟨h1, h2⟩
  · subst hc; exact .inr (.inr (.inl (by decide)))
  · subst hc; exact .inr (.inr (.inr (by decide)))
theorem lab_bad {c : Int} (h : Hst.labI c = false) : ((c < 97 ∧ c < 48) ∨ (48 ≤ c ∧ 57 < c ∧ c < 97) ∨ (97 ≤ c ∧ 122 < c ∧ 48 ≤ c ∧ 57 < c)) ∧ (c != 45) = true ∧ (c != 95) = true := by
  obtain ⟨hd, hr, h3, h4, h5, h6⟩ := lab_no h
  refine ⟨?_, h5, h6⟩
  simp [Oct.digitI] at hd
  omega

end Go.Proofs.YtehjnidggnfbfaaDoor
