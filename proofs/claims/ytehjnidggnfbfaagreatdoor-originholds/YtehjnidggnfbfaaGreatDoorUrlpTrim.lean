/- What the library's trimming of the bytes up to 32 comes to: plain bytes, valid as UTF-8 or not. No function of the program is walked here. -/
import Derived.Test.YtehjnidggnfbfaaGreatDoorUrlpMath
import Derived.Lib.TrimUEq
import Derived.Shelf.GgClosure.StringsTrimFunc
namespace Go.Proofs.YtehjnidggnfbfaaGreatDoor
namespace Urp
open Go.Lib

def outR (r : Nat) : Bool := decide (r ≤ 32)
set_option maxRecDepth 100000 in
theorem decodeN_big (n b0 b1 b2 b3 : Nat) (h : 128 ≤ b0) : 32 < (decodeN n b0 b1 b2 b3).1 := by
  unfold decodeN
  repeat' split
  all_goals first | (exfalso; omega) | (simp only; omega)
theorem getD_get (l : List UInt8) (i : Nat) (h : i < l.length) : l.getD i 0 = l[i] := by simp [List.getD, h]
theorem left_eq (s : ByteArray) : ∀ (f pos : Nat), s.size ≤ pos + f →
    (s.data.toList.drop pos).dropWhile outerB = if idxFuncFrom outR false s f pos = -1 then [] else s.data.toList.drop (idxFuncFrom outR false s f pos).toNat
  | 0, pos, h => by
    rw [List.drop_of_length_le (by rw [← size_eq]; omega)]; rfl
  | f + 1, pos, h => by
    unfold idxFuncFrom
    by_cases hp : pos < s.size
    · have hpl : pos < s.data.toList.length := by rw [← size_eq]; exact hp
      rw [if_pos hp, decode_N]
      have hg := getD_get s.data.toList pos hpl
      rw [List.drop_eq_getElem_cons hpl, ← hg]
      generalize hb : s.data.toList.getD pos 0 = b
      by_cases ha : b.toNat < 128
      · rw [decodeN_ascii _ _ _ _ _ ha]
        simp only
        by_cases ho : b.toNat ≤ 32
        · have e : outR b.toNat = true := by simpa [outR] using ho
          simp only [e, Bool.true_eq_false, if_false]
          rw [List.dropWhile_cons_of_pos (by simpa [outerB] using ho)]
          exact left_eq s f (pos + 1) (by omega)
        · have e : outR b.toNat = false := by simpa [outR] using ho
          rw [e, if_pos rfl, List.dropWhile_cons_of_neg (by simpa [outerB] using ho), if_neg (by omega), Int.toNat_natCast, ← hb, hg, ← List.drop_eq_getElem_cons hpl]
      · have hbig := decodeN_big (s.data.toList.length - pos) b.toNat (s.data.toList.getD (pos + 1) 0).toNat (s.data.toList.getD (pos + 2) 0).toNat (s.data.toList.getD (pos + 3) 0).toNat (by omega)
        have e : outR (decodeN (s.data.toList.length - pos) b.toNat (s.data.toList.getD (pos + 1) 0).toNat (s.data.toList.getD (pos + 2) 0).toNat (s.data.toList.getD (pos + 3) 0).toNat).1 = false := by simpa [outR] using hbig
        rw [e, if_pos rfl, List.dropWhile_cons_of_neg (by simp [outerB]; omega), if_neg (by omega), Int.toNat_natCast, ← hb, hg, ← List.drop_eq_getElem_cons hpl]
    · rw [if_neg hp, List.drop_of_length_le (by rw [← size_eq]; omega)]; rfl
theorem trimLeft_eq (s : ByteArray) : (trimLeftF outR s).data.toList = s.data.toList.dropWhile outerB := by
  have h := left_eq s s.size 0 (by omega)
  rw [List.drop_zero] at h
  rw [h]
  unfold trimLeftF idxFunc
  split
  · rfl
  · rw [extract_data, List.take_of_length_le (by rw [List.length_drop, ← size_eq]; exact Nat.le_refl _)]

theorem last_big (l : List UInt8) (i : Nat) (hi : 0 < i) (hil : i ≤ l.length) (h : 128 ≤ (l.getD (i - 1) 0).toNat) : 32 < (decodeLastL (l.take i)).1 := by
  rcases last_cases l i hi hil with ⟨ha, _⟩ | ⟨_, hd⟩ | ⟨_, st, hst, hd, hsum⟩
  · omega
  · rw [hd]; decide
  · rw [hd, decodeL_N]
    rw [decodeL_N] at hsum
    refine decodeN_big _ _ _ _ _ ?_
    rw [getD_dropU, Nat.add_zero, getD_takeU l i st hst] at hsum ⊢
    rcases Nat.lt_or_ge (l.getD st 0).toNat 128 with hlt | hge
    · rw [decodeN_ascii _ _ _ _ _ hlt] at hsum
      have : st = i - 1 := by simp only at hsum; omega
      subst this; omega
    · exact hge
theorem rev_take (l : List UInt8) (i : Nat) (hi : 0 < i) (hil : i ≤ l.length) : (l.take i).reverse = l.getD (i - 1) 0 :: (l.take (i - 1)).reverse := by
  have h : i - 1 < l.length := by omega
  have e := List.take_succ_eq_append_getElem h
  rw [show i - 1 + 1 = i by omega] at e
  rw [e, getD_get l (i - 1) h]
  simp
theorem right_eq (s : ByteArray) : ∀ (f i : Nat), i ≤ f → i ≤ s.data.toList.length → OpenAt s.data.toList i →
    ((s.data.toList.take i).reverse.dropWhile outerB).reverse = s.data.toList.take (if 0 ≤ lastIdxFuncFrom outR false s f i then (lastIdxFuncFrom outR false s f i).toNat + (decodeL (s.data.toList.drop (lastIdxFuncFrom outR false s f i).toNat)).2 else 0)
  | 0, i, hf, _, _ => by
    obtain rfl : i = 0 := by omega
    simp [lastIdxFuncFrom]
  | f + 1, i, hf, hil, ho => by
    by_cases hi : 0 < i
    · have hw := decodeLastL_width (s.data.toList.take i) (by rw [List.length_take]; omega)
      rw [List.length_take, Nat.min_eq_left hil] at hw
      have hfw := fw_width _ i hi hil ho
      have hstop : ∀ (_ : outR (decodeLastL (s.data.toList.take i)).1 = false) (_ : outerB (s.data.toList.getD (i - 1) 0) = false),
          ((s.data.toList.take i).reverse.dropWhile outerB).reverse = s.data.toList.take (if 0 ≤ lastIdxFuncFrom outR false s (f + 1) i then (lastIdxFuncFrom outR false s (f + 1) i).toNat + (decodeL (s.data.toList.drop (lastIdxFuncFrom outR false s (f + 1) i).toNat)).2 else 0) := by
        intro h1 h2
        unfold lastIdxFuncFrom
        rw [if_pos hi, if_pos h1, if_pos (by omega), Int.toNat_natCast, hfw, Nat.sub_add_cancel hw.2, rev_take _ i hi hil, List.dropWhile_cons_of_neg (by rw [h2]; simp), ← rev_take _ i hi hil, List.reverse_reverse]
      by_cases hb : (s.data.toList.getD (i - 1) 0).toNat < 128
      · have hd : decodeLastL (s.data.toList.take i) = ((s.data.toList.getD (i - 1) 0).toNat, 1) := by
          rcases last_cases _ i hi hil with ⟨_, hd⟩ | ⟨ha, _⟩ | ⟨ha, _⟩
          · exact hd
          · omega
          · omega
        by_cases h32 : (s.data.toList.getD (i - 1) 0).toNat ≤ 32
        · have e : outR (s.data.toList.getD (i - 1) 0).toNat = true := by simpa [outR] using h32
          unfold lastIdxFuncFrom
          rw [if_pos hi, hd]
          simp only [e, Bool.true_eq_false, if_false]
          rw [rev_take _ i hi hil, List.dropWhile_cons_of_pos (by simpa [outerB] using h32)]
          exact right_eq s f (i - 1) (by omega) (by omega) (.inr (by omega))
        · exact hstop (by rw [hd]; simpa [outR] using h32) (by simpa [outerB] using h32)
      · exact hstop (by have := last_big _ i hi hil (by omega); simpa [outR] using this) (by unfold outerB; exact decide_eq_false (by omega))
    · obtain rfl : i = 0 := by omega
      rw [lastIdxFuncFrom_zero]
      simp
theorem lastIdx_lt (s : ByteArray) : ∀ (f i : Nat), i ≤ s.size → lastIdxFuncFrom outR false s f i = -1 ∨ (0 ≤ lastIdxFuncFrom outR false s f i ∧ lastIdxFuncFrom outR false s f i < i)
  | 0, _, _ => .inl rfl
  | f + 1, i, hi => by
    unfold lastIdxFuncFrom
    split
    · have hw := decodeLastL_width (s.data.toList.take i) (by rw [List.length_take, ← size_eq]; omega)
      rw [List.length_take, ← size_eq, Nat.min_eq_left hi] at hw
      split
      · exact .inr ⟨by omega, by omega⟩
      · rcases lastIdx_lt s f (i - (decodeLastL (s.data.toList.take i)).2) (by omega) with h | h
        · exact .inl h
        · exact .inr ⟨h.1, by omega⟩
    · exact .inl rfl
theorem trimRight_eq (s : ByteArray) : (trimRightF outR s).data.toList = (s.data.toList.reverse.dropWhile outerB).reverse := by
  have h := right_eq s s.size s.size (Nat.le_refl _) (by rw [← size_eq]; exact Nat.le_refl _) (.inl (size_eq s))
  rw [List.take_of_length_le (by rw [← size_eq]; exact Nat.le_refl _)] at h
  rw [h]
  unfold trimRightF rightEndF lastIdxFunc
  rw [extract_data, List.drop_zero, Nat.sub_zero]
  congr 1
  split
  · rename_i h0
    congr 2
    rcases lastIdx_lt s s.size s.size (Nat.le_refl _) with hm | hlt
    · omega
    · have hx : s.extract (lastIdxFuncFrom outR false s s.size s.size).toNat s.size = ⟨(s.data.toList.drop (lastIdxFuncFrom outR false s s.size s.size).toNat).toArray⟩ := by
        rw [extract_eq, List.take_of_length_le (by rw [List.length_drop, ← size_eq]; exact Nat.le_refl _)]
      have hxs : (⟨(s.data.toList.drop (lastIdxFuncFrom outR false s s.size s.size).toNat).toArray⟩ : ByteArray).size ≠ 0 := by
        rw [size_eq]
        simp only [List.length_drop]
        rw [← size_eq]
        omega
      rw [hx]
      unfold decodeGoB decodeL
      rw [if_neg hxs]
  · rfl
theorem trimF_eq (s : ByteArray) : trimF outR s = ⟨(trimU s.data.toList).toArray⟩ := by
  have h : (trimF outR s).data.toList = trimU s.data.toList := by
    unfold trimF trimU
    rw [trimRight_eq, trimLeft_eq]
  rw [← h]
end Urp
end Go.Proofs.YtehjnidggnfbfaaGreatDoor
