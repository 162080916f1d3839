/- Texts of one layer, joined. -/
import Derived.WalkKit
import Derived.Lib.Bytealg
import Derived.Lib.Strings
import Derived.Test.YtogjekjklknfeaaGreatDoorProg
import Derived.Lib.Hide
import Derived.Lib.Join

/- Plain functions on bytes and lists of bytes (what package octet says), and their laws; no program is named here. -/

namespace Go.Proofs.YtogjekjklknfeaaGreatDoor
namespace Oct

def blankI (c : Int) : Bool := c == 9 || c == 10 || c == 12 || c == 13 || c == 32
def digitI (c : Int) : Bool := decide (48 ≤ c) && decide (c ≤ 57)
def letterI (c : Int) : Bool := (decide (97 ≤ c) && decide (c ≤ 122)) || (decide (65 ≤ c) && decide (c ≤ 90))
/-- Is a byte among others? -/
def inI (c : Int) (l : List UInt8) : Bool := l.any fun b => (b.toNat : Int) == c
def marks14 : List UInt8 := [33, 35, 36, 37, 38, 39, 42, 43, 45, 46, 94, 95, 124, 126]
def marks15 : List UInt8 := [33, 35, 36, 37, 38, 39, 42, 43, 45, 46, 94, 95, 124, 126, 96]
def tcharI (c : Int) : Bool := letterI c || digitI c || (inI c marks14 || c == 96)

theorem inI_nil (c : Int) : inI c [] = false := rfl
theorem inI_snoc (c : Int) (l : List UInt8) (b : UInt8) : inI c (l ++ [b]) = (inI c l || (b.toNat : Int) == c) := by simp [inI, List.any_append]

theorem indexByte_in (l : List UInt8) (c : UInt8) : decide (0 ≤ Lib.indexByte l c) = inI c.toNat l := by
  induction l with
  | nil => rfl
  | cons b l ih =>
    have hg := Lib.indexByte_ge l c
    unfold Lib.indexByte
    have e : ((b.toNat : Int) == (c.toNat : Int)) = (b == c) := by
      rw [Bool.eq_iff_iff]; simp only [beq_iff_eq, Int.natCast_inj, UInt8.toNat_inj]
    have e2 : inI c.toNat (b :: l) = ((b == c) || inI c.toNat l) := by simp [inI, e]
    rw [e2, ← ih]
    by_cases h : (b == c) = true
    · simp [h]
    · simp only [h, Bool.false_or]
      by_cases h1 : Lib.indexByte l c = -1
      · simp [h1]
      · have h2 : 0 ≤ Lib.indexByte l c := by omega
        have h3 : (Lib.indexByte l c == -1) = false := by simpa using h1
        simp [h3, h2]; omega

theorem marks_tok (c : Int) (h0 : 0 ≤ c) (h1 : c ≤ 255) : decide (0 ≤ Lib.indexByte marks15 c.toNat.toUInt8) = (inI c marks14 || c == 96) := by
  rw [indexByte_in]
  have e : ((c.toNat.toUInt8.toNat : Nat) : Int) = c := by simp; omega
  rw [e]
  have : marks15 = marks14 ++ [96] := rfl
  rw [this, inI_snoc]
  congr 1
  show ((96 : Int) == c) = (c == 96)
  rw [Bool.eq_iff_iff]; simp; omega

theorem take_snoc (s : ByteArray) (k : Nat) (h : k < s.size) : s.data.toList.take (k + 1) = s.data.toList.take k ++ [s[k]] := by
  rw [List.take_succ_eq_append_getElem (by simpa using h)]; rfl
theorem take_all (s : ByteArray) (k : Nat) (h : s.size ≤ k) : s.data.toList.take k = s.data.toList := List.take_of_length_le (by simpa using h)
theorem split_at (s : ByteArray) (k : Nat) (h : k < s.size) : s.data.toList = s.data.toList.take k ++ s[k] :: s.data.toList.drop (k + 1) := by
  have h' : k < s.data.toList.length := by simpa using h
  have := List.take_append_drop k s.data.toList
  rw [List.drop_eq_getElem_cons h'] at this
  exact this.symm
theorem ret_bool {a b : Bool} (h : a = b) : Ending.returned (.bool a) = .returned (.bool b) := by rw [h]
theorem ret_int {k : IntKind} {a b : Int} (h : a = b) : Ending.returned (.int k a) = .returned (.int k b) := by rw [h]
theorem ret_str {a b : ByteArray} (h : a = b) : Ending.returned (.string a) = .returned (.string b) := by rw [h]

theorem inI_hit (c : Int) (s : ByteArray) (k : Nat) (h : k < s.size) (hc : ((s[k].toNat : Int) == c) = true) : inI c s.data.toList = true := by
  rw [split_at s k h]; simp only [inI, List.any_append, List.any_cons, hc]; simp
theorem inI_next (c : Int) (s : ByteArray) (k : Nat) (h : k < s.size) (hi : inI c (s.data.toList.take k) = false) (hc : ((s[k].toNat : Int) == c) = false) : inI c (s.data.toList.take (k + 1)) = false := by
  rw [take_snoc s k h, inI_snoc, hi, hc]; rfl

/-- Has a text a byte, and may a token have each of them? -/
def allB (p : Int → Bool) (l : List UInt8) : Bool := l.all fun b => p b.toNat
def tokenB (l : List UInt8) : Bool := allB tcharI l && !l.isEmpty
theorem allB_miss (p : Int → Bool) (s : ByteArray) (k : Nat) (h : k < s.size) (hc : p s[k].toNat = false) : allB p s.data.toList = false := by
  rw [split_at s k h]; simp only [allB, List.all_append, List.all_cons, hc]; simp
theorem allB_next (p : Int → Bool) (s : ByteArray) (k : Nat) (h : k < s.size) (hi : allB p (s.data.toList.take k) = true) (hc : p s[k].toNat = true) : allB p (s.data.toList.take (k + 1)) = true := by
  rw [take_snoc s k h]; simp only [allB, List.all_append, List.all_cons, hc]; simpa [allB] using hi
def trim (l : List UInt8) : List UInt8 := ((l.dropWhile fun b => blankI b.toNat).reverse.dropWhile fun b => blankI b.toNat).reverse
theorem trim_of (l : List UInt8) (k m : Nat) (h1 : k ≤ m) (h2 : m ≤ l.length) (ha : allB blankI (l.take k) = true) (hb : allB blankI (l.drop m) = true)
    (hx : k = m ∨ (∃ h : k < l.length, blankI (l[k]'h).toNat = false) ∧ ∃ h : m - 1 < l.length, blankI (l[m - 1]'h).toNat = false) : trim l = (l.drop k).take (m - k) := by
  have e1 : l = l.take k ++ l.drop k := (List.take_append_drop k l).symm
  have e2 : l.drop k = (l.drop k).take (m - k) ++ l.drop m := by
    have := (List.take_append_drop (m - k) (l.drop k)).symm
    rwa [List.drop_drop, show k + (m - k) = m by omega] at this
  have ha' : ∀ b ∈ l.take k, blankI b.toNat = true := by simpa [allB] using ha
  have hb' : ∀ b ∈ (l.drop m).reverse, blankI b.toNat = true := by simpa [allB] using hb
  unfold trim
  rw [e1, List.dropWhile_append_of_pos ha', ← e1]
  rcases hx with hx | ⟨⟨g1, hx1⟩, ⟨g2, hx2⟩⟩
  · subst hx
    have : l.dropWhile (fun b => blankI b.toNat) = [] := by
      rw [e1, List.dropWhile_append_of_pos ha']
      have := List.dropWhile_append_of_pos (l₁ := l.drop k) (l₂ := []) (p := fun b => blankI b.toNat) (by simpa using hb')
      simpa using this
    have h3 : (l.drop k).dropWhile (fun b => blankI b.toNat) = [] := by
      have := List.dropWhile_append_of_pos (l₁ := l.drop k) (l₂ := []) (p := fun b => blankI b.toNat) (by simpa using hb')
      simpa using this
    rw [h3]; simp
  · have hkm : k < m := by
      rcases Nat.lt_or_ge k m with h | h
      · exact h
      · exfalso
        have hkm : k = m := by omega
        subst hkm
        have := hb' (l[k]) (by simp; exact List.mem_drop_iff_getElem.2 ⟨0, by simpa using g1, by simp⟩)
        rw [this] at hx1; cases hx1
    have e3 : (l.drop k).dropWhile (fun b => blankI b.toNat) = l.drop k := by
      rw [List.drop_eq_getElem_cons g1, List.dropWhile_cons_of_neg (by simp [hx1])]
    have e4 : (l.drop k).take (m - k) = (l.drop k).take (m - k - 1) ++ [l[m - 1]] := by
      have hl : m - k - 1 < (l.drop k).length := by simp; omega
      have := List.take_succ_eq_append_getElem hl
      rw [show m - k - 1 + 1 = m - k by omega] at this
      rw [this]; congr 2; simp; congr 1; omega
    rw [e3]
    generalize (l.drop k).take (m - k - 1) = pre at e4
    generalize (l.drop k).take (m - k) = mid at *
    rw [e2, List.reverse_append, List.dropWhile_append_of_pos hb', e4, List.reverse_append]
    simp only [List.reverse_cons, List.reverse_nil, List.nil_append, List.singleton_append]
    rw [List.dropWhile_cons_of_neg (by simp [hx2])]
    simp
theorem trim_ret (s : ByteArray) (k m : Nat) (h1 : k ≤ m) (h2 : m ≤ s.size) (ha : allB blankI (s.data.toList.take k) = true) (hb : allB blankI (s.data.toList.drop m) = true)
    (hx : k = m ∨ (∃ h : k < s.size, blankI (s[k]'h).toNat = false) ∧ ∃ h : m - 1 < s.size, blankI (s[m - 1]'h).toNat = false) : s.extract k m = ⟨(trim s.data.toList).toArray⟩ := by
  have h := trim_of s.data.toList k m h1 (by simpa using h2) ha hb (by
    rcases hx with hx | ⟨⟨a, b⟩, ⟨c, d⟩⟩
    · exact .inl hx
    · exact .inr ⟨⟨by simpa using a, b⟩, ⟨by simpa using c, d⟩⟩)
  rw [h, ← Lib.extract_data]
theorem allB_end (p : Int → Bool) (s : ByteArray) : allB p (s.data.toList.drop s.size) = true := by
  rw [List.drop_of_length_le (by simp)]; rfl
theorem allB_drop (p : Int → Bool) (s : ByteArray) (m : Nat) (h0 : 0 < m) (h : m - 1 < s.size) (hi : allB p (s.data.toList.drop m) = true) (hc : p (s[m - 1]'h).toNat = true) : allB p (s.data.toList.drop (m - 1)) = true := by
  have h' : m - 1 < s.data.toList.length := by simpa using h
  rw [List.drop_eq_getElem_cons h']
  simp only [allB, List.all_cons, show m - 1 + 1 = m by omega]
  simp only [allB] at hi
  rw [hi, Bool.and_true]
  exact hc
end Oct
end Go.Proofs.YtogjekjklknfeaaGreatDoor

/- The numbers that digits tell: plain functions and their laws; no program is named here. -/

namespace Go.Proofs.YtogjekjklknfeaaGreatDoor
namespace Oct

/-- The number that digits tell; may it be told at all, up to most? -/
def val (l : List UInt8) : Int := l.foldl (fun n b => 10 * n + ((b.toNat : Int) - 48)) 0
def numOk (l : List UInt8) (most : Int) : Bool := !l.isEmpty && !(decide (1 < l.length) && l.headD 0 == 48) && allB digitI l && decide (val l ≤ most)
def numV (l : List UInt8) (most : Int) : Int := if numOk l most then val l else 0
theorem val_snoc (l : List UInt8) (b : UInt8) : val (l ++ [b]) = 10 * val l + ((b.toNat : Int) - 48) := by simp [val, List.foldl_append]
theorem val_ge (l r : List UInt8) (h : allB digitI r = true) (h0 : 0 ≤ val l) : val l ≤ val (l ++ r) := by
  induction r generalizing l with
  | nil => simp
  | cons b r ih =>
    have h1 : digitI b.toNat = true ∧ allB digitI r = true := by simpa [allB] using h
    have h2 : (48 : Int) ≤ b.toNat := by have := h1.1; simp [digitI] at this; omega
    have e := val_snoc l b
    have := ih (l ++ [b]) h1.2 (by omega)
    rw [List.append_assoc] at this
    simp only [List.singleton_append] at this
    omega
theorem val_nonneg (l : List UInt8) (h : allB digitI l = true) : 0 ≤ val l := by
  have := val_ge [] l h (by simp [val])
  simpa [val] using this
theorem numOk_big (s : ByteArray) (k : Nat) (most : Int) (h : k < s.size) (ha : allB digitI (s.data.toList.take k) = true) (hd : digitI s[k].toNat = true)
    (hv : most < 10 * val (s.data.toList.take k) + ((s[k].toNat : Int) - 48)) : numOk s.data.toList most = false := by
  unfold numOk
  by_cases hall : allB digitI s.data.toList = true
  · have h1 := val_ge (s.data.toList.take (k + 1)) (s.data.toList.drop (k + 1)) (by
      have e := List.take_append_drop (k + 1) s.data.toList
      rw [← e] at hall
      simp only [allB, List.all_append, Bool.and_eq_true] at hall
      exact hall.2) (val_nonneg _ (allB_next _ s k h ha hd))
    rw [List.take_append_drop, take_snoc s k h, val_snoc] at h1
    rw [show decide (val s.data.toList ≤ most) = false by simp; omega]
    simp
  · simp [hall]
theorem numOk_miss (s : ByteArray) (k : Nat) (most : Int) (h : k < s.size) (hd : digitI s[k].toNat = false) : numOk s.data.toList most = false := by
  unfold numOk; rw [allB_miss _ s k h hd]; simp
theorem numOk_neg (s : ByteArray) (most : Int) (h : most < 0) : numOk s.data.toList most = false := by
  unfold numOk
  by_cases hall : allB digitI s.data.toList = true
  · have := val_nonneg _ hall
    rw [show decide (val s.data.toList ≤ most) = false by simp; omega]
    simp
  · simp [hall]
theorem numOk_nil (s : ByteArray) (most : Int) (h : s.toList.isEmpty = true) : numOk s.data.toList most = false := by
  unfold numOk; rw [Lib.toList_data] at h; rw [h]; simp
theorem head_at (s : ByteArray) (h : 0 < s.size) : s.data.toList.headD 0 = s[0] := by
  have e := split_at s 0 h
  generalize s[0] = c at *
  rw [e]; rfl
theorem numOk_zero (s : ByteArray) (most : Int) (h : 1 < s.size) (h0 : ((s[0].toNat : Int) == 48) = true) : numOk s.data.toList most = false := by
  have h1 : s[0] = 48 := by
    have : s[0].toNat = 48 := by have := beq_iff_eq.1 h0; omega
    exact UInt8.toNat_inj.1 this
  unfold numOk
  rw [head_at s (by omega), h1]
  have h2 : decide (1 < s.data.toList.length) = true := by simpa using h
  rw [h2]; simp
theorem numOk_end (s : ByteArray) (most : Int) (h0 : s.toList.isEmpty = false) (hz : 1 < s.size → ((s[0]!.toNat : Int) == 48) = false) (ha : allB digitI s.data.toList = true) (hv : val s.data.toList ≤ most) : numOk s.data.toList most = true := by
  rw [Lib.toList_data] at h0
  unfold numOk
  rw [h0, ha, show decide (val s.data.toList ≤ most) = true by simpa using hv]
  by_cases h1 : 1 < s.size
  · have h2 := hz h1
    have e : s[0]! = s[0] := by simp [show 0 < s.size by omega]
    rw [e] at h2
    rw [head_at s (by omega)]
    have h3 : (s[0] == 48) = false := by
      rw [beq_eq_false_iff_ne]; intro h; rw [h] at h2; simp at h2
    rw [h3]; simp
  · have h2 : decide (1 < s.data.toList.length) = false := by simpa using h1
    rw [h2]; simp
end Oct
end Go.Proofs.YtogjekjklknfeaaGreatDoor

/- A number that is told has the digits that it was told by. No program is named here. -/

namespace Go.Proofs.YtogjekjklknfeaaGreatDoor
namespace Oct

theorem val_take (l : List UInt8) (i : Nat) (h : i < l.length) : val (l.take (i + 1)) = 10 * val (l.take i) + ((l[i].toNat : Int) - 48) := by
  rw [List.take_succ_eq_append_getElem h, val_snoc]
theorem allB_at (p : Int → Bool) (l : List UInt8) (h : allB p l = true) (i : Nat) (hi : i < l.length) : p l[i].toNat = true := by
  unfold allB at h
  rw [List.all_eq_true] at h
  exact h _ (List.getElem_mem hi)
theorem allB_take (p : Int → Bool) (l : List UInt8) (h : allB p l = true) (i : Nat) : allB p (l.take i) = true := by
  unfold allB at *
  rw [List.all_eq_true] at *
  intro x hx
  exact h x (List.mem_of_mem_take hx)
theorem numOk_parts (l : List UInt8) (most : Int) (h : numOk l most = true) : 0 < l.length ∧ (1 < l.length → l.headD 0 ≠ 48) ∧ allB digitI l = true ∧ val l ≤ most := by
  unfold numOk at h
  simp only [Bool.and_eq_true, decide_eq_true_eq] at h
  obtain ⟨⟨⟨h1, h2⟩, h3⟩, h4⟩ := h
  refine ⟨?_, ?_, h3, h4⟩
  · cases l with
    | nil => simp at h1
    | cons a r => simp
  · intro hl he
    rw [he] at h2
    simp [hl] at h2
/-- The first digit is not 0: from the first digit on the number is not less than a power of ten. -/
theorem val_pow (l : List UInt8) (ha : allB digitI l = true) (h0 : l.headD 0 ≠ 48) : ∀ j, j < l.length → (10 : Int) ^ j ≤ val (l.take (j + 1))
  | 0, h => by
    rw [val_take l 0 h]
    have hd := allB_at digitI l ha 0 h
    have h1 : l[0] ≠ 48 := by
      cases l with
      | nil => simp at h
      | cons a r => simpa using h0
    have h2 : l[0].toNat ≠ 48 := fun e => h1 (UInt8.toNat_inj.1 e)
    simp [digitI] at hd
    have : val (l.take 0) = 0 := rfl
    rw [this]
    simp
    omega
  | j + 1, h => by
    rw [val_take l (j + 1) h]
    have ih := val_pow l ha h0 j (by omega)
    have hd := allB_at digitI l ha (j + 1) h
    simp [digitI] at hd
    rw [Int.pow_succ]
    omega
theorem digits_len (l : List UInt8) (most : Int) (h : numOk l most = true) (hm : most ≤ 9223372036854775807) : l.length ≤ 19 := by
  obtain ⟨h1, h2, h3, h4⟩ := numOk_parts l most h
  rcases Nat.lt_or_ge l.length 20 with hl | hl
  · omega
  · exfalso
    have this : (10 : Int) ^ 19 ≤ val (l.take 20) := val_pow l h3 (h2 (by omega)) 19 (by omega)
    have h5 := val_ge (l.take 20) (l.drop 20) (by
      have e := List.take_append_drop 20 l
      rw [← e] at h3
      simp only [allB, List.all_append, Bool.and_eq_true] at h3
      exact h3.2) (val_nonneg _ (allB_take _ _ h3 20))
    rw [List.take_append_drop] at h5
    have h6 : (10 : Int) ^ 19 = 10000000000000000000 := by decide
    rw [h6] at this
    omega
theorem val_zero (l : List UInt8) (most : Int) (h : numOk l most = true) (hv : val l = 0) : l = [48] := by
  obtain ⟨h1, h2, h3, _⟩ := numOk_parts l most h
  by_cases hl : 1 < l.length
  · exfalso
    have := val_pow l h3 (h2 hl) (l.length - 1) (by omega)
    rw [show l.length - 1 + 1 = l.length by omega, List.take_length, hv] at this
    have : (0 : Int) < 10 ^ (l.length - 1) := Int.pow_pos (by decide)
    omega
  · cases l with
    | nil => simp at h1
    | cons a r =>
      have hr : r = [] := List.length_eq_zero_iff.1 (by simp only [List.length_cons] at hl; omega)
      subst hr
      have hd := allB_at digitI [a] h3 0 (by simp)
      simp [digitI] at hd
      simp [val] at hv
      have : a.toNat = 48 := by omega
      have : a = 48 := UInt8.toNat_inj.1 this
      rw [this]
theorem val_pos (l : List UInt8) (most : Int) (h : numOk l most = true) (hv : 0 < val l) (j : Nat) (hj : 0 < j) (hj2 : j ≤ l.length) : 0 < val (l.take j) := by
  obtain ⟨h1, h2, h3, _⟩ := numOk_parts l most h
  by_cases hl : 1 < l.length
  · have := val_pow l h3 (h2 hl) (j - 1) (by omega)
    rw [show j - 1 + 1 = j by omega] at this
    have : (0 : Int) < 10 ^ (j - 1) := Int.pow_pos (by decide)
    omega
  · have : j = l.length := by omega
    rw [this, List.take_length]; exact hv
theorem digit_step (l : List UInt8) (ha : allB digitI l = true) (i : Nat) (h : i < l.length) (v : Int) (hv : v = val (l.take (i + 1))) : v / 10 = val (l.take i) ∧ UInt8.ofNat (48 + v % 10).toNat = l[i] := by
  rw [val_take l i h] at hv
  have hd := allB_at digitI l ha i h
  simp [digitI] at hd
  refine ⟨by omega, ?_⟩
  have e : (48 + v % 10).toNat = l[i].toNat := by omega
  rw [e]; simp
end Oct
end Go.Proofs.YtogjekjklknfeaaGreatDoor

/- The contracts of octet's and the document's functions of one byte. -/


namespace Go.Proofs.YtogjekjklknfeaaGreatDoor
open Go.RowKit

set_option maxHeartbeats 400000 in
theorem rdigit_any (c : Int) (w : World) : Calls Tryz.prog 116 #[.int .u8 c] w fun e w' => e = .returned (.bool (Oct.digitI c)) ∧ w = w' := by
  go_enter Tryz.func116, Tryz.ntmps116
  go_wp2
  all_goals (go_ret; refine ⟨?_, rfl⟩; simp_all [Oct.digitI] <;> omega)
set_option maxHeartbeats 400000 in
theorem rletter_any (c : Int) (w : World) : Calls Tryz.prog 115 #[.int .u8 c] w fun e w' => e = .returned (.bool (Oct.letterI c)) ∧ w = w' := by
  go_enter Tryz.func115, Tryz.ntmps115
  go_wp2
  all_goals (go_ret; refine ⟨?_, rfl⟩; simp_all [Oct.letterI] <;> omega)

set_option maxHeartbeats 400000 in
theorem rin_any (c : Int) (s : ByteArray) (w : World) (hs : s.size ≤ maxLen) : Calls Tryz.prog 156 #[.int .u8 c, .string s] w fun e w' => e = .returned (.bool (Oct.inI c s.data.toList)) ∧ w = w' := by
  unfold maxLen at hs
  go_enter Tryz.func156, Tryz.ntmps156
  go_wp2
  go_loop [5] (fun i => ∃ k : Nat, k ≤ s.size ∧ i = .int .i64 k ∧ Hid (Oct.inI c (s.data.toList.take k) = false)) (fun i => s.size - (intOf i).toNat)
  case atStart => exact ⟨0, Nat.zero_le _, rfl, rfl⟩
  case round =>
    obtain ⟨k, hk, rfl, hin⟩ := hrel
    by_cases hlt : k < s.size
    · go_wp2
      · go_ret
        exact ⟨Oct.ret_bool (Oct.inI_hit c s k hlt (by assumption)).symm, rfl⟩
      · go_round
        case rel => exact ⟨k + 1, by omega, by go_num, Oct.inI_next c s k hlt hin (by assumption)⟩
        case measure => simp [intOf]; omega
    · go_wp2
      go_ret
      exact ⟨Oct.ret_bool (by rw [← Oct.take_all s k (by omega), hin.out]), rfl⟩

set_option maxHeartbeats 400000 in
theorem rtchar_any (c : Int) (w : World) : Calls Tryz.prog 139 #[.int .u8 c] w fun e w' => e = .returned (.bool (Oct.tcharI c)) ∧ w = w' := by
  go_enter Tryz.func139, Tryz.ntmps139
  go_wp2_with (first
    | (go_at_call 115; refine (rletter_any _ _).mono ?_; rintro e w' ⟨rfl, rfl⟩)
    | (go_at_call 116; refine (rdigit_any _ _).mono ?_; rintro e w' ⟨rfl, rfl⟩)
    | (go_at_call 156; refine (rin_any _ _ _ (by decide)).mono ?_; rintro e w' ⟨rfl, rfl⟩))
  all_goals (go_ret; exact ⟨Oct.ret_bool (by simp_all [Oct.tcharI, Oct.marks14]), rfl⟩)

set_option maxHeartbeats 1000000 in
set_option maxRecDepth 100000 in
theorem slIndexByte_any (s : ByteArray) (c : Int) (w : World) : Calls Tryz.prog 157 #[.string s, .int .u8 c] w fun e w' => e = .returned (.int .i64 (Lib.indexByte s.data.toList c.toNat.toUInt8)) ∧ w = w' := by
  go_enter Tryz.func157, Tryz.ntmps157
  go_wp2
  rw [run_callFunc_extern Tryz.func170 (by kernel_rfl) (by kernel_rfl) (by kernel_rfl) (e := Extern.BytealgIndexByte.indexByte) (by kernel_rfl), Lib.run_indexByteString]
  simp only [Result.andThen]
  rw [Oper.upon_value]
  go_wp2
  go_ret
  exact ⟨rfl, rfl⟩
theorem indexByte_any (s : ByteArray) (c : Int) (w : World) : Calls Tryz.prog 140 #[.string s, .int .u8 c] w fun e w' => e = .returned (.int .i64 (Lib.indexByte s.data.toList c.toNat.toUInt8)) ∧ w = w' := by
  go_enter Tryz.func140, Tryz.ntmps140
  go_wp2_with (go_at_call 157; refine (slIndexByte_any _ _ _).mono ?_; rintro e w' ⟨rfl, rfl⟩)
  go_ret
  exact ⟨rfl, rfl⟩

end Go.Proofs.YtogjekjklknfeaaGreatDoor

/- Texts as lists of bytes. No function of the program is named here. -/

namespace Go.Proofs.YtogjekjklknfeaaGreatDoor

/-- A text as a value: bytes as a list. -/
abbrev bA (l : List UInt8) : ByteArray := ⟨l.toArray⟩
theorem bA_size (l : List UInt8) : (bA l).size = l.length := rfl
theorem bA_of (s : ByteArray) : bA s.data.toList = s := rfl
theorem bA_app (a b : List UInt8) : bA a ++ bA b = bA (a ++ b) := by
  apply ByteArray.ext
  simp
namespace Byt
theorem drop_ext (s : ByteArray) (k : Nat) : s.extract k s.size = bA (s.data.toList.drop k) := by
  rw [Lib.extract_eq, List.take_of_length_le (by simp)]
theorem take_ext (s : ByteArray) (k : Nat) : s.extract 0 k = bA (s.data.toList.take k) := by
  rw [Lib.extract_eq]; simp
theorem while_hit (p : Int → Bool) (s : ByteArray) (k : Nat) (h : k < s.size) (hi : Oct.allB p (s.data.toList.take k) = true) (hc : p s[k].toNat = false) :
    (s.data.toList.takeWhile fun b => p b.toNat) = s.data.toList.take k ∧ (s.data.toList.dropWhile fun b => p b.toNat) = s.data.toList.drop k := by
  have h' : k < s.data.toList.length := by simpa using h
  have ha : ∀ b ∈ s.data.toList.take k, p b.toNat = true := by simpa [Oct.allB] using hi
  have e := List.take_append_drop k s.data.toList
  have hd : s.data.toList.drop k = s[k] :: s.data.toList.drop (k + 1) := by rw [List.drop_eq_getElem_cons h']; rfl
  constructor
  · rw [← e, List.takeWhile_append_of_pos ha, hd, List.takeWhile_cons_of_neg (by rw [hc]; simp), List.append_nil, ← hd, e]
  · rw [← e, List.dropWhile_append_of_pos ha, hd, List.dropWhile_cons_of_neg (by rw [hc]; simp), ← hd, e]
theorem while_all (p : Int → Bool) (s : ByteArray) (k : Nat) (h : s.size ≤ k) (hi : Oct.allB p (s.data.toList.take k) = true) :
    (s.data.toList.takeWhile fun b => p b.toNat) = s.data.toList ∧ (s.data.toList.dropWhile fun b => p b.toNat) = [] := by
  rw [Oct.take_all s k h] at hi
  have ha : ∀ b ∈ s.data.toList, p b.toNat = true := List.all_eq_true.1 hi
  constructor
  · have := List.takeWhile_append_of_pos (l₁ := s.data.toList) (l₂ := []) ha
    simpa using this
  · have := List.dropWhile_append_of_pos (l₁ := s.data.toList) (l₂ := []) ha
    simpa using this
/-- The head of a text, and what stands behind. -/
theorem uncons (s : ByteArray) (h : 0 < s.size) : s.data.toList = s[0] :: (s.extract 1 s.size).data.toList := by
  have e := Oct.split_at s 0 h
  rw [drop_ext]
  simpa using e
theorem nil_of (s : ByteArray) (h : ¬ 0 < s.size) : s.data.toList = [] := by
  have e : s.data.toList.length = s.size := by simp
  exact List.length_eq_zero_iff.1 (by omega)
def sOf : Value → ByteArray | .string s => s | _ => ⟨#[]⟩
end Byt
end Go.Proofs.YtogjekjklknfeaaGreatDoor
