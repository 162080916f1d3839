/- Plain functions on bytes and lists of bytes (what package octet says), and their laws; no program is named here. -/
import Derived.WalkKit
import Derived.Lib.Bytealg
import Derived.Lib.Strings
namespace Go.Proofs.Ytnnjfiknfmjliaa
namespace Oct

def blankI (c : Int) : Bool := c == 9 || c == 10 || c == 12 || c == 13 || c == 32
def digitI (c : Int) : Bool := decide (48 ≤ c) && decide (c ≤ 57)
def letterI (c : Int) : Bool := (decide (97 ≤ c) && decide (c ≤ 122)) || (decide (65 ≤ c) && decide (c ≤ 90))
/-- Is a byte among others? -/
def inI (c : Int) (l : List UInt8) : Bool := l.any fun b => (b.toNat : Int) == c
def marks14 : List UInt8 := [33, 35, 36, 37, 38, 39, 42, 43, 45, 46, 94, 95, 124, 126]
def marks15 : List UInt8 := [33, 35, 36, 37, 38, 39, 42, 43, 45, 46, 94, 95, 124, 126, 96]
def tcharI (c : Int) : Bool := letterI c || digitI c || (inI c marks14 || c == 96)

theorem inI_nil (c : Int) : inI c [] = false := rfl
theorem inI_snoc (c : Int) (l : List UInt8) (b : UInt8) : inI c (l ++ [b]) = (inI c l || (b.toNat : Int) == c) := by simp [inI, List.any_append]

theorem indexByte_in (l : List UInt8) (c : UInt8) : decide (0 ≤ Lib.indexByte l c) = inI c.toNat l := by
  induction l with
  | nil => rfl
  | cons b l ih =>
    have hg := Lib.indexByte_ge l c
    unfold Lib.indexByte
    have e : ((b.toNat : Int) == (c.toNat : Int)) = (b == c) := by
      rw [Bool.eq_iff_iff]; simp only [beq_iff_eq, Int.natCast_inj, UInt8.toNat_inj]
    have e2 : inI c.toNat (b :: l) = ((b == c) || inI c.toNat l) := by simp [inI, e]
    rw [e2, ← ih]
    by_cases h : (b == c) = true
    · simp [h]
    · simp only [h, Bool.false_or]
      by_cases h1 : Lib.indexByte l c = -1
      · simp [h1]
      · have h2 : 0 ≤ Lib.indexByte l c := by omega
        have h3 : (Lib.indexByte l c == -1) = false := by simpa using h1
        simp [h3, h2]; omega

theorem marks_tok (c : Int) (h0 : 0 ≤ c) (h1 : c ≤ 255) : decide (0 ≤ Lib.indexByte marks15 c.toNat.toUInt8) = (inI c marks14 || c == 96) := by
  rw [indexByte_in]
  have e : ((c.toNat.toUInt8.toNat : Nat) : Int) = c := by simp; omega
  rw [e]
  have : marks15 = marks14 ++ [96] := rfl
  rw [this, inI_snoc]
  congr 1
  show ((96 : Int) == c) = (c == 96)
  rw [Bool.eq_iff_iff]; simp; omega

theorem take_snoc (s : ByteArray) (k : Nat) (h : k < s.size) : s.data.toList.take (k + 1) = s.data.toList.take k ++ [s[k]] := by
  rw [List.take_succ_eq_append_getElem (by simpa using h)]; rfl
theorem take_all (s : ByteArray) (k : Nat) (h : s.size ≤ k) : s.data.toList.take k = s.data.toList := List.take_of_length_le (by simpa using h)
theorem split_at (s : ByteArray) (k : Nat) (h : k < s.size) : s.data.toList = s.data.toList.take k ++ s[k] :: s.data.toList.drop (k + 1) := by
  have h' : k < s.data.toList.length := by simpa using h
  have := List.take_append_drop k s.data.toList
  rw [List.drop_eq_getElem_cons h'] at this
  exact this.symm
theorem ret_bool {a b : Bool} (h : a = b) : Ending.returned (.bool a) = .returned (.bool b) := by rw [h]
theorem ret_int {k : IntKind} {a b : Int} (h : a = b) : Ending.returned (.int k a) = .returned (.int k b) := by rw [h]
theorem ret_str {a b : ByteArray} (h : a = b) : Ending.returned (.string a) = .returned (.string b) := by rw [h]

theorem inI_hit (c : Int) (s : ByteArray) (k : Nat) (h : k < s.size) (hc : ((s[k].toNat : Int) == c) = true) : inI c s.data.toList = true := by
  rw [split_at s k h]; simp only [inI, List.any_append, List.any_cons, hc]; simp
theorem inI_next (c : Int) (s : ByteArray) (k : Nat) (h : k < s.size) (hi : inI c (s.data.toList.take k) = false) (hc : ((s[k].toNat : Int) == c) = false) : inI c (s.data.toList.take (k + 1)) = false := by
  rw [take_snoc s k h, inI_snoc, hi, hc]; rfl

/-- Has a text a byte, and may a token have each of them? -/
def allB (p : Int → Bool) (l : List UInt8) : Bool := l.all fun b => p b.toNat
def tokenB (l : List UInt8) : Bool := allB tcharI l && !l.isEmpty
theorem allB_miss (p : Int → Bool) (s : ByteArray) (k : Nat) (h : k < s.size) (hc : p s[k].toNat = false) : allB p s.data.toList = false := by
  rw [split_at s k h]; simp only [allB, List.all_append, List.all_cons, hc]; simp
theorem allB_next (p : Int → Bool) (s : ByteArray) (k : Nat) (h : k < s.size) (hi : allB p (s.data.toList.take k) = true) (hc : p s[k].toNat = true) : allB p (s.data.toList.take (k + 1)) = true := by
  rw [take_snoc s k h]; simp only [allB, List.all_append, List.all_cons, hc]; simpa [allB] using hi
def trim (l : List UInt8) : List UInt8 := ((l.dropWhile fun b => blankI b.toNat).reverse.dropWhile fun b => blankI b.toNat).reverse
theorem trim_of (l : List UInt8) (k m : Nat) (h1 : k ≤ m) (h2 : m ≤ l.length) (ha : allB blankI (l.take k) = true) (hb : allB blankI (l.drop m) = true)
    (hx : k = m ∨ (∃ h : k < l.length, blankI (l[k]'h).toNat = false) ∧ ∃ h : m - 1 < l.length, blankI (l[m - 1]'h).toNat = false) : trim l = (l.drop k).take (m - k) := by
  have e1 : l = l.take k ++ l.drop k := (List.take_append_drop k l).symm
  have e2 : l.drop k = (l.drop k).take (m - k) ++ l.drop m := by
    have := (List.take_append_drop (m - k) (l.drop k)).symm
    rwa [List.drop_drop, show k + (m - k) = m by omega] at this
  have ha' : ∀ b ∈ l.take k, blankI b.toNat = true := by simpa [allB] using ha
  have hb' : ∀ b ∈ (l.drop m).reverse, blankI b.toNat = true := by simpa [allB] using hb
  unfold trim
  rw [e1, List.dropWhile_append_of_pos ha', ← e1]
  rcases hx with hx | ⟨⟨g1, hx1⟩, ⟨g2, hx2⟩⟩
  · subst hx
    have : l.dropWhile (fun b => blankI b.toNat) = [] := by
      rw [e1, List.dropWhile_append_of_pos ha']
      have := List.dropWhile_append_of_pos (l₁ := l.drop k) (l₂ := []) (p := fun b => blankI b.toNat) (by simpa using hb')
      simpa using this
    have h3 : (l.drop k).dropWhile (fun b => blankI b.toNat) = [] := by
      have := List.dropWhile_append_of_pos (l₁ := l.drop k) (l₂ := []) (p := fun b => blankI b.toNat) (by simpa using hb')
      simpa using this
    rw [h3]; simp
  · have hkm : k < m := by
      rcases Nat.lt_or_ge k m with h | h
      · exact h
      · exfalso
        have hkm : k = m := by omega
        subst hkm
        have := hb' (l[k]) (by simp; exact List.mem_drop_iff_getElem.2 ⟨0, by simpa using g1, by simp⟩)
        rw [this] at hx1; cases hx1
    have e3 : (l.drop k).dropWhile (fun b => blankI b.toNat) = l.drop k := by
      rw [List.drop_eq_getElem_cons g1, List.dropWhile_cons_of_neg (by simp [hx1])]
    have e4 : (l.drop k).take (m - k) = (l.drop k).take (m - k - 1) ++ [l[m - 1]] := by
      have hl : m - k - 1 < (l.drop k).length := by simp; omega
      have := List.take_succ_eq_append_getElem hl
      rw [show m - k - 1 + 1 = m - k by omega] at this
      rw [this]; congr 2; simp; congr 1; omega
    rw [e3]
    generalize (l.drop k).take (m - k - 1) = pre at e4
    generalize (l.drop k).take (m - k) = mid at *
    rw [e2, List.reverse_append, List.dropWhile_append_of_pos hb', e4, List.reverse_append]
    simp only [List.reverse_cons, List.reverse_nil, List.nil_append, List.singleton_append]
    rw [List.dropWhile_cons_of_neg (by simp [hx2])]
    simp
theorem trim_ret (s : ByteArray) (k m : Nat) (h1 : k ≤ m) (h2 : m ≤ s.size) (ha : allB blankI (s.data.toList.take k) = true) (hb : allB blankI (s.data.toList.drop m) = true)
    (hx : k = m ∨ (∃ h : k < s.size, blankI (s[k]'h).toNat = false) ∧ ∃ h : m - 1 < s.size, blankI (s[m - 1]'h).toNat = false) : s.extract k m = ⟨(trim s.data.toList).toArray⟩ := by
  have h := trim_of s.data.toList k m h1 (by simpa using h2) ha hb (by
    rcases hx with hx | ⟨⟨a, b⟩, ⟨c, d⟩⟩
    · exact .inl hx
    · exact .inr ⟨⟨by simpa using a, b⟩, ⟨by simpa using c, d⟩⟩)
  rw [h, ← Lib.extract_data]
theorem allB_end (p : Int → Bool) (s : ByteArray) : allB p (s.data.toList.drop s.size) = true := by
  rw [List.drop_of_length_le (by simp)]; rfl
theorem allB_drop (p : Int → Bool) (s : ByteArray) (m : Nat) (h0 : 0 < m) (h : m - 1 < s.size) (hi : allB p (s.data.toList.drop m) = true) (hc : p (s[m - 1]'h).toNat = true) : allB p (s.data.toList.drop (m - 1)) = true := by
  have h' : m - 1 < s.data.toList.length := by simpa using h
  rw [List.drop_eq_getElem_cons h']
  simp only [allB, List.all_cons, show m - 1 + 1 = m by omega]
  simp only [allB] at hi
  rw [hi, Bool.and_true]
  exact hc
end Oct
end Go.Proofs.Ytnnjfiknfmjliaa
