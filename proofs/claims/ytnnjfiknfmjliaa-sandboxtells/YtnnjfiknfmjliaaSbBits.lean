/- Numbers of flags by their bits: the operations' own words, whatever the number; the six words' values. -/
import Derived.Test.YtnnjfiknfmjliaaSbMath
namespace Go.Proofs.Ytnnjfiknfmjliaa

theorem nat_low (n c : Nat) (hc : c ≤ 63) : n &&& c = (n % 64) &&& c := by
  have h1 : n % 64 = n &&& 63 := (Nat.and_two_pow_sub_one_eq_mod n 6).symm
  have h2 : 63 &&& c = c := by
    have : ∀ d : Fin 64, 63 &&& d.val = d.val := by decide
    exact this ⟨c, by omega⟩
  rw [h1, Nat.and_assoc, h2]
theorem and_i64 (x y : Int) : bits .and .i64 x y = IntKind.i64.wrap (((BitVec.ofInt 64 x &&& BitVec.ofInt 64 y).toNat : Nat) : Int) := rfl
/-- Only the six lowest bits count where a mask has no more. -/
theorem and_low (x : Int) (c : Nat) (hc : c ≤ 63) : bits .and .i64 x (c : Int) = bits .and .i64 (x % 64) (c : Int) := by
  rw [and_i64, and_i64, BitVec.toNat_and, BitVec.toNat_and, BitVec.toNat_ofInt, BitVec.toNat_ofInt, BitVec.toNat_ofInt]
  have hcc : ((c : Int) % ((2 ^ 64 : Nat) : Int)).toNat = c := by omega
  rw [hcc, nat_low _ c hc, nat_low (x % 64 % ((2 ^ 64 : Nat) : Int)).toNat c hc]
  have e : (x % ((2 ^ 64 : Nat) : Int)).toNat % 64 = (x % 64 % ((2 ^ 64 : Nat) : Int)).toNat % 64 := by omega
  rw [e]
theorem mask_fin : ∀ n : Fin 64, bits .and .i64 (n.val : Int) 63 = (n.val : Int) := by decide +kernel
theorem mask_any (x : Int) : bits .and .i64 x 63 = x % 64 := by
  have h := and_low x 63 (by omega)
  have h0 : 0 ≤ x % 64 := Int.emod_nonneg _ (by decide)
  have h1 : x % 64 < 64 := Int.emod_lt_of_pos _ (by decide)
  obtain ⟨n, hn⟩ : ∃ n : Nat, x % 64 = (n : Int) := ⟨(x % 64).toNat, by omega⟩
  rw [show ((63 : Nat) : Int) = 63 from rfl] at h
  rw [h, hn]
  exact mask_fin ⟨n, by omega⟩
theorem pow_fin : ∀ n : Fin 64, ∀ i : Fin 6, bits .and .i64 (n.val : Int) ((2 ^ i.val : Nat) : Int) = if Sb.bit (n.val : Int) i.val then ((2 ^ i.val : Nat) : Int) else 0 := by decide +kernel
/-- One flag of a number. -/
theorem pow_any (x : Int) (i : Nat) (hi : i < 6) : bits .and .i64 x ((2 ^ i : Nat) : Int) = if Sb.bit x i then ((2 ^ i : Nat) : Int) else 0 := by
  have hp : 2 ^ i ≤ 63 := by
    match i, hi with
    | 0, _ => decide
    | 1, _ => decide
    | 2, _ => decide
    | 3, _ => decide
    | 4, _ => decide
    | 5, _ => decide
  have h0 : 0 ≤ x % 64 := Int.emod_nonneg _ (by decide)
  have h1 : x % 64 < 64 := Int.emod_lt_of_pos _ (by decide)
  rw [and_low x _ hp, ← Sb.bit_mod]
  obtain ⟨n, hn⟩ : ∃ n : Nat, x % 64 = (n : Int) := ⟨(x % 64).toNat, by omega⟩
  rw [hn]
  exact pow_fin ⟨n, by omega⟩ ⟨i, hi⟩
theorem pow_zero (x : Int) (i : Nat) (hi : i < 6) : (bits .and .i64 x ((2 ^ i : Nat) : Int) == 0) = !Sb.bit x i := by
  rw [pow_any x i hi]
  cases Sb.bit x i with
  | true =>
    match i, hi with
    | 0, _ => rfl
    | 1, _ => rfl
    | 2, _ => rfl
    | 3, _ => rfl
    | 4, _ => rfl
    | 5, _ => rfl
  | false => rfl
theorem or_fin : ∀ a b : Fin 64, bits .or .i64 (a.val : Int) (b.val : Int) = Sb.union (a.val : Int) (b.val : Int) := by decide +kernel
theorem or_any {a b : Int} (ha : 0 ≤ a ∧ a ≤ 63) (hb : 0 ≤ b ∧ b ≤ 63) : bits .or .i64 a b = Sb.union a b := by
  obtain ⟨n, rfl⟩ : ∃ n : Nat, a = (n : Int) := ⟨a.toNat, by omega⟩
  obtain ⟨m, rfl⟩ : ∃ n : Nat, b = (n : Int) := ⟨b.toNat, by omega⟩
  exact or_fin ⟨n, by omega⟩ ⟨m, by omega⟩

/-! ### the six words' values -/
/-- The place of a word among the six; six for another. -/
def Sb.at (s : List UInt8) : Nat := if s = Sb.n0 then 0 else if s = Sb.n1 then 1 else if s = Sb.n2 then 2 else if s = Sb.n3 then 3 else if s = Sb.n4 then 4 else if s = Sb.n5 then 5 else 6
/-- The flag of a place. -/
def Sb.kv (i : Nat) : Int := if i = 0 then 1 else if i = 1 then 2 else if i = 2 then 4 else if i = 3 then 8 else if i = 4 then 16 else if i = 5 then 32 else 0
theorem kv_pow {i : Nat} (hi : i < 6) : Sb.kv i = ((2 ^ i : Nat) : Int) := by
  match i, hi with
  | 0, _ => rfl
  | 1, _ => rfl
  | 2, _ => rfl
  | 3, _ => rfl
  | 4, _ => rfl
  | 5, _ => rfl
theorem at_le (s : List UInt8) : Sb.at s ≤ 6 := by
  unfold Sb.at
  repeat' split
  all_goals omega
theorem at_nm {i : Nat} (hi : i < 6) : Sb.at (Sb.nm i) = i := by
  match i, hi with
  | 0, _ => decide
  | 1, _ => decide
  | 2, _ => decide
  | 3, _ => decide
  | 4, _ => decide
  | 5, _ => decide
theorem nm_at (s : List UInt8) (h : Sb.at s < 6) : s = Sb.nm (Sb.at s) := by
  unfold Sb.at at h ⊢
  split
  · next e => exact e
  split
  · next e => exact e
  split
  · next e => exact e
  split
  · next e => exact e
  split
  · next e => exact e
  split
  · next e => exact e
  · next e0 e1 e2 e3 e4 e5 => rw [if_neg e0, if_neg e1, if_neg e2, if_neg e3, if_neg e4, if_neg e5] at h; omega
theorem is_nm (s : List UInt8) (i : Nat) (hi : i < 6) : (s == Sb.nm i) = decide (i = Sb.at s) := by
  rw [Bool.eq_iff_iff, beq_iff_eq, decide_eq_true_iff]
  constructor
  · rintro rfl; exact (at_nm hi).symm
  · rintro rfl; exact nm_at s hi
theorem not_fin : ∀ a : Fin 64, ∀ i : Fin 7, bits .andNot .i64 (a.val : Int) (Sb.kv i.val) = Sb.val fun j => Sb.bit (a.val : Int) j && !decide (j = i.val) := by decide +kernel
/-- Less what one word lets be: in the operation's words. -/
theorem flags_less (ws : List (List UInt8)) (s : List UInt8) : Sb.flags (ws ++ [s]) = bits .andNot .i64 (Sb.flags ws) (Sb.kv (Sb.at (Oct.lower s))) := by
  have hb := Sb.flags_bd ws
  have hl := at_le (Oct.lower s)
  rw [Sb.flags_snoc]
  obtain ⟨n, hn⟩ : ∃ n : Nat, Sb.flags ws = (n : Int) := ⟨(Sb.flags ws).toNat, by omega⟩
  rw [hn, not_fin ⟨n, by omega⟩ ⟨Sb.at (Oct.lower s), by omega⟩]
  refine Sb.val_congr fun i hi => ?_
  unfold Sb.flags
  rw [Sb.bit_val _ i hi]
  unfold Sb.has
  rw [List.any_cons, List.any_nil, Bool.or_false, is_nm _ i hi]
theorem flags_to {ws : List (List UInt8)} {k : Nat} (hk : k < ws.length) : Sb.flags (ws.take (k + 1)) = bits .andNot .i64 (Sb.flags (ws.take k)) (Sb.kv (Sb.at (Oct.lower ws[k]))) := by
  rw [List.take_succ_eq_append_getElem hk, flags_less]
end Go.Proofs.Ytnnjfiknfmjliaa
