/- Sandboxes' flags as plain functions: what words take away, unions, what opens keeps, the words of flags; and the laws of them that the statements claim. No program is named here. -/
import Derived.Test.YtnnjfiknfmjliaaCsMath
namespace Go.Proofs.Ytnnjfiknfmjliaa
namespace Sb
open Oct (lower)

def n0 : List UInt8 := [97, 108, 108, 111, 119, 45, 115, 99, 114, 105, 112, 116, 115]
def n1 : List UInt8 := [97, 108, 108, 111, 119, 45, 115, 97, 109, 101, 45, 111, 114, 105, 103, 105, 110]
def n2 : List UInt8 := [97, 108, 108, 111, 119, 45, 102, 111, 114, 109, 115]
def n3 : List UInt8 := [97, 108, 108, 111, 119, 45, 112, 111, 112, 117, 112, 115]
def n4 : List UInt8 := [97, 108, 108, 111, 119, 45, 112, 111, 112, 117, 112, 115, 45, 116, 111, 45, 101, 115, 99, 97, 112, 101, 45, 115, 97, 110, 100, 98, 111, 120]
def n5 : List UInt8 := [97, 108, 108, 111, 119, 45, 116, 111, 112, 45, 110, 97, 118, 105, 103, 97, 116, 105, 111, 110]
def nms : List (List UInt8) := [n0, n1, n2, n3, n4, n5]
def nm (i : Nat) : List UInt8 := nms.getD i []
/-- The sum of the first k flags that are there. -/
def sumB (f : Nat → Bool) : Nat → Int
  | 0 => 0
  | k + 1 => sumB f k + if f k then (2 : Int) ^ k else 0
def val (f : Nat → Bool) : Int := sumB f 6
/-- Is a flag in a number's part? -/
def bit (x : Int) (i : Nat) : Bool := x % 64 / 2 ^ i % 2 == 1
theorem sumB_congr {f g : Nat → Bool} : ∀ k : Nat, (∀ i, i < k → f i = g i) → sumB f k = sumB g k
  | 0, _ => rfl
  | k + 1, h => by
    unfold sumB
    rw [sumB_congr k (fun i hi => h i (by omega)), h k (by omega)]
theorem val_congr {f g : Nat → Bool} (h : ∀ i, i < 6 → f i = g i) : val f = val g := sumB_congr 6 h
theorem val_six (f : Nat → Bool) : val f = (((((0 + if f 0 then (1 : Int) else 0) + if f 1 then (2 : Int) else 0) + if f 2 then (4 : Int) else 0) + if f 3 then (8 : Int) else 0) + if f 4 then (16 : Int) else 0) + if f 5 then (32 : Int) else 0 := by
  simp [val, sumB]
theorem val_bd (f : Nat → Bool) : 0 ≤ val f ∧ val f ≤ 63 := by
  rw [val_six]
  cases f 0 <;> cases f 1 <;> cases f 2 <;> cases f 3 <;> cases f 4 <;> cases f 5 <;> simp
theorem bit_val (f : Nat → Bool) (i : Nat) (hi : i < 6) : bit (val f) i = f i := by
  unfold bit
  rw [val_six]
  match i, hi with
  | 0, _ => cases f 0 <;> cases f 1 <;> cases f 2 <;> cases f 3 <;> cases f 4 <;> cases f 5 <;> decide
  | 1, _ => cases f 0 <;> cases f 1 <;> cases f 2 <;> cases f 3 <;> cases f 4 <;> cases f 5 <;> decide
  | 2, _ => cases f 0 <;> cases f 1 <;> cases f 2 <;> cases f 3 <;> cases f 4 <;> cases f 5 <;> decide
  | 3, _ => cases f 0 <;> cases f 1 <;> cases f 2 <;> cases f 3 <;> cases f 4 <;> cases f 5 <;> decide
  | 4, _ => cases f 0 <;> cases f 1 <;> cases f 2 <;> cases f 3 <;> cases f 4 <;> cases f 5 <;> decide
  | 5, _ => cases f 0 <;> cases f 1 <;> cases f 2 <;> cases f 3 <;> cases f 4 <;> cases f 5 <;> decide
theorem val_fin : ∀ n : Fin 64, val (bit (n.val : Int)) = (n.val : Int) := by decide +kernel
theorem bit_mod (x : Int) (i : Nat) : bit (x % 64) i = bit x i := by
  unfold bit
  rw [Int.emod_emod_of_dvd x (by decide)]
theorem val_part (x : Int) : val (bit x) = x % 64 := by
  have h0 : 0 ≤ x % 64 := Int.emod_nonneg _ (by decide)
  have h1 : x % 64 < 64 := Int.emod_lt_of_pos _ (by decide)
  obtain ⟨n, hn⟩ : ∃ n : Nat, x % 64 = (n : Int) := ⟨(x % 64).toNat, by omega⟩
  have := val_fin ⟨n, by omega⟩
  rw [← val_congr (f := bit (x % 64)) (fun i _ => bit_mod x i), hn]
  exact this

/-! ### what words take away -/
/-- Is a word among some, whatever its letters' size? -/
def has (ws : List (List UInt8)) (n : List UInt8) : Bool := ws.any fun w => lower w == n
def flags (ws : List (List UInt8)) : Int := val fun i => !has ws (nm i)
def union (a b : Int) : Int := val fun i => bit a i || bit b i
def popup (x : Int) : Int := if bit x 4 then x % 64 else 0
def words (x : Int) : List (List UInt8) := ((List.range 6).filter fun i => !bit x i).map nm
def all (l : List Cs.Pol) : Int := l.foldl (fun a p => if p.hasBox then union a (flags p.box) else a) 0
theorem flags_bd (ws : List (List UInt8)) : 0 ≤ flags ws ∧ flags ws ≤ 63 := val_bd _
theorem union_bd (a b : Int) : 0 ≤ union a b ∧ union a b ≤ 63 := val_bd _
theorem has_app (a b : List (List UInt8)) (n : List UInt8) : has (a ++ b) n = (has a n || has b n) := by unfold has; rw [List.any_append]
theorem flags_order (ws : List (List UInt8)) (s : List UInt8) : flags (ws ++ [s]) = flags ([s] ++ ws) := val_congr fun i _ => by rw [has_app, has_app, Bool.or_comm]
theorem flags_more (ws : List (List UInt8)) (s : List UInt8) : union (flags ws) (flags (ws ++ [s])) = flags ws := by
  unfold union
  refine val_congr fun i hi => ?_
  unfold flags
  rw [bit_val _ i hi, bit_val _ i hi, has_app]
  cases has ws (nm i) <;> cases has [s] (nm i) <;> rfl
theorem union_part (a b : Int) : union a (union a b) = union a b := by
  unfold union
  refine val_congr fun i hi => ?_
  rw [bit_val _ i hi]
  cases bit a i <;> simp
theorem union_same {a : Int} (h0 : 0 ≤ a) (h1 : a ≤ 63) : union a a = a := by
  have : union a a = val (bit a) := val_congr fun i _ => by cases bit a i <;> rfl
  rw [this, val_part, Int.emod_eq_of_lt h0 (by omega)]
theorem all_app (l : List Cs.Pol) (p : Cs.Pol) : all (l ++ [p]) = if p.hasBox then union (all l) (flags p.box) else all l := by unfold all; rw [List.foldl_append]; rfl
theorem all_bd : ∀ l : List Cs.Pol, 0 ≤ all l ∧ all l ≤ 63 := by
  intro l
  unfold all
  have key : ∀ (l : List Cs.Pol) (a : Int), 0 ≤ a → a ≤ 63 → 0 ≤ l.foldl (fun a p => if p.hasBox then union a (flags p.box) else a) a ∧ l.foldl (fun a p => if p.hasBox then union a (flags p.box) else a) a ≤ 63 := by
    intro l
    induction l with
    | nil => intro a h0 h1; exact ⟨h0, h1⟩
    | cons p l ih =>
      intro a h0 h1
      rw [List.foldl_cons]
      split
      · exact ih _ (union_bd _ _).1 (union_bd _ _).2
      · exact ih _ h0 h1
  exact key l 0 (by decide) (by decide)
theorem all_more (l : List Cs.Pol) (p : Cs.Pol) : union (all l) (all (l ++ [p])) = all (l ++ [p]) := by
  have h := all_bd l
  rw [all_app]
  split
  · exact union_part _ _
  · exact union_same h.1 h.2
theorem all_two (ws : List (List UInt8)) (a b : List (List UInt8)) : all [⟨false, a, true, ws⟩, ⟨false, b, false, ws⟩] = flags ws := by
  show union 0 (flags ws) = flags ws
  have h := flags_bd ws
  have : union 0 (flags ws) = val (bit (flags ws)) := val_congr fun i hi => by
    have : bit 0 i = false := by
      match i, hi with
      | 0, _ => decide
      | 1, _ => decide
      | 2, _ => decide
      | 3, _ => decide
      | 4, _ => decide
      | 5, _ => decide
    rw [this, Bool.false_or]
  rw [this, val_part, Int.emod_eq_of_lt h.1 (by omega)]

/-! ### there and back -/
theorem nm_low : ∀ i, i < 6 → lower (nm i) = nm i := by decide +kernel
theorem nm_inj : ∀ i, i < 6 → ∀ j, j < 6 → nm i = nm j → i = j := by decide +kernel
theorem has_words (x : Int) (i : Nat) (hi : i < 6) : has (words x) (nm i) = !bit x i := by
  rw [Bool.eq_iff_iff]
  unfold has words
  rw [List.any_eq_true]
  constructor
  · rintro ⟨w, hw, he⟩
    obtain ⟨j, hj, rfl⟩ := List.mem_map.1 hw
    rw [List.mem_filter, List.mem_range] at hj
    rw [beq_iff_eq, nm_low j hj.1] at he
    obtain rfl := nm_inj j hj.1 i hi he
    exact hj.2
  · intro h
    exact ⟨nm i, List.mem_map.2 ⟨i, List.mem_filter.2 ⟨List.mem_range.2 hi, h⟩, rfl⟩, by rw [nm_low i hi]; simp⟩
theorem back (x : Int) : flags (words x) = x % 64 := by
  rw [← val_part]
  exact val_congr fun i hi => by rw [has_words x i hi, Bool.not_not]
theorem popup_part (x : Int) : popup (popup x) = popup x := by
  unfold popup
  split
  · next h =>
    rw [bit_mod, if_pos h, Int.emod_emod_of_dvd x (by decide)]
  · rw [if_neg (by decide)]
/-- Less what one word lets be. -/
theorem flags_snoc (ws : List (List UInt8)) (s : List UInt8) : flags (ws ++ [s]) = val fun i => bit (flags ws) i && bit (flags [s]) i := val_congr fun i hi => by
  unfold flags
  rw [bit_val _ i hi, bit_val _ i hi, has_app]
  cases has ws (nm i) <;> cases has [s] (nm i) <;> rfl
theorem flags_nil : flags [] = 63 := by decide
end Sb
end Go.Proofs.Ytnnjfiknfmjliaa
