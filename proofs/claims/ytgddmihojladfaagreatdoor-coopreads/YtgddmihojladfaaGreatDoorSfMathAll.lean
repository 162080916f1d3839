/- Our texts of one layer, joined: plain functions and their laws, and the contracts of the functions of that layer. -/
import Derived.Test.YtgddmihojladfaaGreatDoorOctAll
import Derived.Lib.ItoaLen

/- Items of structured fields: plain functions and small laws. No program is named here. -/
namespace Go.Proofs.YtgddmihojladfaaGreatDoor
namespace Sf
open Oct

structure Par where
  key : List UInt8
  kind : Int
  n : Int
  text : List UInt8
structure Itm where
  kind : Int
  n : Int
  text : List UInt8
  params : List Par

def tokI (c : Int) : Bool := tcharI c || (c == 58 || c == 47)
def baseI (c : Int) : Bool := letterI c || (digitI c || (c == 43 || (c == 47 || c == 61)))
def key1I (c : Int) : Bool := (decide (97 ≤ c) && decide (c ≤ 122)) || c == 42
def keyI (c : Int) : Bool := key1I c || (digitI c || (c == 95 || (c == 45 || c == 46)))
def prI (c : Int) : Bool := decide (32 ≤ c) && decide (c ≤ 126)
def tw (p : Int → Bool) (l : List UInt8) : List UInt8 := l.takeWhile fun b => p b.toNat
def dw (p : Int → Bool) (l : List UInt8) : List UInt8 := l.dropWhile fun b => p b.toNat
def kv (kind n : Int) (t : List UInt8) : Par := ⟨[], kind, n, t⟩

/-- A number that a text begins with. -/
def num (sg : Int) (s : List UInt8) : Option (Par × List UInt8) :=
  if (tw digitI s).length = 0 ∨ 15 < (tw digitI s).length then none
  else if (dw digitI s).headD 0 = 46 then
    (if 12 < (tw digitI s).length ∨ (tw digitI ((dw digitI s).drop 1)).length < 1 ∨ 3 < (tw digitI ((dw digitI s).drop 1)).length then none
     else some (kv 2 (sg * (val (tw digitI s ++ tw digitI ((dw digitI s).drop 1)) * 10 ^ (3 - (tw digitI ((dw digitI s).drop 1)).length))) [], dw digitI ((dw digitI s).drop 1)))
  else some (kv 1 (sg * val (tw digitI s)) [], dw digitI s)
/-- What stands up to the next quote, escapes undone, and what stands behind. -/
def quo : List UInt8 → Option (List UInt8 × List UInt8)
  | [] => none
  | c :: r =>
    if c = 34 then some ([], r)
    else if prI c.toNat then
      (if c = 92 then
        (match r with
         | [] => none
         | d :: r' => if d = 34 ∨ d = 92 then (quo r').map fun x => (d :: x.1, x.2) else none)
       else (quo r).map fun x => (c :: x.1, x.2))
    else none
/-- The value that a text begins with, and what stands behind. -/
def value : List UInt8 → Option (Par × List UInt8)
  | [] => none
  | c :: r =>
    if c = 45 then num (-1) r
    else if digitI c.toNat then num 1 (c :: r)
    else if c = 34 then (quo r).map fun x => (kv 3 0 x.1, x.2)
    else if letterI c.toNat || c == 42 then some (kv 4 0 (c :: tw tokI r), dw tokI r)
    else if c = 58 then (if (dw baseI r).headD 0 = 58 then some (kv 5 0 (tw baseI r), (dw baseI r).drop 1) else none)
    else if c = 63 then (if r.headD 0 = 48 then some (kv 6 0 [], r.drop 1) else if r.headD 0 = 49 then some (kv 6 1 [], r.drop 1) else none)
    else none
/-- The key that a text begins with, and what stands behind. -/
def keyOf : List UInt8 → Option (List UInt8 × List UInt8)
  | [] => none
  | c :: r => if key1I c.toNat then some (c :: tw keyI r, dw keyI r) else none
def blk (s : List UInt8) : List UInt8 := s.dropWhile fun b => b == 32
/-- One parameter, behind its semicolon. -/
def one (s : List UInt8) : Option (Par × List UInt8) :=
  match keyOf (blk s) with
  | none => none
  | some (k, r) =>
    if r.headD 0 = 61 then
      (match value (r.drop 1) with
       | none => none
       | some (v, r') => some (⟨k, v.kind, v.n, v.text⟩, r'))
    else some (⟨k, 6, 1, []⟩, r)
def put (l : List Par) (p : Par) : List Par := if l.any (fun q => q.key == p.key) then l.map (fun q => if q.key == p.key then p else q) else l ++ [p]
def parsF : Nat → List Par → List UInt8 → Option (List Par × List UInt8)
  | 0, _, _ => none
  | f + 1, acc, s =>
    if s.headD 0 = 59 then
      (match one (s.drop 1) with
       | none => none
       | some (p, r) => parsF f (put acc p) r)
    else some (acc, s)
/-- The parameters that a text begins with, and what stands behind. -/
def pars (s : List UInt8) : Option (List Par × List UInt8) := parsF (s.length + 1) [] s
/-- The item that a text begins with, and what stands behind. -/
def next (s : List UInt8) : Option (Itm × List UInt8) :=
  match value s with
  | none => none
  | some (v, r) =>
    match pars r with
    | none => none
    | some (l, r') => some (⟨v.kind, v.n, v.text, l⟩, r')
def trimS (s : List UInt8) : List UInt8 := ((blk s).reverse.dropWhile fun b => b == 32).reverse
/-- The item that a field is. -/
def parse (s : List UInt8) : Option Itm :=
  if 4000 < s.length then none
  else match next (trimS s) with
    | none => none
    | some (x, r) => if r = [] then some x else none

/-! ### texts -/
def numK (k : Int) : Bool := k == 1 || (k == 2 || k == 6)
def maxN : Int := 999999999999999
/-- The digits behind the point. -/
def frac (f : Nat) : List UInt8 := Lib.decDigits (f / 100) ++ ((if f % 100 ≠ 0 then Lib.decDigits (f / 10 % 10) else []) ++ (if f % 10 ≠ 0 then Lib.decDigits (f % 10) else []))
def decT (n : Int) : List UInt8 := (if n < 0 then [45] else []) ++ (Lib.decDigits (n.natAbs / 1000) ++ 46 :: frac (n.natAbs % 1000))
def esc : List UInt8 → List UInt8
  | [] => []
  | c :: r => if c = 34 ∨ c = 92 then 92 :: c :: esc r else c :: esc r
def tokB : List UInt8 → Bool
  | [] => false
  | c :: r => (letterI c.toNat || c == 42) && allB tokI r
/-- A value's text, if it may be. -/
def vtext (k n : Int) (t : List UInt8) : Option (List UInt8) :=
  if (numK k && !t.isEmpty) || ((!numK k && n != 0) || (decide (n < -maxN) || decide (maxN < n))) then none
  else if k = 1 then some (Lib.itoa n)
  else if k = 2 then some (decT n)
  else if k = 6 then (if n = 0 ∨ n = 1 then some (63 :: Lib.itoa n) else none)
  else if k = 3 then (if allB prI t then some (34 :: (esc t ++ [34])) else none)
  else if k = 4 then (if tokB t then some t else none)
  else if k = 5 then (if allB baseI t then some (58 :: (t ++ [58])) else none)
  else none
def keyB : List UInt8 → Bool
  | [] => false
  | c :: r => key1I c.toNat && allB keyI r
/-- A parameter's text, if it may be. -/
def ptext (p : Par) : Option (List UInt8) :=
  if keyB p.key then (vtext p.kind p.n p.text).map fun v => 59 :: (p.key ++ (if p.kind = 6 ∧ p.n = 1 then [] else 61 :: v)) else none
def tailF (seen : List (List UInt8)) : List Par → Option (List UInt8)
  | [] => some []
  | p :: l =>
    if p.key ∈ seen then none
    else match ptext p with
      | none => none
      | some a => (tailF (seen ++ [p.key]) l).map fun b => a ++ b
/-- An item's text, if it may be. -/
def text (x : Itm) : Option (List UInt8) :=
  match vtext x.kind x.n x.text with
  | none => none
  | some a => (tailF [] x.params).map fun b => a ++ b

/-! ### bytes -/
/-- A text does not go on with such a byte. -/
def Off (p : Int → Bool) (r : List UInt8) : Prop := r = [] ∨ p (r.headD 0).toNat = false
theorem tw_dw (p : Int → Bool) (l : List UInt8) : tw p l ++ dw p l = l := List.takeWhile_append_dropWhile
theorem tw_all (p : Int → Bool) (l : List UInt8) : allB p (tw p l) = true := List.all_takeWhile
theorem dw_off (p : Int → Bool) (l : List UInt8) : Off p (dw p l) := by
  induction l with
  | nil => exact .inl rfl
  | cons c r ih =>
    cases h : p c.toNat with
    | true => have e : dw p (c :: r) = dw p r := by simp [dw, h]
              rw [e]; exact ih
    | false => have e : dw p (c :: r) = c :: r := by simp [dw, h]
               rw [e]; exact .inr h
theorem tw_app {p : Int → Bool} {a r : List UInt8} (ha : allB p a = true) (hr : Off p r) : tw p (a ++ r) = a ∧ dw p (a ++ r) = r := by
  induction a with
  | nil =>
    rcases hr with rfl | h
    · exact ⟨rfl, rfl⟩
    · cases r with
      | nil => exact ⟨rfl, rfl⟩
      | cons c r =>
        have h' : p c.toNat = false := h
        exact ⟨by simp [tw, h'], by simp [dw, h']⟩
  | cons c a ih =>
    simp only [allB, List.all_cons, Bool.and_eq_true] at ha
    obtain ⟨h1, h2⟩ := ih ha.2
    refine ⟨?_, ?_⟩
    · have : tw p (c :: (a ++ r)) = c :: tw p (a ++ r) := by simp [tw, ha.1]
      rw [List.cons_append, this, h1]
    · have : dw p (c :: (a ++ r)) = dw p (a ++ r) := by simp [dw, ha.1]
      rw [List.cons_append, this, h2]
theorem tw_nil (p : Int → Bool) (a : List UInt8) (ha : allB p a = true) : tw p a = a ∧ dw p a = [] := by
  have := tw_app ha (r := []) (.inl rfl)
  simpa using this
theorem Off.mono {p q : Int → Bool} (h : ∀ c, q c = true → p c = true) {r : List UInt8} (hr : Off p r) : Off q r := by
  rcases hr with rfl | hr
  · exact .inl rfl
  · refine .inr ?_
    cases e : q (r.headD 0).toNat with
    | false => rfl
    | true => rw [h _ e] at hr; cases hr
theorem Off.ne {p : Int → Bool} {r : List UInt8} {c : UInt8} (hr : Off p r) (hc : p c.toNat = true) (h0 : c ≠ 0) : r.headD 0 ≠ c := by
  rcases hr with rfl | hr
  · exact fun h => h0 h.symm
  · intro h; rw [h, hc] at hr; cases hr
theorem dig_tok (c : Int) (h : digitI c = true) : tokI c = true := by unfold tokI tcharI; rw [h]; simp
theorem key_tok (c : Int) (h : keyI c = true) : tokI c = true := by
  unfold keyI key1I digitI at h
  unfold tokI tcharI letterI digitI
  simp only [Bool.or_eq_true, Bool.and_eq_true, decide_eq_true_eq, beq_iff_eq] at h ⊢
  rcases h with ((⟨h1, h2⟩ | h) | (⟨h1, h2⟩ | h | h | h))
  · exact .inl (.inl (.inl (.inl ⟨h1, h2⟩)))
  · subst h; exact .inl (.inr (.inl (by decide)))
  · exact .inl (.inl (.inr ⟨h1, h2⟩))
  · subst h; exact .inl (.inr (.inl (by decide)))
  · subst h; exact .inl (.inr (.inl (by decide)))
  · subst h; exact .inl (.inr (.inl (by decide)))

/-! ### digits -/
theorem dec_good (u : Nat) : allB digitI (Lib.decDigits u) = true ∧ val (Lib.decDigits u) = (u : Int) ∧ (0 < u → (Lib.decDigits u).headD 0 ≠ 48) ∧ 0 < (Lib.decDigits u).length ∧ (u < 10 → (Lib.decDigits u).length = 1) := by
  induction u using Nat.strongRecOn with
  | ind u ih =>
    by_cases h : u < 10
    · have e : Lib.decDigits u = [UInt8.ofNat (48 + u)] := by rw [Lib.decDigits, dif_pos h]
      rw [e]
      have key : ∀ n : Fin 10, allB digitI [UInt8.ofNat (48 + n.val)] = true ∧ val [UInt8.ofNat (48 + n.val)] = (n.val : Int) ∧ (0 < n.val → ([UInt8.ofNat (48 + n.val)] : List UInt8).headD 0 ≠ 48) := by decide +kernel
      have k := key ⟨u, h⟩
      exact ⟨k.1, k.2.1, k.2.2, by simp, fun _ => by simp⟩
    · have e : Lib.decDigits u = Lib.decDigits (u / 10) ++ [UInt8.ofNat (48 + u % 10)] := by rw [Lib.decDigits, dif_neg h]
      obtain ⟨h1, h2, h3, h4, _⟩ := ih (u / 10) (by omega)
      have key : ∀ n : Fin 10, digitI (UInt8.ofNat (48 + n.val)).toNat = true ∧ ((UInt8.ofNat (48 + n.val)).toNat : Int) - 48 = (n.val : Int) := by decide +kernel
      have k := key ⟨u % 10, by omega⟩
      rw [e]
      refine ⟨?_, ?_, fun _ => ?_, by simp, fun hx => absurd hx h⟩
      · unfold allB at h1 ⊢
        rw [List.all_append, h1]
        simpa using k.1
      · rw [val_snoc, h2, k.2]
        show 10 * ((u / 10 : Nat) : Int) + ((u % 10 : Nat) : Int) = (u : Int)
        omega
      · have := h3 (by omega)
        cases hd : Lib.decDigits (u / 10) with
        | nil => rw [hd] at h4; simp at h4
        | cons a r => rw [hd] at this; simpa using this
theorem allB_app (p : Int → Bool) (a b : List UInt8) : allB p (a ++ b) = (allB p a && allB p b) := by unfold allB; rw [List.all_append]
/-- A number that is less than a power of ten has no more digits. -/
theorem dec_len (u k : Nat) (h : u < 10 ^ k) (hk : 0 < k) : (Lib.decDigits u).length ≤ k := by
  induction k generalizing u with
  | zero => omega
  | succ k ih =>
    by_cases hu : u < 10
    · have := (dec_good u).2.2.2.2 hu; omega
    · have e : Lib.decDigits u = Lib.decDigits (u / 10) ++ [UInt8.ofNat (48 + u % 10)] := by rw [Lib.decDigits, dif_neg hu]
      rw [e, List.length_append]
      have hk0 : 0 < k := by
        rcases Nat.eq_zero_or_pos k with h0 | h0
        · subst h0; simp at h; omega
        · exact h0
      have := ih (u / 10) (by rw [Nat.pow_succ] at h; omega) hk0
      simp; omega
/-- .. and one that is told by k digits is less. -/
theorem val_lt (l : List UInt8) (h : allB digitI l = true) : val l < 10 ^ l.length := by
  obtain ⟨m, hm⟩ : ∃ m, l.length = m := ⟨_, rfl⟩
  induction m generalizing l with
  | zero => have : l = [] := List.eq_nil_of_length_eq_zero hm
            subst this; decide
  | succ m ih =>
    obtain ⟨a, b, rfl⟩ : ∃ a b, l = a ++ [b] := ⟨l.dropLast, l.getLast (by intro e; rw [e] at hm; cases hm), (List.dropLast_concat_getLast _).symm⟩
    rw [allB_app, Bool.and_eq_true] at h
    rw [List.length_append] at hm ⊢
    simp only [List.length_cons, List.length_nil] at hm ⊢
    have h1 := ih a h.1 (by omega)
    have h2 : digitI b.toNat = true := by simpa [allB] using h.2
    unfold digitI at h2
    simp only [Bool.and_eq_true, decide_eq_true_eq] at h2
    rw [val_snoc, Int.pow_succ]
    omega
/-- The digits of a number that digits tell are no more than these. -/
theorem dec_val (l : List UInt8) (h : allB digitI l = true) (h0 : 0 < l.length) : (Lib.decDigits (val l).toNat).length ≤ l.length := by
  refine dec_len _ _ ?_ h0
  have h1 := val_lt l h
  have h2 := val_nonneg l h
  have h3 : ((10 ^ l.length : Nat) : Int) = (10 : Int) ^ l.length := by norm_cast
  omega
end Sf
end Go.Proofs.YtgddmihojladfaaGreatDoor

/- Items of structured fields: values are read from their texts as themselves; what is read may be. No program is named here. -/

namespace Go.Proofs.YtgddmihojladfaaGreatDoor
namespace Sf
open Oct

theorem value_cons (c : UInt8) (r : List UInt8) : value (c :: r) = if c = 45 then num (-1) r
    else if digitI c.toNat then num 1 (c :: r)
    else if c = 34 then (quo r).map fun x => (kv 3 0 x.1, x.2)
    else if letterI c.toNat || c == 42 then some (kv 4 0 (c :: tw tokI r), dw tokI r)
    else if c = 58 then (if (dw baseI r).headD 0 = 58 then some (kv 5 0 (tw baseI r), (dw baseI r).drop 1) else none)
    else if c = 63 then (if r.headD 0 = 48 then some (kv 6 0 [], r.drop 1) else if r.headD 0 = 49 then some (kv 6 1 [], r.drop 1) else none)
    else none := rfl
theorem dec_small {u : Nat} (h : u < 10) : Lib.decDigits u = [UInt8.ofNat (48 + u)] := by rw [Lib.decDigits, dif_pos h]
theorem val_from (b : List UInt8) : ∀ n : Int, b.foldl (fun n b => 10 * n + ((b.toNat : Int) - 48)) n = n * 10 ^ b.length + val b := by
  induction b with
  | nil => intro n; simp [val]
  | cons c r ih =>
    intro n
    have e : val (c :: r) = r.foldl (fun n b => 10 * n + ((b.toNat : Int) - 48)) (10 * 0 + ((c.toNat : Int) - 48)) := rfl
    rw [List.foldl_cons, ih, e, ih, List.length_cons, Int.pow_succ]
    rw [Int.add_mul, Int.add_mul]
    have : 10 * n * 10 ^ r.length = n * (10 ^ r.length * 10) := by rw [Int.mul_comm 10 n, Int.mul_assoc, Int.mul_comm 10]
    rw [this]
    omega
theorem val_app (a b : List UInt8) : val (a ++ b) = val a * 10 ^ b.length + val b := by
  have : val (a ++ b) = b.foldl (fun n b => 10 * n + ((b.toNat : Int) - 48)) (val a) := by simp [val, List.foldl_append]
  rw [this, val_from]

/-- The digits behind the point, digit by digit. -/
def frac' (f : Nat) : List UInt8 := UInt8.ofNat (48 + f / 100) :: ((if f % 100 ≠ 0 then [UInt8.ofNat (48 + f / 10 % 10)] else []) ++ (if f % 10 ≠ 0 then [UInt8.ofNat (48 + f % 10)] else []))
theorem frac_eq {f : Nat} (h : f < 1000) : frac f = frac' f := by
  unfold frac frac'
  rw [dec_small (by omega : f / 100 < 10), dec_small (by omega : f / 10 % 10 < 10), dec_small (by omega : f % 10 < 10)]
  rfl
theorem frac_all : ∀ f : Fin 1000, allB digitI (frac' f.val) = true ∧ 1 ≤ (frac' f.val).length ∧ (frac' f.val).length ≤ 3 ∧ val (frac' f.val) * 10 ^ (3 - (frac' f.val).length) = (f.val : Int) ∧ (f.val % 100 = 0 → (frac' f.val).length = 1) ∧ (f.val % 10 = 0 → (frac' f.val).length ≤ 2) := by decide +kernel
theorem frac_good {f : Nat} (h : f < 1000) : allB digitI (frac f) = true ∧ 1 ≤ (frac f).length ∧ (frac f).length ≤ 3 ∧ val (frac f) * 10 ^ (3 - (frac f).length) = (f : Int) ∧ (f % 100 = 0 → (frac f).length = 1) ∧ (f % 10 = 0 → (frac f).length ≤ 2) := by
  rw [frac_eq h]; exact frac_all ⟨f, h⟩

theorem off_cons {p : Int → Bool} {c : UInt8} {r : List UInt8} (h : p c.toNat = false) : Off p (c :: r) := .inr h

/-! ### numbers -/
theorem num_int (sg : Int) {d r : List UInt8} (hd : allB digitI d = true) (h0 : 0 < d.length) (h1 : d.length ≤ 15) (hr : Off digitI r) (hp : r.headD 0 ≠ 46) : num sg (d ++ r) = some (kv 1 (sg * val d) [], r) := by
  unfold num
  obtain ⟨e1, e2⟩ := tw_app hd hr
  rw [e1, e2, if_neg (by omega), if_neg hp]
theorem num_dec (sg : Int) {d m r : List UInt8} (hd : allB digitI d = true) (h0 : 0 < d.length) (h1 : d.length ≤ 12) (hm : allB digitI m = true) (m0 : 0 < m.length) (m1 : m.length ≤ 3) (hr : Off digitI r) : num sg (d ++ 46 :: (m ++ r)) = some (kv 2 (sg * (val (d ++ m) * 10 ^ (3 - m.length))) [], r) := by
  unfold num
  obtain ⟨e1, e2⟩ := tw_app hd (r := 46 :: (m ++ r)) (off_cons (by decide))
  obtain ⟨e3, e4⟩ := tw_app hm hr
  rw [e1, e2, if_neg (by omega), if_pos (show (46 :: (m ++ r)).headD 0 = 46 from rfl)]
  have e5 : (46 :: (m ++ r)).drop 1 = m ++ r := rfl
  rw [e5, e3, e4, if_neg (by omega)]
/-- A number is read in one of two ways. -/
theorem num_ways {sg : Int} {s : List UInt8} {v : Par} {r : List UInt8} (h : num sg s = some (v, r)) :
    (∃ d, allB digitI d = true ∧ 0 < d.length ∧ d.length ≤ 15 ∧ s = d ++ r ∧ v = kv 1 (sg * val d) [] ∧ Off digitI r ∧ r.headD 0 ≠ 46) ∨
    (∃ d m, allB digitI d = true ∧ 0 < d.length ∧ d.length ≤ 12 ∧ allB digitI m = true ∧ 0 < m.length ∧ m.length ≤ 3 ∧ s = d ++ 46 :: (m ++ r) ∧ v = kv 2 (sg * (val (d ++ m) * 10 ^ (3 - m.length))) [] ∧ Off digitI r) := by
  unfold num at h
  split at h
  · cases h
  · rename_i hl
    have ed := tw_dw digitI s
    split at h
    · rename_i h46
      split at h
      · cases h
      · rename_i hm
        cases h
        have em := tw_dw digitI ((dw digitI s).drop 1)
        refine .inr ⟨tw digitI s, tw digitI ((dw digitI s).drop 1), tw_all _ _, by omega, by omega, tw_all _ _, by omega, by omega, ?_, rfl, dw_off _ _⟩
        rw [em]
        cases hc : dw digitI s with
        | nil => rw [hc] at h46; cases h46
        | cons c t =>
          rw [hc] at h46 ed
          have : c = 46 := h46
          subst this
          exact ed.symm
    · rename_i h46
      cases h
      exact .inl ⟨tw digitI s, tw_all _ _, by omega, by omega, ed.symm, rfl, dw_off _ _, h46⟩

/-! ### texts between quotes -/
theorem quo_cons (c : UInt8) (r : List UInt8) : quo (c :: r) = if c = 34 then some ([], r)
    else if prI c.toNat then
      (if c = 92 then
        (match r with
         | [] => none
         | d :: r' => if d = 34 ∨ d = 92 then (quo r').map fun x => (d :: x.1, x.2) else none)
       else (quo r).map fun x => (c :: x.1, x.2))
    else none := by rw [quo.eq_def]; cases r <;> rfl
theorem quo_esc {t : List UInt8} (h : allB prI t = true) (r : List UInt8) : quo (esc t ++ 34 :: r) = some (t, r) := by
  induction t with
  | nil => rw [esc, List.nil_append, quo_cons, if_pos rfl]
  | cons c t ih =>
    simp only [allB, List.all_cons, Bool.and_eq_true] at h
    have ih' := ih h.2
    rw [esc]
    by_cases hc : c = 34 ∨ c = 92
    · rw [if_pos hc, List.cons_append, List.cons_append, quo_cons, if_neg (by decide), if_pos (by decide), if_pos rfl]
      simp only [hc, if_true]
      rw [ih']; rfl
    · rw [if_neg hc, List.cons_append, quo_cons, if_neg (fun e => hc (.inl e)), if_pos h.1, if_neg (fun e => hc (.inr e)), ih']; rfl
theorem quo_ways : ∀ (s t r : List UInt8), quo s = some (t, r) → s = esc t ++ 34 :: r ∧ allB prI t = true := by
  intro s
  obtain ⟨k, hk⟩ : ∃ k, s.length = k := ⟨_, rfl⟩
  induction k using Nat.strongRecOn generalizing s with
  | ind k ih =>
    intro t r h
    cases s with
    | nil => rw [quo] at h; cases h
    | cons c s =>
      rw [quo_cons] at h
      simp only [List.length_cons] at hk
      split at h
      · rename_i hc; cases h; subst hc; exact ⟨rfl, rfl⟩
      · rename_i hc
        split at h
        · rename_i hp
          split at h
          · rename_i h92
            cases s with
            | nil => cases h
            | cons d s' =>
              simp only at h
              split at h
              · rename_i hd
                cases hq : quo s' with
                | none => rw [hq] at h; cases h
                | some x =>
                  rw [hq] at h
                  cases h
                  simp only [List.length_cons] at hk
                  obtain ⟨e1, e2⟩ := ih s'.length (by omega) s' rfl x.1 x.2 hq
                  refine ⟨?_, ?_⟩
                  · rw [esc, if_pos hd, h92]
                    rw [List.cons_append, List.cons_append, ← e1]
                  · simp only [allB, List.all_cons, Bool.and_eq_true]
                    refine ⟨?_, e2⟩
                    rcases hd with rfl | rfl <;> decide
              · cases h
          · rename_i h92
            cases hq : quo s with
            | none => rw [hq] at h; cases h
            | some x =>
              rw [hq] at h
              cases h
              obtain ⟨e1, e2⟩ := ih s.length (by omega) s rfl x.1 x.2 hq
              refine ⟨?_, ?_⟩
              · rw [esc, if_neg (by rintro (e | e); exact hc e; exact h92 e), List.cons_append, ← e1]
              · simp only [allB, List.all_cons, Bool.and_eq_true]
                exact ⟨hp, e2⟩
        · cases h

/-! ### values: there -/
theorem tok_ne {c : UInt8} (h : (letterI c.toNat || c == 42) = true) : c ≠ 45 ∧ digitI c.toNat = false ∧ c ≠ 34 := by
  rw [Bool.or_eq_true, beq_iff_eq] at h
  rcases h with h | rfl
  · refine ⟨?_, ?_, ?_⟩
    · rintro rfl; cases h
    · unfold letterI at h
      unfold digitI
      simp only [Bool.or_eq_true, Bool.and_eq_true, decide_eq_true_eq] at h
      rw [Bool.and_eq_false_iff]
      simp only [decide_eq_false_iff_not]
      omega
    · rintro rfl; cases h
  · decide
theorem vtext_num {k n : Int} {t v : List UInt8} (h : vtext k n t = some v) : -maxN ≤ n ∧ n ≤ maxN ∧ (numK k = true → t = []) ∧ (numK k = false → n = 0) ∧ (k = 1 ∨ k = 2 ∨ k = 3 ∨ k = 4 ∨ k = 5 ∨ k = 6) := by
  unfold vtext at h
  split at h
  · cases h
  · rename_i hc
    simp only [Bool.or_eq_true, Bool.and_eq_true, decide_eq_true_eq, not_or, not_and, bne_iff_ne, ne_eq, Bool.not_eq_true', Bool.not_eq_false, Decidable.not_not] at hc
    obtain ⟨h1, h2, h3, h4⟩ := hc
    refine ⟨by omega, by omega, ?_, ?_, ?_⟩
    · intro hk
      have := h1 hk
      cases t with
      | nil => rfl
      | cons a b => simp at this
    · intro hk; exact h2 hk
    · by_cases a1 : k = 1
      · exact .inl a1
      by_cases a2 : k = 2
      · exact .inr (.inl a2)
      by_cases a6 : k = 6
      · simp [a6]
      by_cases a3 : k = 3
      · simp [a3]
      by_cases a4 : k = 4
      · simp [a4]
      by_cases a5 : k = 5
      · simp [a5]
      rw [if_neg a1, if_neg a2, if_neg a6, if_neg a3, if_neg a4, if_neg a5] at h
      cases h
theorem cond_no {k n : Int} {t : List UInt8} (h1 : -maxN ≤ n) (h2 : n ≤ maxN) (h3 : numK k = true → t = []) (h4 : numK k = false → n = 0) : ((numK k && !t.isEmpty) || ((!numK k && n != 0) || (decide (n < -maxN) || decide (maxN < n)))) = false := by
  have e1 : decide (n < -maxN) = false := decide_eq_false (by omega)
  have e2 : decide (maxN < n) = false := decide_eq_false (by omega)
  rw [e1, e2]
  cases hk : numK k with
  | true => rw [h3 hk]; rfl
  | false => rw [h4 hk]; rfl
theorem head_ne {d : List UInt8} (hd : allB digitI d = true) (h0 : 0 < d.length) (r : List UInt8) : ∃ c t, d ++ r = c :: t ∧ c ≠ 45 ∧ digitI c.toNat = true := by
  cases d with
  | nil => cases h0
  | cons c d =>
    simp only [allB, List.all_cons, Bool.and_eq_true] at hd
    refine ⟨c, d ++ r, rfl, ?_, hd.1⟩
    rintro rfl
    cases hd.1
theorem value_num {d : List UInt8} (hd : allB digitI d = true) (h0 : 0 < d.length) (r : List UInt8) : value (d ++ r) = num 1 (d ++ r) := by
  obtain ⟨c, t, e, h1, h2⟩ := head_ne hd h0 r
  rw [e, value_cons, if_neg h1, if_pos h2]
theorem value_neg (r : List UInt8) : value (45 :: r) = num (-1) r := by rw [value_cons, if_pos rfl]
theorem off_dig {r : List UInt8} (h : Off tokI r) : Off digitI r := h.mono dig_tok
theorem off_46 {r : List UInt8} (h : Off tokI r) : r.headD 0 ≠ 46 := h.ne (by decide) (by decide)
theorem p15 : (10 : Nat) ^ 15 = 1000000000000000 := by decide
theorem p12 : (10 : Nat) ^ 12 = 1000000000000 := by decide
/-- A value is read from its text as itself, whatever stands behind that does not go on. -/
theorem value_back {k n : Int} {t v : List UInt8} (h : vtext k n t = some v) {r : List UInt8} (hr : Off tokI r) : value (v ++ r) = some (kv k n t, r) := by
  obtain ⟨b1, b2, b3, b4, bk⟩ := vtext_num h
  unfold maxN at b1 b2
  unfold vtext at h
  rw [if_neg (by rw [cond_no b1 b2 b3 b4]; decide)] at h
  rcases bk with rfl | rfl | rfl | rfl | rfl | rfl
  · rw [if_pos rfl] at h
    cases h
    rw [b3 rfl]
    unfold Lib.itoa
    by_cases hn : n < 0
    · obtain ⟨d1, d2, _, d4, _⟩ := dec_good n.natAbs
      rw [if_pos hn, List.cons_append, value_neg, num_int (-1) d1 d4 (dec_len _ 15 (by rw [p15]; omega) (by decide)) (off_dig hr) (off_46 hr), d2]
      have : (-1 : Int) * (n.natAbs : Int) = n := by omega
      rw [this]
    · obtain ⟨d1, d2, _, d4, _⟩ := dec_good n.toNat
      rw [if_neg hn, value_num d1 d4, num_int 1 d1 d4 (dec_len _ 15 (by rw [p15]; omega) (by decide)) (off_dig hr) (off_46 hr), d2]
      have : (1 : Int) * (n.toNat : Int) = n := by omega
      rw [this]
  · rw [if_neg (by decide), if_pos rfl] at h
    cases h
    rw [b3 rfl]
    unfold decT
    obtain ⟨d1, d2, _, d4, _⟩ := dec_good (n.natAbs / 1000)
    obtain ⟨f1, f2, f3, f4, _⟩ := frac_good (f := n.natAbs % 1000) (by omega)
    have hl := dec_len (n.natAbs / 1000) 12 (by rw [p12]; omega) (by decide)
    have hv : val (Lib.decDigits (n.natAbs / 1000) ++ frac (n.natAbs % 1000)) * 10 ^ (3 - (frac (n.natAbs % 1000)).length) = (n.natAbs : Int) := by
      rw [val_app, d2, Int.add_mul, f4, Int.mul_assoc, ← Int.pow_add, show (frac (n.natAbs % 1000)).length + (3 - (frac (n.natAbs % 1000)).length) = 3 by omega]
      have : (10 : Int) ^ 3 = 1000 := by decide
      rw [this]; omega
    by_cases hn : n < 0
    · have e : (if n < 0 then [45] else [] : List UInt8) = [45] := if_pos hn
      have e2 : ([45] : List UInt8) ++ (Lib.decDigits (n.natAbs / 1000) ++ 46 :: frac (n.natAbs % 1000)) ++ r = 45 :: (Lib.decDigits (n.natAbs / 1000) ++ 46 :: (frac (n.natAbs % 1000) ++ r)) := by simp
      rw [e, e2, value_neg, num_dec (-1) d1 d4 hl f1 f2 f3 (off_dig hr), hv]
      have : (-1 : Int) * (n.natAbs : Int) = n := by omega
      rw [this]
    · have e : (if n < 0 then [45] else [] : List UInt8) = [] := if_neg hn
      have e2 : ([] : List UInt8) ++ (Lib.decDigits (n.natAbs / 1000) ++ 46 :: frac (n.natAbs % 1000)) ++ r = Lib.decDigits (n.natAbs / 1000) ++ 46 :: (frac (n.natAbs % 1000) ++ r) := by simp
      rw [e, e2, value_num d1 d4, num_dec 1 d1 d4 hl f1 f2 f3 (off_dig hr), hv]
      have : (1 : Int) * (n.natAbs : Int) = n := by omega
      rw [this]
  · have hz := b4 rfl
    subst hz
    rw [if_neg (by decide), if_neg (by decide), if_neg (by decide), if_pos rfl] at h
    split at h
    · rename_i hp
      cases h
      have e : (34 :: (esc t ++ [34])) ++ r = 34 :: (esc t ++ 34 :: r) := by simp
      rw [e, value_cons, if_neg (by decide), if_neg (by decide), if_pos rfl, quo_esc hp]; rfl
    · cases h
  · have hz := b4 rfl
    subst hz
    rw [if_neg (by decide), if_neg (by decide), if_neg (by decide), if_neg (by decide), if_pos rfl] at h
    split at h
    · rename_i hp
      cases h
      cases t with
      | nil => cases hp
      | cons c t =>
        simp only [tokB, Bool.and_eq_true] at hp
        obtain ⟨h1, h2, h3⟩ := tok_ne hp.1
        obtain ⟨e1, e2⟩ := tw_app hp.2 hr
        rw [List.cons_append, value_cons, if_neg h1, if_neg (by rw [h2]; decide), if_neg h3, if_pos hp.1, e1, e2]
    · cases h
  · have hz := b4 rfl
    subst hz
    rw [if_neg (by decide), if_neg (by decide), if_neg (by decide), if_neg (by decide), if_neg (by decide), if_pos rfl] at h
    split at h
    · rename_i hp
      cases h
      have e : (58 :: (t ++ [58])) ++ r = 58 :: (t ++ 58 :: r) := by simp
      obtain ⟨e1, e2⟩ := tw_app hp (r := 58 :: r) (off_cons (by decide))
      rw [e, value_cons, if_neg (by decide), if_neg (by decide), if_neg (by decide), if_neg (by decide), if_pos rfl, e1, e2, if_pos (show (58 :: r).headD 0 = 58 from rfl)]
      rfl
    · cases h
  · rw [if_neg (by decide), if_neg (by decide), if_pos rfl] at h
    rw [b3 rfl]
    split at h
    · rename_i hn
      cases h
      rcases hn with rfl | rfl
      · have e : Lib.itoa 0 = [48] := by unfold Lib.itoa; rw [if_neg (by decide), dec_small (by decide)]; rfl
        rw [e]
        rfl
      · have e : Lib.itoa 1 = [49] := by unfold Lib.itoa; rw [if_neg (by decide), dec_small (by decide)]; rfl
        rw [e]
        rfl
    · cases h
end Sf
end Go.Proofs.YtgddmihojladfaaGreatDoor

/- Items of structured fields: what is read as a value is its own text's, and may be. No program is named here. -/

namespace Go.Proofs.YtgddmihojladfaaGreatDoor
namespace Sf
open Oct

/-- A text that begins and ends with no blank. -/
structure Ends (a : List UInt8) : Prop where
  ne : a ≠ []
  hd : a.headD 0 ≠ 32
  la : a.getLastD 0 ≠ 32
theorem last_mem {a : List UInt8} (h : a ≠ []) : a.getLastD 0 ∈ a := by
  cases a with
  | nil => exact absurd rfl h
  | cons c r => rw [List.getLastD_cons]; exact List.getLastD_mem_cons
theorem head_mem {a : List UInt8} (h : a ≠ []) : a.headD 0 ∈ a := by
  cases a with
  | nil => exact absurd rfl h
  | cons c r => simp
theorem ends_all {p : Int → Bool} (hp : p 32 = false) {a : List UInt8} (ha : allB p a = true) (h : a ≠ []) : Ends a := by
  unfold allB at ha
  rw [List.all_eq_true] at ha
  have key : ∀ c ∈ a, c ≠ 32 := by
    rintro c hc rfl
    have := ha _ hc
    rw [show (((32 : UInt8).toNat : Nat) : Int) = 32 by rfl, hp] at this
    cases this
  exact ⟨h, key _ (head_mem h), key _ (last_mem h)⟩
theorem last_app (a : List UInt8) {b : List UInt8} (h : b ≠ []) : (a ++ b).getLastD 0 = b.getLastD 0 := by
  rw [List.getLastD_eq_getLast?, List.getLastD_eq_getLast?, List.getLast?_append]
  cases hb : b.getLast? with
  | none => exact absurd (List.getLast?_eq_none_iff.1 hb) h
  | some x => rfl
theorem head_app {a : List UInt8} (b : List UInt8) (h : a ≠ []) : (a ++ b).headD 0 = a.headD 0 := by
  cases a with
  | nil => exact absurd rfl h
  | cons c r => rfl
/-- What begins with one that has no blank at its head, and ends with one that has none at its end. -/
theorem ends_app {a b : List UInt8} (ha : a ≠ []) (h1 : a.headD 0 ≠ 32) (hb : b ≠ []) (h2 : b.getLastD 0 ≠ 32) : Ends (a ++ b) :=
  ⟨by simp [ha], by rw [head_app b ha]; exact h1, by rw [last_app a hb]; exact h2⟩
theorem pow_pos10 (k : Nat) : (0 : Int) < 10 ^ k := Int.pow_pos (by decide)

/-- A number's text, from its digits. -/
theorem itoa_len (sg : Int) (hs : sg = 1 ∨ sg = -1) {d : List UInt8} (hd : allB digitI d = true) (h0 : 0 < d.length) : (Lib.itoa (sg * val d)).length ≤ (if sg = 1 then 0 else 1) + d.length := by
  have h1 := val_nonneg d hd
  have h2 := dec_val d hd h0
  unfold Lib.itoa
  rcases hs with rfl | rfl
  · rw [if_neg (by omega), if_pos rfl, show ((1 : Int) * val d).toNat = (val d).toNat by rw [Int.one_mul]]
    omega
  · rw [if_neg (by decide : ¬ (-1 : Int) = 1)]
    by_cases hz : val d = 0
    · rw [hz, if_neg (by decide)]
      rw [show ((-1 : Int) * 0).toNat = 0 by rfl, dec_small (by decide)]
      simp
    · rw [if_pos (by omega), show ((-1 : Int) * val d).natAbs = (val d).toNat by omega]
      simp; omega
theorem val_bound {d : List UInt8} (hd : allB digitI d = true) (k : Nat) (h : d.length ≤ k) : val d ≤ 10 ^ k - 1 := by
  have h1 := val_lt d hd
  have h2 : (10 : Int) ^ d.length ≤ 10 ^ k := by
    have := Nat.pow_le_pow_right (n := 10) (by decide) h
    exact_mod_cast this
  omega
/-- The thousandths that digits behind a point are. -/
theorem mil (d m : List UInt8) (hm : allB digitI m = true) (m0 : 0 < m.length) (m1 : m.length ≤ 3) :
    ∃ f : Nat, f < 1000 ∧ val (d ++ m) * 10 ^ (3 - m.length) = val d * 1000 + (f : Int) ∧ (frac f).length ≤ m.length := by
  have h1 := val_nonneg m hm
  have h2 := val_lt m hm
  have e : val (d ++ m) * 10 ^ (3 - m.length) = val d * 1000 + val m * 10 ^ (3 - m.length) := by
    rw [val_app, Int.add_mul, Int.mul_assoc, ← Int.pow_add, show m.length + (3 - m.length) = 3 by omega]
    rfl
  obtain ⟨v, hv⟩ : ∃ v, val m = v := ⟨_, rfl⟩
  rw [hv] at h1 h2 e
  rcases (by omega : m.length = 1 ∨ m.length = 2 ∨ m.length = 3) with h | h | h
  · rw [h] at e h2 ⊢
    refine ⟨v.toNat * 100, by omega, ?_, ?_⟩
    · rw [e]; show val d * 1000 + v * 100 = _; omega
    · have := (frac_good (f := v.toNat * 100) (by omega)).2.2.2.2.1 (by omega)
      omega
  · rw [h] at e h2 ⊢
    refine ⟨v.toNat * 10, by omega, ?_, ?_⟩
    · rw [e]; show val d * 1000 + v * 10 = _; omega
    · exact (frac_good (f := v.toNat * 10) (by omega)).2.2.2.2.2 (by omega)
  · rw [h] at e h2 ⊢
    refine ⟨v.toNat, by omega, ?_, ?_⟩
    · rw [e]; show val d * 1000 + v * 1 = _; omega
    · exact (frac_good (f := v.toNat) (by omega)).2.2.1
theorem ten_add (k : Nat) : (10 : Int) ^ (k + 1) = 10 ^ k * 10 := Int.pow_succ _ _
theorem vt1 {n : Int} (h1 : -maxN ≤ n) (h2 : n ≤ maxN) : vtext 1 n [] = some (Lib.itoa n) := by
  unfold vtext
  rw [if_neg (by rw [cond_no h1 h2 (fun _ => rfl) (fun h => by cases h)]; decide), if_pos rfl]
theorem vt2 {n : Int} (h1 : -maxN ≤ n) (h2 : n ≤ maxN) : vtext 2 n [] = some (decT n) := by
  unfold vtext
  rw [if_neg (by rw [cond_no h1 h2 (fun _ => rfl) (fun h => by cases h)]; decide), if_neg (by decide), if_pos rfl]
theorem vt3 {t : List UInt8} (h : allB prI t = true) : vtext 3 0 t = some (34 :: (esc t ++ [34])) := by
  unfold vtext
  rw [if_neg (by rw [cond_no (by decide) (by decide) (fun h => by cases h) (fun _ => rfl)]; decide), if_neg (by decide), if_neg (by decide), if_neg (by decide), if_pos rfl, if_pos h]
theorem vt4 {t : List UInt8} (h : tokB t = true) : vtext 4 0 t = some t := by
  unfold vtext
  rw [if_neg (by rw [cond_no (by decide) (by decide) (fun h => by cases h) (fun _ => rfl)]; decide), if_neg (by decide), if_neg (by decide), if_neg (by decide), if_neg (by decide), if_pos rfl, if_pos h]
theorem vt5 {t : List UInt8} (h : allB baseI t = true) : vtext 5 0 t = some (58 :: (t ++ [58])) := by
  unfold vtext
  rw [if_neg (by rw [cond_no (by decide) (by decide) (fun h => by cases h) (fun _ => rfl)]; decide), if_neg (by decide), if_neg (by decide), if_neg (by decide), if_neg (by decide), if_neg (by decide), if_pos rfl, if_pos h]
theorem vt6 {n : Int} (h : n = 0 ∨ n = 1) : vtext 6 n [] = some [63, UInt8.ofNat (48 + n.toNat)] := by
  have e : Lib.itoa n = [UInt8.ofNat (48 + n.toNat)] := by
    unfold Lib.itoa
    rcases h with rfl | rfl
    · rw [if_neg (by decide), dec_small (by decide)]
    · rw [if_neg (by decide), dec_small (by decide)]
  unfold vtext
  rw [if_neg (by rw [cond_no (by unfold maxN; omega) (by unfold maxN; omega) (fun _ => rfl) (fun h => by cases h)]; decide), if_neg (by decide), if_neg (by decide), if_pos rfl, if_pos h, e]

/-- What is read as a value: the text that it takes, which is read so whatever does not go on stands behind; and the value may be, its own text no longer. -/
structure Reads (s : List UInt8) (v : Par) (r a t : List UInt8) : Prop where
  eq : s = a ++ r
  ends : Ends a
  loc : ∀ r', Off tokI r' → value (a ++ r') = some (v, r')
  txt : vtext v.kind v.n v.text = some t
  len : t.length ≤ a.length
theorem num_reads {sg : Int} (hs : sg = 1 ∨ sg = -1) {s : List UInt8} {v : Par} {r pre : List UInt8} (hpre : pre = if sg = 1 then [] else [45]) (hval : ∀ d r', allB digitI d = true → 0 < d.length → value (pre ++ (d ++ r')) = num sg (d ++ r')) (h : num sg s = some (v, r)) : ∃ a t, Reads (pre ++ s) v r a t := by
  have hpl : pre.length = if sg = 1 then 0 else 1 := by rw [hpre]; split <;> rfl
  have hends : ∀ d : List UInt8, allB digitI d = true → d ≠ [] → ∀ x : List UInt8, x ≠ [] → x.getLastD 0 ≠ 32 → Ends (pre ++ (d ++ x)) := by
    intro d hd hne x hx hl
    have e := ends_all (by decide) hd hne
    have e2 := ends_app hne e.hd hx hl
    rw [hpre]
    split
    · exact e2
    · exact ends_app (by decide) (by decide) e2.ne e2.la
  rcases num_ways h with ⟨d, h1, h2, h3, rfl, rfl, _, _⟩ | ⟨d, m, h1, h2, h3, m1, m2, m3, rfl, rfl, _⟩
  · have hb := val_bound h1 15 h3
    have hb0 := val_nonneg d h1
    have e15 : (10 : Int) ^ 15 = 1000000000000000 := by decide
    rw [e15] at hb
    have hdn : d ≠ [] := by intro e; rw [e] at h2; cases h2
    refine ⟨pre ++ d, Lib.itoa (sg * val d), ⟨by rw [List.append_assoc], ?_, ?_, ?_, ?_⟩⟩
    · have e := ends_all (by decide) h1 hdn
      rw [hpre]
      split
      · exact e
      · exact ends_app (by decide) (by decide) e.ne e.la
    · intro r' hr'
      rw [List.append_assoc, hval d r' h1 h2]
      exact num_int sg h1 h2 h3 (off_dig hr') (off_46 hr')
    · exact vt1 (n := sg * val d) (by unfold maxN; rcases hs with rfl | rfl <;> omega) (by unfold maxN; rcases hs with rfl | rfl <;> omega)
    · have := itoa_len sg hs h1 h2
      rw [List.length_append, hpl]
      exact this
  · obtain ⟨f, hf, he, hl⟩ := mil d m m1 m2 m3
    have hb := val_bound h1 12 h3
    have hb0 := val_nonneg d h1
    have e12 : (10 : Int) ^ 12 = 1000000000000 := by decide
    rw [e12] at hb
    have hdn : d ≠ [] := by intro e; rw [e] at h2; cases h2
    have hmn : m ≠ [] := by intro e; rw [e] at m2; cases m2
    rw [he]
    refine ⟨pre ++ (d ++ 46 :: m), decT (sg * (val d * 1000 + f)), ⟨by simp, ?_, ?_, ?_, ?_⟩⟩
    · refine hends d h1 hdn (46 :: m) (by simp) ?_
      have := (ends_all (by decide) m1 hmn).la
      rw [show (46 :: m) = [46] ++ m from rfl, last_app [46] hmn]
      exact this
    · intro r' hr'
      have e : pre ++ (d ++ 46 :: m) ++ r' = pre ++ (d ++ (46 :: (m ++ r'))) := by simp
      rw [e, hval d _ h1 h2, num_dec sg h1 h2 h3 m1 m2 m3 (off_dig hr'), he]
    · exact vt2 (n := sg * (val d * 1000 + f)) (by unfold maxN; rcases hs with rfl | rfl <;> omega) (by unfold maxN; rcases hs with rfl | rfl <;> omega)
    · have hna : (sg * (val d * 1000 + f)).natAbs = (val d).toNat * 1000 + f := by rcases hs with rfl | rfl <;> omega
      unfold decT
      rw [hna, show ((val d).toNat * 1000 + f) / 1000 = (val d).toNat by omega, show ((val d).toNat * 1000 + f) % 1000 = f by omega]
      have h5 := dec_val d h1 h2
      have h6 : (if sg * (val d * 1000 + f) < 0 then [45] else [] : List UInt8).length ≤ pre.length := by
        rw [hpl]
        rcases hs with rfl | rfl
        · rw [if_neg (by omega)]; simp
        · show _ ≤ 1
          split <;> simp
      simp only [List.length_append, List.length_cons]
      omega
theorem value_reads {s : List UInt8} {v : Par} {r : List UInt8} (h : value s = some (v, r)) : ∃ a t, Reads s v r a t := by
  cases s with
  | nil => cases h
  | cons c s =>
    rw [value_cons] at h
    by_cases h45 : c = 45
    · rw [if_pos h45] at h
      subst h45
      exact num_reads (sg := -1) (pre := [45]) (.inr rfl) rfl (fun d r' _ _ => value_neg _) h
    rw [if_neg h45] at h
    by_cases hd : digitI c.toNat = true
    · rw [if_pos hd] at h
      exact num_reads (sg := 1) (pre := []) (.inl rfl) rfl (fun d r' h1 h2 => value_num h1 h2 r') h
    rw [if_neg hd] at h
    by_cases h34 : c = 34
    · rw [if_pos h34] at h
      subst h34
      cases hq : quo s with
      | none => rw [hq] at h; cases h
      | some x =>
        rw [hq] at h
        cases h
        obtain ⟨e1, e2⟩ := quo_ways s x.1 x.2 hq
        refine ⟨34 :: (esc x.1 ++ [34]), _, ⟨by rw [e1]; simp, ?_, ?_, vt3 e2, Nat.le_refl _⟩⟩
        · have := ends_app (a := [34]) (b := esc x.1 ++ [34]) (by decide) (by decide) (by simp) (by rw [last_app _ (by decide)]; decide)
          exact this
        · intro r' _
          have e : (34 :: (esc x.1 ++ [34])) ++ r' = 34 :: (esc x.1 ++ 34 :: r') := by simp
          rw [e, value_cons, if_neg (by decide), if_neg (by decide), if_pos rfl, quo_esc e2]; rfl
    rw [if_neg h34] at h
    by_cases hl : (letterI c.toNat || c == 42) = true
    · rw [if_pos hl] at h
      cases h
      have e := tw_dw tokI s
      have ha := tw_all tokI s
      have hc32 : c ≠ 32 := by rintro rfl; cases hl
      have htk : allB tokI (c :: tw tokI s) = true := by
        unfold allB
        rw [List.all_cons, Bool.and_eq_true]
        refine ⟨?_, ha⟩
        unfold tokI tcharI
        rw [Bool.or_eq_true, beq_iff_eq] at hl
        rcases hl with hl | rfl
        · rw [hl]; rfl
        · decide
      refine ⟨c :: tw tokI s, c :: tw tokI s, ⟨by rw [List.cons_append, e], ends_all (by decide) htk (by simp), ?_, vt4 (by show ((letterI c.toNat || c == 42) && allB tokI (tw tokI s)) = true; rw [hl, ha]; rfl), Nat.le_refl _⟩⟩
      intro r' hr'
      obtain ⟨e1, e2⟩ := tw_app ha hr'
      rw [List.cons_append, value_cons, if_neg h45, if_neg hd, if_neg h34, if_pos hl, e1, e2]
    rw [if_neg hl] at h
    by_cases h58 : c = 58
    · rw [if_pos h58] at h
      subst h58
      split at h
      · rename_i hh
        cases h
        have e := tw_dw baseI s
        have ha := tw_all baseI s
        have e3 : dw baseI s = 58 :: (dw baseI s).drop 1 := by
          cases hc : dw baseI s with
          | nil => rw [hc] at hh; cases hh
          | cons x y => rw [hc] at hh; have : x = 58 := hh; rw [this]; rfl
        refine ⟨58 :: (tw baseI s ++ [58]), _, ⟨?_, ?_, ?_, vt5 ha, Nat.le_refl _⟩⟩
        · rw [List.cons_append, List.append_assoc, List.singleton_append, ← e3, e]
        · have := ends_app (a := [58]) (b := tw baseI s ++ [58]) (by decide) (by decide) (by simp) (by rw [last_app _ (by decide)]; decide)
          exact this
        · intro r' _
          have e4 : (58 :: (tw baseI s ++ [58])) ++ r' = 58 :: (tw baseI s ++ 58 :: r') := by simp
          obtain ⟨e1, e2⟩ := tw_app ha (r := 58 :: r') (off_cons (by decide))
          rw [e4, value_cons, if_neg (by decide), if_neg (by decide), if_neg (by decide), if_neg (by decide), if_pos rfl, e1, e2, if_pos (show (58 :: r').headD 0 = 58 from rfl)]
          rfl
      · cases h
    rw [if_neg h58] at h
    by_cases h63 : c = 63
    · rw [if_pos h63] at h
      subst h63
      split at h
      · rename_i hh
        cases h
        obtain ⟨y, rfl⟩ : ∃ y, s = 48 :: y := by
          cases s with
          | nil => cases hh
          | cons x y => have : x = 48 := hh; exact ⟨y, by rw [this]⟩
        exact ⟨[63, 48], _, ⟨rfl, ⟨by decide, by decide, by decide⟩, fun r' _ => rfl, vt6 (.inl rfl), by simp⟩⟩
      · split at h
        · rename_i hh
          cases h
          obtain ⟨y, rfl⟩ : ∃ y, s = 49 :: y := by
            cases s with
            | nil => cases hh
            | cons x y => have : x = 49 := hh; exact ⟨y, by rw [this]⟩
          exact ⟨[63, 49], _, ⟨rfl, ⟨by decide, by decide, by decide⟩, fun r' _ => rfl, vt6 (.inr rfl), by simp⟩⟩
        · cases h
    rw [if_neg h63] at h
    cases h
end Sf
end Go.Proofs.YtgddmihojladfaaGreatDoor

/- Items of structured fields: parameters, there and back. No program is named here. -/

namespace Go.Proofs.YtgddmihojladfaaGreatDoor
namespace Sf
open Oct

/-! ### keys -/
theorem keyOf_ways {s k r : List UInt8} (h : keyOf s = some (k, r)) : s = k ++ r ∧ keyB k = true ∧ Off keyI r := by
  cases s with
  | nil => cases h
  | cons c s =>
    simp only [keyOf] at h
    split at h
    · rename_i hc
      cases h
      refine ⟨by rw [List.cons_append, tw_dw], ?_, dw_off _ _⟩
      show (key1I c.toNat && allB keyI (tw keyI s)) = true
      rw [hc, tw_all]; rfl
    · cases h
theorem keyOf_back {k r : List UInt8} (h : keyB k = true) (hr : Off keyI r) : keyOf (k ++ r) = some (k, r) := by
  cases k with
  | nil => cases h
  | cons c k =>
    simp only [keyB, Bool.and_eq_true] at h
    obtain ⟨e1, e2⟩ := tw_app h.2 hr
    rw [List.cons_append]
    simp only [keyOf]
    rw [if_pos h.1, e1, e2]
theorem keyB_all {k : List UInt8} (h : keyB k = true) : allB keyI k = true ∧ k ≠ [] := by
  cases k with
  | nil => cases h
  | cons c k =>
    simp only [keyB, Bool.and_eq_true] at h
    refine ⟨?_, by simp⟩
    unfold allB
    rw [List.all_cons, Bool.and_eq_true]
    refine ⟨?_, h.2⟩
    unfold keyI; rw [h.1]; rfl
theorem key_ends {k : List UInt8} (h : keyB k = true) : Ends k := ends_all (by decide) (keyB_all h).1 (keyB_all h).2
theorem blk_cut (s : List UInt8) : ∃ z, s = z ++ blk s ∧ ∀ c ∈ z, c = 32 := by
  refine ⟨s.takeWhile fun b => b == 32, (List.takeWhile_append_dropWhile).symm, ?_⟩
  intro c hc
  have := List.all_takeWhile (p := fun b : UInt8 => b == 32) (l := s)
  rw [List.all_eq_true] at this
  exact beq_iff_eq.1 (this c hc)
theorem blk_app {z x : List UInt8} (hz : ∀ c ∈ z, c = 32) (hx : x.headD 0 ≠ 32) : blk (z ++ x) = x := by
  induction z with
  | nil =>
    cases x with
    | nil => rfl
    | cons c x =>
      have hx' : c ≠ 32 := hx
      unfold blk
      rw [List.nil_append, List.dropWhile_cons, if_neg (by simpa using hx')]
  | cons c z ih =>
    have h1 : c = 32 := hz c (by simp)
    have h2 := ih (fun d hd => hz d (List.mem_cons_of_mem _ hd))
    unfold blk at h2 ⊢
    rw [List.cons_append, List.dropWhile_cons, if_pos (by rw [h1]; rfl), h2]
theorem off_key {r : List UInt8} (h : Off tokI r) : Off keyI r := h.mono key_tok

/-! ### one parameter -/
structure OneReads (s : List UInt8) (p : Par) (r a t : List UInt8) : Prop where
  eq : s = a ++ r
  ne : a ≠ []
  la : a.getLastD 0 ≠ 32
  loc : ∀ r', Off tokI r' → r'.headD 0 ≠ 61 → one (a ++ r') = some (p, r')
  txt : ptext p = some t
  len : t.length ≤ a.length + 1
theorem one_reads {s : List UInt8} {p : Par} {r : List UInt8} (h : one s = some (p, r)) : ∃ a t, OneReads s p r a t := by
  obtain ⟨z, hz, hz2⟩ := blk_cut s
  unfold one at h
  cases hk : keyOf (blk s) with
  | none => rw [hk] at h; cases h
  | some x =>
    obtain ⟨k, r1⟩ := x
    rw [hk] at h
    simp only at h
    obtain ⟨e1, e2, e3⟩ := keyOf_ways hk
    have ke := key_ends e2
    have hb : ∀ y, blk (z ++ (k ++ y)) = k ++ y := fun y => blk_app hz2 (by rw [head_app y ke.ne]; exact ke.hd)
    split at h
    · rename_i h61
      have e4 : r1 = 61 :: r1.drop 1 := by
        cases r1 with
        | nil => cases h61
        | cons c y => have : c = 61 := h61; rw [this]; rfl
      cases hv : value (r1.drop 1) with
      | none => rw [hv] at h; cases h
      | some x =>
        obtain ⟨v, r2⟩ := x
        rw [hv] at h
        cases h
        obtain ⟨a, t, ⟨q1, q2, q3, q4, q5⟩⟩ := value_reads hv
        refine ⟨z ++ (k ++ 61 :: a), 59 :: (k ++ (if v.kind = 6 ∧ v.n = 1 then [] else 61 :: t)), ⟨?_, ?_, ?_, ?_, ?_, ?_⟩⟩
        · have h5 : s = z ++ (k ++ 61 :: (a ++ r)) := by rw [hz, e1]; rw [e4, q1]
          rw [h5]; simp
        · simp
        · rw [last_app z (by simp), last_app k (by simp), show (61 :: a) = [61] ++ a from rfl, last_app [61] q2.ne]
          exact q2.la
        · intro r' hr' _
          have e5 : z ++ (k ++ 61 :: a) ++ r' = z ++ (k ++ 61 :: (a ++ r')) := by simp
          unfold one
          rw [e5, hb, keyOf_back e2 (off_cons (by decide))]
          simp only
          rw [if_pos (show (61 :: (a ++ r')).headD 0 = 61 from rfl), show (61 :: (a ++ r')).drop 1 = a ++ r' from rfl, q3 r' hr']
        · unfold ptext
          rw [if_pos e2, q4]
          rfl
        · split
          · simp; omega
          · simp; omega
    · rename_i h61
      cases h
      refine ⟨z ++ k, 59 :: (k ++ []), ⟨?_, by simp [ke.ne], by rw [last_app z ke.ne]; exact ke.la, ?_, ?_, by simp⟩⟩
      · rw [List.append_assoc, ← e1]; exact hz
      · intro r' hr' h61'
        unfold one
        rw [List.append_assoc, hb, keyOf_back e2 (off_key hr')]
        simp only
        rw [if_neg h61']
      · unfold ptext
        rw [if_pos e2, vt6 (.inr rfl)]
        rfl
theorem one_len {s : List UInt8} {p : Par} {r : List UInt8} (h : one s = some (p, r)) : r.length < s.length := by
  obtain ⟨a, t, q⟩ := one_reads h
  rw [q.eq, List.length_append]
  have : 0 < a.length := List.length_pos_iff.2 q.ne
  omega
theorem one_back {p : Par} {t r : List UInt8} (h : ptext p = some t) (hr : Off tokI r) (h61 : r.headD 0 ≠ 61) : ∃ t', t = 59 :: t' ∧ one (t' ++ r) = some (p, r) := by
  obtain ⟨pk, pd, pn, pt⟩ := p
  unfold ptext at h
  simp only at h
  split at h
  · rename_i hk
    have ke := key_ends hk
    have hb : ∀ y, blk (pk ++ y) = pk ++ y := fun y => by
      have := blk_app (z := []) (x := pk ++ y) (by simp) (by rw [head_app y ke.ne]; exact ke.hd)
      exact this
    cases hv : vtext pd pn pt with
    | none => rw [hv] at h; cases h
    | some v =>
      rw [hv] at h
      cases h
      refine ⟨_, rfl, ?_⟩
      by_cases hc : pd = 6 ∧ pn = 1
      · rw [if_pos hc, List.append_nil]
        unfold one
        rw [hb, keyOf_back hk (off_key hr)]
        simp only
        rw [if_neg h61, hc.1, hc.2]
        have : pt = [] := (vtext_num hv).2.2.1 (by rw [hc.1]; rfl)
        rw [this]
      · rw [if_neg hc]
        unfold one
        rw [List.append_assoc, List.cons_append, hb, keyOf_back hk (off_cons (by decide))]
        simp only
        rw [if_pos (show (61 :: (v ++ r)).headD 0 = 61 from rfl), show (61 :: (v ++ r)).drop 1 = v ++ r from rfl, value_back hv hr]
        rfl
  · cases h

/-! ### lists of parameters -/
def keys (l : List Par) : List (List UInt8) := l.map (·.key)
def pt (p : Par) : List UInt8 := (ptext p).getD []
/-- The text of parameters. -/
def T (l : List Par) : List UInt8 := l.flatMap pt
structure Vld (l : List Par) : Prop where
  nodup : (keys l).Nodup
  may : ∀ q ∈ l, (ptext q).isSome = true
theorem pt_some {p : Par} (h : (ptext p).isSome = true) : ptext p = some (pt p) := by
  obtain ⟨t, ht⟩ := Option.isSome_iff_exists.1 h
  unfold pt; rw [ht]; rfl
theorem T_cons (p : Par) (l : List Par) : T (p :: l) = pt p ++ T l := by simp [T]
theorem T_app (a b : List Par) : T (a ++ b) = T a ++ T b := by simp [T]
theorem tail_of {l : List Par} (hm : ∀ q ∈ l, (ptext q).isSome = true) : ∀ seen, (seen ++ keys l).Nodup → tailF seen l = some (T l) := by
  induction l with
  | nil => intro seen _; rfl
  | cons p l ih =>
    intro seen hn
    have hk : keys (p :: l) = p.key :: keys l := rfl
    rw [hk] at hn
    have hns : p.key ∉ seen := by
      intro hc
      rw [List.nodup_append] at hn
      exact hn.2.2 _ hc _ (by simp) rfl
    have h2 := ih (fun q hq => hm q (List.mem_cons_of_mem _ hq)) (seen ++ [p.key]) (by simpa using hn)
    rw [tailF, if_neg hns, pt_some (hm p (by simp)), h2, T_cons]
    rfl
theorem tail_vld {l : List Par} (h : Vld l) : tailF [] l = some (T l) := tail_of h.may [] (by simpa using h.nodup)
theorem vld_tail : ∀ {l : List Par} {seen : List (List UInt8)} {t : List UInt8}, seen.Nodup → tailF seen l = some t → (seen ++ keys l).Nodup ∧ (∀ q ∈ l, (ptext q).isSome = true) ∧ t = T l := by
  intro l
  induction l with
  | nil => intro seen t hs h; cases h; exact ⟨by simpa [keys] using hs, (fun _ h => by cases h), rfl⟩
  | cons p l ih =>
    intro seen t hs h
    rw [tailF] at h
    split at h
    · cases h
    · rename_i hns
      cases hp : ptext p with
      | none => rw [hp] at h; cases h
      | some a =>
        rw [hp] at h
        simp only at h
        cases ht : tailF (seen ++ [p.key]) l with
        | none => rw [ht] at h; cases h
        | some b =>
          rw [ht] at h
          cases h
          have hs2 : (seen ++ [p.key]).Nodup := by
            rw [List.nodup_append]
            exact ⟨hs, by simp, by intro a ha b hb e; simp at hb; rw [e, hb] at ha; exact hns ha⟩
          obtain ⟨h1, h2, h3⟩ := ih hs2 ht
          refine ⟨by simpa [keys] using h1, ?_, ?_⟩
          · intro q hq
            rcases List.mem_cons.1 hq with rfl | hq
            · rw [hp]; rfl
            · exact h2 q hq
          · rw [T_cons, h3]; unfold pt; rw [hp]; rfl
theorem vld_of {l : List Par} {t : List UInt8} (h : tailF [] l = some t) : Vld l ∧ t = T l := by
  obtain ⟨h1, h2, h3⟩ := vld_tail List.nodup_nil h
  exact ⟨⟨by simpa using h1, h2⟩, h3⟩
theorem any_key (l : List Par) (k : List UInt8) : (l.any fun q => q.key == k) = true ↔ k ∈ keys l := by
  simp [keys, List.any_eq_true]
theorem put_new {l : List Par} {p : Par} (h : p.key ∉ keys l) : put l p = l ++ [p] := by
  unfold put
  rw [if_neg (by rw [any_key]; exact h)]
def rep (p : Par) (q : Par) : Par := if q.key == p.key then p else q
theorem rep_key (p q : Par) : (rep p q).key = q.key := by
  unfold rep
  split
  · rename_i h; exact (beq_iff_eq.1 h).symm
  · rfl
theorem put_old {l : List Par} {p : Par} (h : p.key ∈ keys l) : put l p = l.map (rep p) := by
  unfold put
  rw [if_pos (by rw [any_key]; exact h)]
  rfl
theorem keys_rep (l : List Par) (p : Par) : keys (l.map (rep p)) = keys l := by
  unfold keys
  rw [List.map_map]
  exact List.map_congr_left (fun q _ => rep_key p q)
theorem rep_none {l : List Par} {p : Par} (h : p.key ∉ keys l) : l.map (rep p) = l := by
  have : ∀ q ∈ l, rep p q = q := by
    intro q hq
    unfold rep
    rw [if_neg]
    intro e
    exact h (by rw [← beq_iff_eq.1 e]; exact List.mem_map.2 ⟨q, hq, rfl⟩)
  exact (List.map_congr_left this).trans (List.map_id' l)
theorem rep_len {p : Par} : ∀ {l : List Par}, (keys l).Nodup → (T (l.map (rep p))).length ≤ (T l).length + (pt p).length
  | [], _ => by simp [T]
  | q :: l, h => by
    have hk : keys (q :: l) = q.key :: keys l := rfl
    rw [hk, List.nodup_cons] at h
    rw [List.map_cons, T_cons, T_cons]
    by_cases e : q.key = p.key
    · have e1 : rep p q = p := by unfold rep; rw [if_pos (beq_iff_eq.2 e)]
      rw [e1, rep_none (by rw [← e]; exact h.1)]
      simp; omega
    · have e1 : rep p q = q := by unfold rep; rw [if_neg (by simpa using e)]
      have := rep_len (p := p) h.2
      rw [e1]
      simp only [List.length_append]
      omega
theorem put_vld {l : List Par} {p : Par} (h : Vld l) (hp : (ptext p).isSome = true) : Vld (put l p) ∧ (T (put l p)).length ≤ (T l).length + (pt p).length := by
  by_cases hk : p.key ∈ keys l
  · rw [put_old hk]
    refine ⟨⟨by rw [keys_rep]; exact h.nodup, ?_⟩, rep_len h.nodup⟩
    intro q hq
    obtain ⟨q0, hq0, rfl⟩ := List.mem_map.1 hq
    unfold rep
    split
    · exact hp
    · exact h.may q0 hq0
  · rw [put_new hk]
    refine ⟨⟨?_, ?_⟩, by rw [T_app]; simp [T]⟩
    · have : keys (l ++ [p]) = keys l ++ [p.key] := by simp [keys]
      rw [this, List.nodup_append]
      exact ⟨h.nodup, by simp, by intro a ha b hb e; simp at hb; rw [e, hb] at ha; exact hk ha⟩
    · intro q hq
      rcases List.mem_append.1 hq with hq | hq
      · exact h.may q hq
      · simp at hq; rw [hq]; exact hp

/-! ### reading parameters -/
theorem parsF_succ (f : Nat) (acc : List Par) (s : List UInt8) : parsF (f + 1) acc s = if s.headD 0 = 59 then
      (match one (s.drop 1) with
       | none => none
       | some (p, r) => parsF f (put acc p) r)
    else some (acc, s) := rfl
theorem parsF_fuel : ∀ (f g : Nat) (acc : List Par) (s : List UInt8), s.length < f → s.length < g → parsF f acc s = parsF g acc s
  | 0, _, _, _, h, _ => by omega
  | _ + 1, 0, _, _, _, h => by omega
  | f + 1, g + 1, acc, s, h1, h2 => by
    rw [parsF_succ, parsF_succ]
    split
    · rename_i h59
      cases ho : one (s.drop 1) with
      | none => rfl
      | some x =>
        obtain ⟨p, r⟩ := x
        have := one_len ho
        have h3 : (s.drop 1).length ≤ s.length - 1 := by simp
        have h4 : 0 < s.length := by
          cases s with
          | nil => cases h59
          | cons a b => simp
        exact parsF_fuel f g (put acc p) r (by omega) (by omega)
    · rfl
structure ParsReads (acc : List Par) (s : List UInt8) (l : List Par) (r b : List UInt8) : Prop where
  eq : s = b ++ r
  no : r.headD 0 ≠ 59
  be : b = [] ∨ (b.headD 0 = 59 ∧ b.getLastD 0 ≠ 32)
  vld : Vld l
  len : (T l).length ≤ (T acc).length + b.length
  loc : ∀ r', Off tokI r' → r'.headD 0 ≠ 61 → r'.headD 0 ≠ 59 → ∀ f, b.length < f → parsF f acc (b ++ r') = some (l, r')
theorem off_tail {b r : List UInt8} (hb : b = [] ∨ b.headD 0 = 59) (hr : Off tokI r) (h61 : r.headD 0 ≠ 61) : Off tokI (b ++ r) ∧ (b ++ r).headD 0 ≠ 61 := by
  rcases hb with rfl | hb
  · exact ⟨hr, h61⟩
  · cases b with
    | nil => exact ⟨hr, h61⟩
    | cons c b =>
      have : c = 59 := hb
      subst this
      exact ⟨off_cons (by decide), by show (59 : UInt8) ≠ 61; decide⟩
theorem pars_reads : ∀ (f : Nat) (acc : List Par) (s : List UInt8) (l : List Par) (r : List UInt8), Vld acc → parsF f acc s = some (l, r) → ∃ b, ParsReads acc s l r b
  | 0, _, _, _, _, _, h => by cases h
  | f + 1, acc, s, l, r, hv, h => by
    rw [parsF_succ] at h
    split at h
    · rename_i h59
      cases ho : one (s.drop 1) with
      | none => rw [ho] at h; cases h
      | some x =>
        obtain ⟨p, r1⟩ := x
        rw [ho] at h
        simp only at h
        obtain ⟨a, t, q⟩ := one_reads ho
        have hp : (ptext p).isSome = true := by rw [q.txt]; rfl
        obtain ⟨v1, v2⟩ := put_vld hv hp
        obtain ⟨b, qq⟩ := pars_reads f (put acc p) r1 l r v1 h
        have hs : s = 59 :: (a ++ (b ++ r)) := by
          cases s with
          | nil => cases h59
          | cons c s =>
            have : c = 59 := h59
            rw [this, ← qq.eq, ← q.eq]
            rfl
        have hpt : (pt p).length ≤ a.length + 1 := by
          unfold pt; rw [q.txt]; exact q.len
        have hbe : b = [] ∨ b.headD 0 = 59 := by
          rcases qq.be with h | h
          · exact .inl h
          · exact .inr h.1
        refine ⟨59 :: (a ++ b), ⟨by rw [hs]; simp, qq.no, .inr ⟨rfl, ?_⟩, qq.vld, ?_, ?_⟩⟩
        · rw [show (59 :: (a ++ b)) = [59] ++ (a ++ b) from rfl, last_app [59] (by simp [q.ne])]
          rcases qq.be with rfl | ⟨_, h2⟩
          · rw [List.append_nil]; exact q.la
          · by_cases hb0 : b = []
            · rw [hb0, List.append_nil]; exact q.la
            · rw [last_app a hb0]; exact h2
        · have := qq.len
          simp only [List.length_cons, List.length_append]
          omega
        · intro r' hr' h61 h59' f' hf'
          cases f' with
          | zero => omega
          | succ f' =>
            have e : (59 :: (a ++ b)) ++ r' = 59 :: (a ++ (b ++ r')) := by simp
            simp only [List.length_cons, List.length_append] at hf'
            rw [e, parsF_succ, if_pos (show (59 :: (a ++ (b ++ r'))).headD 0 = 59 from rfl), show (59 :: (a ++ (b ++ r'))).drop 1 = a ++ (b ++ r') from rfl]
            obtain ⟨o1, o2⟩ := off_tail hbe hr' h61
            rw [q.loc (b ++ r') o1 o2]
            exact qq.loc r' hr' h61 h59' f' (by omega)
    · rename_i h59
      cases h
      refine ⟨[], ⟨rfl, h59, .inl rfl, hv, by simp, ?_⟩⟩
      intro r' _ _ h59' f' hf'
      cases f' with
      | zero => simp at hf'
      | succ f' => rw [List.nil_append, parsF_succ, if_neg h59']
theorem T_head {l : List Par} (hm : ∀ q ∈ l, (ptext q).isSome = true) : T l = [] ∨ (T l).headD 0 = 59 := by
  cases l with
  | nil => exact .inl rfl
  | cons p l =>
    refine .inr ?_
    obtain ⟨t', e, _⟩ := one_back (r := []) (pt_some (hm p (by simp))) (.inl rfl) (by decide)
    rw [T_cons, e]
    rfl
/-- The text of parameters that may be is read as these, behind those that are there. -/
theorem tail_pars {l : List Par} (hm : ∀ q ∈ l, (ptext q).isSome = true) : ∀ (acc : List Par) (r : List UInt8), (keys acc ++ keys l).Nodup → Off tokI r → r.headD 0 ≠ 61 → ∀ f, (T l ++ r).length < f → parsF f acc (T l ++ r) = parsF (r.length + 1) (acc ++ l) r := by
  induction l with
  | nil =>
    intro acc r _ _ _ f hf
    rw [List.append_nil]
    have e : T [] ++ r = r := rfl
    rw [e] at hf ⊢
    exact parsF_fuel _ _ _ _ hf (by omega)
  | cons p l ih =>
    intro acc r hn hr h61 f hf
    have hml : ∀ q ∈ l, (ptext q).isSome = true := fun q hq => hm q (List.mem_cons_of_mem _ hq)
    obtain ⟨o1, o2⟩ := off_tail (T_head hml) hr h61
    obtain ⟨t', e, ho⟩ := one_back (pt_some (hm p (by simp))) o1 o2
    cases f with
    | zero => omega
    | succ f =>
      have hk : keys (p :: l) = p.key :: keys l := rfl
      rw [hk] at hn
      have hns : p.key ∉ keys acc := by
        intro hc
        rw [List.nodup_append] at hn
        exact hn.2.2 _ hc _ (by simp) rfl
      rw [T_cons, e] at hf ⊢
      have e2 : (59 :: t' ++ T l) ++ r = 59 :: (t' ++ (T l ++ r)) := by simp
      rw [e2] at hf ⊢
      rw [parsF_succ, if_pos (show (59 :: (t' ++ (T l ++ r))).headD 0 = 59 from rfl), show (59 :: (t' ++ (T l ++ r))).drop 1 = t' ++ (T l ++ r) from rfl, ho]
      simp only
      rw [put_new hns]
      have h3 := ih hml (acc ++ [p]) r (by simpa [keys] using hn) hr h61 f (by simp only [List.length_cons, List.length_append] at hf ⊢; omega)
      rw [h3]
      simp
end Sf
end Go.Proofs.YtgddmihojladfaaGreatDoor

/- Items of structured fields: there and back. No program is named here. -/

namespace Go.Proofs.YtgddmihojladfaaGreatDoor
namespace Sf
open Oct

theorem last_split {a : List UInt8} (h : a ≠ []) : ∃ b, a = b ++ [a.getLastD 0] := by
  refine ⟨a.dropLast, ?_⟩
  have e : a.getLastD 0 = a.getLast h := by rw [List.getLastD_eq_getLast?, List.getLast?_eq_some_getLast h]; rfl
  rw [e]
  exact (List.dropLast_concat_getLast h).symm
theorem trim_ends {a : List UInt8} (h : Ends a) : trimS a = a := by
  have e1 : blk a = a := by
    have := blk_app (z := []) (x := a) (by simp) h.hd
    exact this
  obtain ⟨b, hb⟩ := last_split h.ne
  have hl := h.la
  unfold trimS
  rw [e1]
  have e2 : a.reverse = a.getLastD 0 :: b.reverse := by
    conv => lhs; rw [hb]
    simp
  rw [e2, List.dropWhile_cons, if_neg (by simpa using hl), ← e2, List.reverse_reverse]
theorem trim_len (s : List UInt8) : (trimS s).length ≤ s.length := by
  unfold trimS blk
  rw [List.length_reverse]
  have h1 := (List.dropWhile_suffix (p := fun b : UInt8 => b == 32) (l := (s.dropWhile fun b => b == 32).reverse)).length_le
  have h2 := (List.dropWhile_suffix (p := fun b : UInt8 => b == 32) (l := s)).length_le
  rw [List.length_reverse] at h1
  omega
theorem vtext_ends {k n : Int} {t v : List UInt8} (h : vtext k n t = some v) : Ends v := by
  have h1 := value_back h (r := []) (.inl rfl)
  rw [List.append_nil] at h1
  obtain ⟨a, t', q⟩ := value_reads h1
  have := q.eq
  rw [List.append_nil] at this
  rw [this]
  exact q.ends
theorem vld_nil : Vld [] := ⟨List.nodup_nil, fun _ h => by cases h⟩
theorem T_last {l : List Par} (h : Vld l) : T l = [] ∨ (T l).getLastD 0 ≠ 32 := by
  have h1 := tail_pars h.may [] [] (by simpa [keys] using h.nodup) (.inl rfl) (by decide) ((T l).length + 1) (by simp)
  rw [List.append_nil, List.nil_append] at h1
  have h2 : parsF ((T l).length + 1) [] (T l) = some (l, []) := by rw [h1]; rfl
  obtain ⟨b, q⟩ := pars_reads _ _ _ _ _ vld_nil h2
  have := q.eq
  rw [List.append_nil] at this
  rw [this]
  rcases q.be with h | h
  · exact .inl h
  · exact .inr h.2
/-- An item may be just if it has a text. -/
theorem text_ways {x : Itm} {t : List UInt8} (h : text x = some t) : ∃ v, vtext x.kind x.n x.text = some v ∧ Vld x.params ∧ t = v ++ T x.params := by
  unfold text at h
  cases hv : vtext x.kind x.n x.text with
  | none => rw [hv] at h; cases h
  | some v =>
    rw [hv] at h
    simp only at h
    cases ht : tailF [] x.params with
    | none => rw [ht] at h; cases h
    | some b =>
      rw [ht] at h
      cases h
      obtain ⟨h1, h2⟩ := vld_of ht
      exact ⟨v, rfl, h1, by rw [h2]⟩
theorem text_of {x : Itm} {v : List UInt8} (h : vtext x.kind x.n x.text = some v) (hl : Vld x.params) : text x = some (v ++ T x.params) := by
  unfold text
  rw [h, tail_vld hl]
  rfl
theorem ends_text {k n : Int} {t v : List UInt8} (h : vtext k n t = some v) {l : List Par} (hl : Vld l) : Ends (v ++ T l) := by
  have e := vtext_ends h
  rcases T_last hl with h0 | h0
  · rw [h0, List.append_nil]; exact e
  · by_cases hn : T l = []
    · rw [hn, List.append_nil]; exact e
    · exact ends_app e.ne e.hd hn h0
/-- The text of an item, whatever does not go on behind it, is read as the item. -/
theorem next_text {k n : Int} {t v : List UInt8} (h : vtext k n t = some v) {l : List Par} (hl : Vld l) {r : List UInt8} (hr : Off tokI r) (h61 : r.headD 0 ≠ 61) (h59 : r.headD 0 ≠ 59) : next (v ++ (T l ++ r)) = some (⟨k, n, t, l⟩, r) := by
  obtain ⟨o1, _⟩ := off_tail (T_head hl.may) hr h61
  unfold next
  rw [value_back h o1]
  simp only
  have h1 := tail_pars hl.may [] r (by simpa [keys] using hl.nodup) hr h61 ((T l ++ r).length + 1) (by omega)
  unfold pars
  rw [h1, parsF_succ, if_neg h59]
  rfl
theorem parse_text {x : Itm} {t : List UInt8} (h : text x = some t) (ht : t.length ≤ 4000) : parse t = some x := by
  obtain ⟨v, hv, hl, rfl⟩ := text_ways h
  unfold parse
  rw [if_neg (by omega), trim_ends (ends_text hv hl)]
  have := next_text hv hl (r := []) (.inl rfl) (by decide) (by decide)
  rw [List.append_nil] at this
  rw [this]
  rfl
/-- What is read as an item: the text that it takes. -/
structure NextReads (s : List UInt8) (x : Itm) (r c v : List UInt8) : Prop where
  eq : s = c ++ r
  ends : Ends c
  no : r.headD 0 ≠ 59
  loc : ∀ r', Off tokI r' → r'.headD 0 ≠ 61 → r'.headD 0 ≠ 59 → next (c ++ r') = some (x, r')
  txt : vtext x.kind x.n x.text = some v
  vld : Vld x.params
  len : (v ++ T x.params).length ≤ c.length
theorem next_reads {s : List UInt8} {x : Itm} {r : List UInt8} (h : next s = some (x, r)) : ∃ c v, NextReads s x r c v := by
  unfold next at h
  cases hv : value s with
  | none => rw [hv] at h; cases h
  | some y =>
    obtain ⟨v, r1⟩ := y
    rw [hv] at h
    simp only at h
    cases hp : pars r1 with
    | none => rw [hp] at h; cases h
    | some y =>
      obtain ⟨l, r2⟩ := y
      rw [hp] at h
      cases h
      obtain ⟨a, t, q⟩ := value_reads hv
      obtain ⟨b, qq⟩ := pars_reads _ _ _ _ _ vld_nil hp
      have hbe : b = [] ∨ b.headD 0 = 59 := by
        rcases qq.be with h | h
        · exact .inl h
        · exact .inr h.1
      refine ⟨a ++ b, t, ⟨by rw [q.eq, qq.eq]; simp, ?_, qq.no, ?_, q.txt, qq.vld, ?_⟩⟩
      · by_cases hb : b = []
        · rw [hb, List.append_nil]; exact q.ends
        · rcases qq.be with h | h
          · exact absurd h hb
          · exact ends_app q.ends.ne q.ends.hd hb h.2
      · intro r' hr' h61 h59
        obtain ⟨o1, _⟩ := off_tail hbe hr' h61
        unfold next
        rw [List.append_assoc, q.loc _ o1]
        simp only
        unfold pars
        rw [qq.loc r' hr' h61 h59 _ (by simp; omega)]
      · have h1 := qq.len
        have h2 := q.len
        have h3 : (T []).length = 0 := rfl
        simp only [List.length_append]
        omega
theorem parse_ways {s : List UInt8} {x : Itm} (h : parse s = some x) : s.length ≤ 4000 ∧ next (trimS s) = some (x, []) := by
  unfold parse at h
  split at h
  · cases h
  · rename_i hl
    cases hn : next (trimS s) with
    | none => rw [hn] at h; cases h
    | some y =>
      obtain ⟨x', r⟩ := y
      rw [hn] at h
      simp only at h
      split at h
      · rename_i hr; cases h; rw [hr]; exact ⟨by omega, rfl⟩
      · cases h
/-- What is read may be, and its text is no longer. -/
theorem parse_ok {s : List UInt8} {x : Itm} (h : parse s = some x) : ∃ v, vtext x.kind x.n x.text = some v ∧ Vld x.params ∧ text x = some (v ++ T x.params) ∧ (v ++ T x.params).length ≤ s.length := by
  obtain ⟨_, hn⟩ := parse_ways h
  obtain ⟨c, v, q⟩ := next_reads hn
  have e := q.eq
  rw [List.append_nil] at e
  have := trim_len s
  rw [e] at this
  exact ⟨v, q.txt, q.vld, text_of q.txt q.vld, by have := q.len; omega⟩
theorem parse_again {s : List UInt8} {x : Itm} (h : parse s = some x) : ∃ t, text x = some t ∧ t.length ≤ s.length ∧ parse t = some x := by
  obtain ⟨v, _, _, h3, h4⟩ := parse_ok h
  have h5 := (parse_ways h).1
  exact ⟨_, h3, h4, parse_text h3 (by omega)⟩
/-- The item alone is what stands ahead of the rest. -/
theorem rest_alone {s : List UInt8} {x : Itm} {r : List UInt8} (h : next s = some (x, r)) (hl : s.length ≤ 4000) : ∃ c, s = c ++ r ∧ 0 < c.length ∧ r.headD 0 ≠ 59 ∧ parse c = some x := by
  obtain ⟨c, v, q⟩ := next_reads h
  refine ⟨c, q.eq, List.length_pos_iff.2 q.ends.ne, q.no, ?_⟩
  have h1 := q.loc [] (.inl rfl) (by decide) (by decide)
  rw [List.append_nil] at h1
  have h2 : c.length ≤ s.length := by rw [q.eq]; simp
  unfold parse
  rw [if_neg (by omega), trim_ends q.ends, h1]
  rfl
theorem itoa77 : Lib.itoa 77 = [55, 55] := by
  unfold Lib.itoa
  rw [if_neg (by decide), show (77 : Int).toNat = 77 from rfl, Lib.decDigits, dif_neg (by decide), dec_small (by decide)]
  rfl
def p77 (k : List UInt8) : Par := ⟨k, 1, 77, []⟩
theorem pt77 {k : List UInt8} (hk : keyB k = true) : ptext (p77 k) = some (59 :: (k ++ [61, 55, 55])) := by
  unfold ptext p77
  simp only
  rw [if_pos hk, vt1 (by decide) (by decide), itoa77]
  rfl
/-- One more value of a key that is there takes the old one's place. -/
theorem parse_last {x : Itm} {t : List UInt8} (h : text x = some t) {k : List UInt8} (hk : k ∈ keys x.params) (hl : (t ++ 59 :: (k ++ [61, 55, 55])).length ≤ 4000) :
    parse (t ++ 59 :: (k ++ [61, 55, 55])) = some ⟨x.kind, x.n, x.text, x.params.map (rep (p77 k))⟩ := by
  obtain ⟨v, hv, hvl, rfl⟩ := text_ways h
  obtain ⟨q, hq, rfl⟩ := List.mem_map.1 hk
  have hkb : keyB q.key = true := by
    have := pt_some (hvl.may q hq)
    unfold ptext at this
    split at this
    · assumption
    · cases this
  have hpt := pt77 hkb
  have hen : Ends (v ++ T x.params ++ 59 :: (q.key ++ [61, 55, 55])) := by
    have e := vtext_ends hv
    have e2 := ends_app e.ne e.hd (b := T x.params ++ 59 :: (q.key ++ [61, 55, 55])) (by simp) (by
      rw [last_app _ (by simp), show (59 :: (q.key ++ [61, 55, 55])) = (59 :: q.key) ++ [61, 55, 55] by simp, last_app _ (by decide)]
      decide)
    rw [List.append_assoc]; exact e2
  unfold parse
  rw [if_neg (by omega), trim_ends hen]
  have o1 : Off tokI (59 :: (q.key ++ [61, 55, 55])) := off_cons (by decide)
  have o2 : (59 :: (q.key ++ [61, 55, 55])).headD 0 ≠ 61 := by show (59 : UInt8) ≠ 61; decide
  obtain ⟨o3, _⟩ := off_tail (T_head hvl.may) o1 o2
  have h1 := tail_pars hvl.may [] _ (by simpa [keys] using hvl.nodup) o1 o2 ((T x.params ++ 59 :: (q.key ++ [61, 55, 55])).length + 1) (by omega)
  obtain ⟨t', e, ho⟩ := one_back (r := []) hpt (.inl rfl) (by decide)
  rw [List.append_nil] at ho
  have e' : t' = q.key ++ [61, 55, 55] := (List.cons.inj e).2.symm
  rw [e'] at ho
  have h2 : parsF ((59 :: (q.key ++ [61, 55, 55])).length + 1) ([] ++ x.params) (59 :: (q.key ++ [61, 55, 55])) = some (x.params.map (rep (p77 q.key)), []) := by
    rw [parsF_succ, if_pos (show (59 :: (q.key ++ [61, 55, 55])).headD 0 = 59 from rfl), show (59 :: (q.key ++ [61, 55, 55])).drop 1 = q.key ++ [61, 55, 55] from rfl, ho, List.nil_append]
    simp only
    rw [put_old (p := p77 q.key) (by exact hk)]
    rfl
  have h3 : next (v ++ T x.params ++ 59 :: (q.key ++ [61, 55, 55])) = some (⟨x.kind, x.n, x.text, x.params.map (rep (p77 q.key))⟩, []) := by
    unfold next
    rw [List.append_assoc, value_back hv o3]
    simp only
    unfold pars
    rw [h1, h2]
    rfl
  rw [h3]
  rfl
theorem rep_at {l : List Par} (h : (keys l).Nodup) {i j : Nat} (hi : i < l.length) (hj : j < l.length) : (l.map (rep (p77 l[i].key)))[j]? = some (if j = i then p77 l[i].key else l[j]) := by
  rw [List.getElem?_map, List.getElem?_eq_getElem hj]
  simp only [Option.map_some]
  unfold rep
  by_cases e : j = i
  · subst e
    rw [if_pos rfl, if_pos (by simp [p77])]
  · rw [if_neg e, if_neg]
    intro he
    have he' : l[j].key = l[i].key := by simpa [p77] using he
    have hki : i < (keys l).length := by simpa [keys] using hi
    have hkj : j < (keys l).length := by simpa [keys] using hj
    have : (keys l)[j] = (keys l)[i] := by simpa [keys] using he'
    have hp := List.pairwise_iff_getElem.1 h
    rcases Nat.lt_or_gt_of_ne e with hlt | hlt
    · exact hp j i hkj hki hlt this
    · exact hp i j hki hkj hlt this.symm
end Sf
end Go.Proofs.YtgddmihojladfaaGreatDoor
