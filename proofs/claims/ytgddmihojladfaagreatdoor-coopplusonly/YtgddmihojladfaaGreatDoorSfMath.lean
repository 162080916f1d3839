/- Items of structured fields: plain functions and small laws. No program is named here. -/
import Derived.Test.YtgddmihojladfaaGreatDoorOctAll
import Derived.Lib.ItoaLen
namespace Go.Proofs.YtgddmihojladfaaGreatDoor
namespace Sf
open Oct

structure Par where
  key : List UInt8
  kind : Int
  n : Int
  text : List UInt8
structure Itm where
  kind : Int
  n : Int
  text : List UInt8
  params : List Par

def tokI (c : Int) : Bool := tcharI c || (c == 58 || c == 47)
def baseI (c : Int) : Bool := letterI c || (digitI c || (c == 43 || (c == 47 || c == 61)))
def key1I (c : Int) : Bool := (decide (97 ≤ c) && decide (c ≤ 122)) || c == 42
def keyI (c : Int) : Bool := key1I c || (digitI c || (c == 95 || (c == 45 || c == 46)))
def prI (c : Int) : Bool := decide (32 ≤ c) && decide (c ≤ 126)
def tw (p : Int → Bool) (l : List UInt8) : List UInt8 := l.takeWhile fun b => p b.toNat
def dw (p : Int → Bool) (l : List UInt8) : List UInt8 := l.dropWhile fun b => p b.toNat
def kv (kind n : Int) (t : List UInt8) : Par := ⟨[], kind, n, t⟩

/-- A number that a text begins with. -/
def num (sg : Int) (s : List UInt8) : Option (Par × List UInt8) :=
  if (tw digitI s).length = 0 ∨ 15 < (tw digitI s).length then none
  else if (dw digitI s).headD 0 = 46 then
    (if 12 < (tw digitI s).length ∨ (tw digitI ((dw digitI s).drop 1)).length < 1 ∨ 3 < (tw digitI ((dw digitI s).drop 1)).length then none
     else some (kv 2 (sg * (val (tw digitI s ++ tw digitI ((dw digitI s).drop 1)) * 10 ^ (3 - (tw digitI ((dw digitI s).drop 1)).length))) [], dw digitI ((dw digitI s).drop 1)))
  else some (kv 1 (sg * val (tw digitI s)) [], dw digitI s)
/-- What stands up to the next quote, escapes undone, and what stands behind. -/
def quo : List UInt8 → Option (List UInt8 × List UInt8)
  | [] => none
  | c :: r =>
    if c = 34 then some ([], r)
    else if prI c.toNat then
      (if c = 92 then
        (match r with
         | [] => none
         | d :: r' => if d = 34 ∨ d = 92 then (quo r').map fun x => (d :: x.1, x.2) else none)
       else (quo r).map fun x => (c :: x.1, x.2))
    else none
/-- The value that a text begins with, and what stands behind. -/
def value : List UInt8 → Option (Par × List UInt8)
  | [] => none
  | c :: r =>
    if c = 45 then num (-1) r
    else if digitI c.toNat then num 1 (c :: r)
    else if c = 34 then (quo r).map fun x => (kv 3 0 x.1, x.2)
    else if letterI c.toNat || c == 42 then some (kv 4 0 (c :: tw tokI r), dw tokI r)
    else if c = 58 then (if (dw baseI r).headD 0 = 58 then some (kv 5 0 (tw baseI r), (dw baseI r).drop 1) else none)
    else if c = 63 then (if r.headD 0 = 48 then some (kv 6 0 [], r.drop 1) else if r.headD 0 = 49 then some (kv 6 1 [], r.drop 1) else none)
    else none
/-- The key that a text begins with, and what stands behind. -/
def keyOf : List UInt8 → Option (List UInt8 × List UInt8)
  | [] => none
  | c :: r => if key1I c.toNat then some (c :: tw keyI r, dw keyI r) else none
def blk (s : List UInt8) : List UInt8 := s.dropWhile fun b => b == 32
/-- One parameter, behind its semicolon. -/
def one (s : List UInt8) : Option (Par × List UInt8) :=
  match keyOf (blk s) with
  | none => none
  | some (k, r) =>
    if r.headD 0 = 61 then
      (match value (r.drop 1) with
       | none => none
       | some (v, r') => some (⟨k, v.kind, v.n, v.text⟩, r'))
    else some (⟨k, 6, 1, []⟩, r)
def put (l : List Par) (p : Par) : List Par := if l.any (fun q => q.key == p.key) then l.map (fun q => if q.key == p.key then p else q) else l ++ [p]
def parsF : Nat → List Par → List UInt8 → Option (List Par × List UInt8)
  | 0, _, _ => none
  | f + 1, acc, s =>
    if s.headD 0 = 59 then
      (match one (s.drop 1) with
       | none => none
       | some (p, r) => parsF f (put acc p) r)
    else some (acc, s)
/-- The parameters that a text begins with, and what stands behind. -/
def pars (s : List UInt8) : Option (List Par × List UInt8) := parsF (s.length + 1) [] s
/-- The item that a text begins with, and what stands behind. -/
def next (s : List UInt8) : Option (Itm × List UInt8) :=
  match value s with
  | none => none
  | some (v, r) =>
    match pars r with
    | none => none
    | some (l, r') => some (⟨v.kind, v.n, v.text, l⟩, r')
def trimS (s : List UInt8) : List UInt8 := ((blk s).reverse.dropWhile fun b => b == 32).reverse
/-- The item that a field is. -/
def parse (s : List UInt8) : Option Itm :=
  if 4000 < s.length then none
  else match next (trimS s) with
    | none => none
    | some (x, r) => if r = [] then some x else none

/-! ### texts -/
def numK (k : Int) : Bool := k == 1 || (k == 2 || k == 6)
def maxN : Int := 999999999999999
/-- The digits behind the point. -/
def frac (f : Nat) : List UInt8 := Lib.decDigits (f / 100) ++ ((if f % 100 ≠ 0 then Lib.decDigits (f / 10 % 10) else []) ++ (if f % 10 ≠ 0 then Lib.decDigits (f % 10) else []))
def decT (n : Int) : List UInt8 := (if n < 0 then [45] else []) ++ (Lib.decDigits (n.natAbs / 1000) ++ 46 :: frac (n.natAbs % 1000))
def esc : List UInt8 → List UInt8
  | [] => []
  | c :: r => if c = 34 ∨ c = 92 then 92 :: c :: esc r else c :: esc r
def tokB : List UInt8 → Bool
  | [] => false
  | c :: r => (letterI c.toNat || c == 42) && allB tokI r
/-- A value's text, if it may be. -/
def vtext (k n : Int) (t : List UInt8) : Option (List UInt8) :=
  if (numK k && !t.isEmpty) || ((!numK k && n != 0) || (decide (n < -maxN) || decide (maxN < n))) then none
  else if k = 1 then some (Lib.itoa n)
  else if k = 2 then some (decT n)
  else if k = 6 then (if n = 0 ∨ n = 1 then some (63 :: Lib.itoa n) else none)
  else if k = 3 then (if allB prI t then some (34 :: (esc t ++ [34])) else none)
  else if k = 4 then (if tokB t then some t else none)
  else if k = 5 then (if allB baseI t then some (58 :: (t ++ [58])) else none)
  else none
def keyB : List UInt8 → Bool
  | [] => false
  | c :: r => key1I c.toNat && allB keyI r
/-- A parameter's text, if it may be. -/
def ptext (p : Par) : Option (List UInt8) :=
  if keyB p.key then (vtext p.kind p.n p.text).map fun v => 59 :: (p.key ++ (if p.kind = 6 ∧ p.n = 1 then [] else 61 :: v)) else none
def tailF (seen : List (List UInt8)) : List Par → Option (List UInt8)
  | [] => some []
  | p :: l =>
    if p.key ∈ seen then none
    else match ptext p with
      | none => none
      | some a => (tailF (seen ++ [p.key]) l).map fun b => a ++ b
/-- An item's text, if it may be. -/
def text (x : Itm) : Option (List UInt8) :=
  match vtext x.kind x.n x.text with
  | none => none
  | some a => (tailF [] x.params).map fun b => a ++ b

/-! ### bytes -/
/-- A text does not go on with such a byte. -/
def Off (p : Int → Bool) (r : List UInt8) : Prop := r = [] ∨ p (r.headD 0).toNat = false
theorem tw_dw (p : Int → Bool) (l : List UInt8) : tw p l ++ dw p l = l := List.takeWhile_append_dropWhile
theorem tw_all (p : Int → Bool) (l : List UInt8) : allB p (tw p l) = true := List.all_takeWhile
theorem dw_off (p : Int → Bool) (l : List UInt8) : Off p (dw p l) := by
  induction l with
  | nil => exact .inl rfl
  | cons c r ih =>
    cases h : p c.toNat with
    | true => have e : dw p (c :: r) = dw p r := by simp [dw, h]
              rw [e]; exact ih
    | false => have e : dw p (c :: r) = c :: r := by simp [dw, h]
               rw [e]; exact .inr h
theorem tw_app {p : Int → Bool} {a r : List UInt8} (ha : allB p a = true) (hr : Off p r) : tw p (a ++ r) = a ∧ dw p (a ++ r) = r := by
  induction a with
  | nil =>
    rcases hr with rfl | h
    · exact ⟨rfl, rfl⟩
    · cases r with
      | nil => exact ⟨rfl, rfl⟩
      | cons c r =>
        have h' : p c.toNat = false := h
        exact ⟨by simp [tw, h'], by simp [dw, h']⟩
  | cons c a ih =>
    simp only [allB, List.all_cons, Bool.and_eq_true] at ha
    obtain ⟨h1, h2⟩ := ih ha.2
    refine ⟨?_, ?_⟩
    · have : tw p (c :: (a ++ r)) = c :: tw p (a ++ r) := by simp [tw, ha.1]
      rw [List.cons_append, this, h1]
    · have : dw p (c :: (a ++ r)) = dw p (a ++ r) := by simp [dw, ha.1]
      rw [List.cons_append, this, h2]
theorem tw_nil (p : Int → Bool) (a : List UInt8) (ha : allB p a = true) : tw p a = a ∧ dw p a = [] := by
  have := tw_app ha (r := []) (.inl rfl)
  simpa using this
theorem Off.mono {p q : Int → Bool} (h : ∀ c, q c = true → p c = true) {r : List UInt8} (hr : Off p r) : Off q r := by
  rcases hr with rfl | hr
  · exact .inl rfl
  · refine .inr ?_
    cases e : q (r.headD 0).toNat with
    | false => rfl
    | true => rw [h _ e] at hr; cases hr
theorem Off.ne {p : Int → Bool} {r : List UInt8} {c : UInt8} (hr : Off p r) (hc : p c.toNat = true) (h0 : c ≠ 0) : r.headD 0 ≠ c := by
  rcases hr with rfl | hr
  · exact fun h => h0 h.symm
  · intro h; rw [h, hc] at hr; cases hr
theorem dig_tok (c : Int) (h : digitI c = true) : tokI c = true := by unfold tokI tcharI; rw [h]; simp
theorem key_tok (c : Int) (h : keyI c = true) : tokI c = true := by
  unfold keyI key1I digitI at h
  unfold tokI tcharI letterI digitI
  simp only [Bool.or_eq_true, Bool.and_eq_true, decide_eq_true_eq, beq_iff_eq] at h ⊢
  rcases h with ((⟨h1, h2⟩ | h) | (⟨h1, h2⟩ | h | h | h))
  · exact .inl (.inl (.inl (.inl ⟨h1, h2⟩)))
  · subst h; exact .inl (.inr (.inl (by decide)))
  · exact .inl (.inl (.inr ⟨h1, h2⟩))
  · subst h; exact .inl (.inr (.inl (by decide)))
  · subst h; exact .inl (.inr (.inl (by decide)))
  · subst h; exact .inl (.inr (.inl (by decide)))

/-! ### digits -/
theorem dec_good (u : Nat) : allB digitI (Lib.decDigits u) = true ∧ val (Lib.decDigits u) = (u : Int) ∧ (0 < u → (Lib.decDigits u).headD 0 ≠ 48) ∧ 0 < (Lib.decDigits u).length ∧ (u < 10 → (Lib.decDigits u).length = 1) := by
  induction u using Nat.strongRecOn with
  | ind u ih =>
    by_cases h : u < 10
    · have e : Lib.decDigits u = [UInt8.ofNat (48 + u)] := by rw [Lib.decDigits, dif_pos h]
      rw [e]
      have key : ∀ n : Fin 10, allB digitI [UInt8.ofNat (48 + n.val)] = true ∧ val [UInt8.ofNat (48 + n.val)] = (n.val : Int) ∧ (0 < n.val → ([UInt8.ofNat (48 + n.val)] : List UInt8).headD 0 ≠ 48) := by decide +kernel
      have k := key ⟨u, h⟩
      exact ⟨k.1, k.2.1, k.2.2, by simp, fun _ => by simp⟩
    · have e : Lib.decDigits u = Lib.decDigits (u / 10) ++ [UInt8.ofNat (48 + u % 10)] := by rw [Lib.decDigits, dif_neg h]
      obtain ⟨h1, h2, h3, h4, _⟩ := ih (u / 10) (by omega)
      have key : ∀ n : Fin 10, digitI (UInt8.ofNat (48 + n.val)).toNat = true ∧ ((UInt8.ofNat (48 + n.val)).toNat : Int) - 48 = (n.val : Int) := by decide +kernel
      have k := key ⟨u % 10, by omega⟩
      rw [e]
      refine ⟨?_, ?_, fun _ => ?_, by simp, fun hx => absurd hx h⟩
      · unfold allB at h1 ⊢
        rw [List.all_append, h1]
        simpa using k.1
      · rw [val_snoc, h2, k.2]
        show 10 * ((u / 10 : Nat) : Int) + ((u % 10 : Nat) : Int) = (u : Int)
        omega
      · have := h3 (by omega)
        cases hd : Lib.decDigits (u / 10) with
        | nil => rw [hd] at h4; simp at h4
        | cons a r => rw [hd] at this; simpa using this
theorem allB_app (p : Int → Bool) (a b : List UInt8) : allB p (a ++ b) = (allB p a && allB p b) := by unfold allB; rw [List.all_append]
/-- A number that is less than a power of ten has no more digits. -/
theorem dec_len (u k : Nat) (h : u < 10 ^ k) (hk : 0 < k) : (Lib.decDigits u).length ≤ k := by
  induction k generalizing u with
  | zero => omega
  | succ k ih =>
    by_cases hu : u < 10
    · have := (dec_good u).2.2.2.2 hu; omega
    · have e : Lib.decDigits u = Lib.decDigits (u / 10) ++ [UInt8.ofNat (48 + u % 10)] := by rw [Lib.decDigits, dif_neg hu]
      rw [e, List.length_append]
      have hk0 : 0 < k := by
        rcases Nat.eq_zero_or_pos k with h0 | h0
        · subst h0; simp at h; omega
        · exact h0
      have := ih (u / 10) (by rw [Nat.pow_succ] at h; omega) hk0
      simp; omega
/-- .. and one that is told by k digits is less. -/
theorem val_lt (l : List UInt8) (h : allB digitI l = true) : val l < 10 ^ l.length := by
  obtain ⟨m, hm⟩ : ∃ m, l.length = m := ⟨_, rfl⟩
  induction m generalizing l with
  | zero => have : l = [] := List.eq_nil_of_length_eq_zero hm
            subst this; decide
  | succ m ih =>
    obtain ⟨a, b, rfl⟩ : ∃ a b, l = a ++ [b] := ⟨l.dropLast, l.getLast (by intro e; rw [e] at hm; cases hm), (List.dropLast_concat_getLast _).symm⟩
    rw [allB_app, Bool.and_eq_true] at h
    rw [List.length_append] at hm ⊢
    simp only [List.length_cons, List.length_nil] at hm ⊢
    have h1 := ih a h.1 (by omega)
    have h2 : digitI b.toNat = true := by simpa [allB] using h.2
    unfold digitI at h2
    simp only [Bool.and_eq_true, decide_eq_true_eq] at h2
    rw [val_snoc, Int.pow_succ]
    omega
/-- The digits of a number that digits tell are no more than these. -/
theorem dec_val (l : List UInt8) (h : allB digitI l = true) (h0 : 0 < l.length) : (Lib.decDigits (val l).toNat).length ≤ l.length := by
  refine dec_len _ _ ?_ h0
  have h1 := val_lt l h
  have h2 := val_nonneg l h
  have h3 : ((10 ^ l.length : Nat) : Int) = (10 : Int) ^ l.length := by norm_cast
  omega
end Sf
end Go.Proofs.YtgddmihojladfaaGreatDoor
