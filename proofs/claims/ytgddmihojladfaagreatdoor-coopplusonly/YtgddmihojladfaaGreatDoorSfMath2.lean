/- Items of structured fields: values are read from their texts as themselves; what is read may be. No program is named here. -/
import Derived.Test.YtgddmihojladfaaGreatDoorSfMath
namespace Go.Proofs.YtgddmihojladfaaGreatDoor
namespace Sf
open Oct

theorem value_cons (c : UInt8) (r : List UInt8) : value (c :: r) = if c = 45 then num (-1) r
    else if digitI c.toNat then num 1 (c :: r)
    else if c = 34 then (quo r).map fun x => (kv 3 0 x.1, x.2)
    else if letterI c.toNat || c == 42 then some (kv 4 0 (c :: tw tokI r), dw tokI r)
    else if c = 58 then (if (dw baseI r).headD 0 = 58 then some (kv 5 0 (tw baseI r), (dw baseI r).drop 1) else none)
    else if c = 63 then (if r.headD 0 = 48 then some (kv 6 0 [], r.drop 1) else if r.headD 0 = 49 then some (kv 6 1 [], r.drop 1) else none)
    else none := rfl
theorem dec_small {u : Nat} (h : u < 10) : Lib.decDigits u = [UInt8.ofNat (48 + u)] := by rw [Lib.decDigits, dif_pos h]
theorem val_from (b : List UInt8) : ∀ n : Int, b.foldl (fun n b => 10 * n + ((b.toNat : Int) - 48)) n = n * 10 ^ b.length + val b := by
  induction b with
  | nil => intro n; simp [val]
  | cons c r ih =>
    intro n
    have e : val (c :: r) = r.foldl (fun n b => 10 * n + ((b.toNat : Int) - 48)) (10 * 0 + ((c.toNat : Int) - 48)) := rfl
    rw [List.foldl_cons, ih, e, ih, List.length_cons, Int.pow_succ]
    rw [Int.add_mul, Int.add_mul]
    have : 10 * n * 10 ^ r.length = n * (10 ^ r.length * 10) := by rw [Int.mul_comm 10 n, Int.mul_assoc, Int.mul_comm 10]
    rw [this]
    omega
theorem val_app (a b : List UInt8) : val (a ++ b) = val a * 10 ^ b.length + val b := by
  have : val (a ++ b) = b.foldl (fun n b => 10 * n + ((b.toNat : Int) - 48)) (val a) := by simp [val, List.foldl_append]
  rw [this, val_from]

/-- The digits behind the point, digit by digit. -/
def frac' (f : Nat) : List UInt8 := UInt8.ofNat (48 + f / 100) :: ((if f % 100 ≠ 0 then [UInt8.ofNat (48 + f / 10 % 10)] else []) ++ (if f % 10 ≠ 0 then [UInt8.ofNat (48 + f % 10)] else []))
theorem frac_eq {f : Nat} (h : f < 1000) : frac f = frac' f := by
  unfold frac frac'
  rw [dec_small (by omega : f / 100 < 10), dec_small (by omega : f / 10 % 10 < 10), dec_small (by omega : f % 10 < 10)]
  rfl
theorem frac_all : ∀ f : Fin 1000, allB digitI (frac' f.val) = true ∧ 1 ≤ (frac' f.val).length ∧ (frac' f.val).length ≤ 3 ∧ val (frac' f.val) * 10 ^ (3 - (frac' f.val).length) = (f.val : Int) ∧ (f.val % 100 = 0 → (frac' f.val).length = 1) ∧ (f.val % 10 = 0 → (frac' f.val).length ≤ 2) := by decide +kernel
theorem frac_good {f : Nat} (h : f < 1000) : allB digitI (frac f) = true ∧ 1 ≤ (frac f).length ∧ (frac f).length ≤ 3 ∧ val (frac f) * 10 ^ (3 - (frac f).length) = (f : Int) ∧ (f % 100 = 0 → (frac f).length = 1) ∧ (f % 10 = 0 → (frac f).length ≤ 2) := by
  rw [frac_eq h]; exact frac_all ⟨f, h⟩

theorem off_cons {p : Int → Bool} {c : UInt8} {r : List UInt8} (h : p c.toNat = false) : Off p (c :: r) := .inr h

/-! ### numbers -/
theorem num_int (sg : Int) {d r : List UInt8} (hd : allB digitI d = true) (h0 : 0 < d.length) (h1 : d.length ≤ 15) (hr : Off digitI r) (hp : r.headD 0 ≠ 46) : num sg (d ++ r) = some (kv 1 (sg * val d) [], r) := by
  unfold num
  obtain ⟨e1, e2⟩ := tw_app hd hr
  rw [e1, e2, if_neg (by omega), if_neg hp]
theorem num_dec (sg : Int) {d m r : List UInt8} (hd : allB digitI d = true) (h0 : 0 < d.length) (h1 : d.length ≤ 12) (hm : allB digitI m = true) (m0 : 0 < m.length) (m1 : m.length ≤ 3) (hr : Off digitI r) : num sg (d ++ 46 :: (m ++ r)) = some (kv 2 (sg * (val (d ++ m) * 10 ^ (3 - m.length))) [], r) := by
  unfold num
  obtain ⟨e1, e2⟩ := tw_app hd (r := 46 :: (m ++ r)) (off_cons (by decide))
  obtain ⟨e3, e4⟩ := tw_app hm hr
  rw [e1, e2, if_neg (by omega), if_pos (show (46 :: (m ++ r)).headD 0 = 46 from rfl)]
  have e5 : (46 :: (m ++ r)).drop 1 = m ++ r := rfl
  rw [e5, e3, e4, if_neg (by omega)]
/-- A number is read in one of two ways. -/
theorem num_ways {sg : Int} {s : List UInt8} {v : Par} {r : List UInt8} (h : num sg s = some (v, r)) :
    (∃ d, allB digitI d = true ∧ 0 < d.length ∧ d.length ≤ 15 ∧ s = d ++ r ∧ v = kv 1 (sg * val d) [] ∧ Off digitI r ∧ r.headD 0 ≠ 46) ∨
    (∃ d m, allB digitI d = true ∧ 0 < d.length ∧ d.length ≤ 12 ∧ allB digitI m = true ∧ 0 < m.length ∧ m.length ≤ 3 ∧ s = d ++ 46 :: (m ++ r) ∧ v = kv 2 (sg * (val (d ++ m) * 10 ^ (3 - m.length))) [] ∧ Off digitI r) := by
  unfold num at h
  split at h
  · cases h
  · rename_i hl
    have ed := tw_dw digitI s
    split at h
    · rename_i h46
      split at h
      · cases h
      · rename_i hm
        cases h
        have em := tw_dw digitI ((dw digitI s).drop 1)
        refine .inr ⟨tw digitI s, tw digitI ((dw digitI s).drop 1), tw_all _ _, by omega, by omega, tw_all _ _, by omega, by omega, ?_, rfl, dw_off _ _⟩
        rw [em]
        cases hc : dw digitI s with
        | nil => rw [hc] at h46; cases h46
        | cons c t =>
          rw [hc] at h46 ed
          have : c = 46 := h46
          subst this
          exact ed.symm
    · rename_i h46
      cases h
      exact .inl ⟨tw digitI s, tw_all _ _, by omega, by omega, ed.symm, rfl, dw_off _ _, h46⟩

/-! ### texts between quotes -/
theorem quo_cons (c : UInt8) (r : List UInt8) : quo (c :: r) = if c = 34 then some ([], r)
    else if prI c.toNat then
      (if c = 92 then
        (match r with
         | [] => none
         | d :: r' => if d = 34 ∨ d = 92 then (quo r').map fun x => (d :: x.1, x.2) else none)
       else (quo r).map fun x => (c :: x.1, x.2))
    else none := by rw [quo.eq_def]; cases r <;> rfl
theorem quo_esc {t : List UInt8} (h : allB prI t = true) (r : List UInt8) : quo (esc t ++ 34 :: r) = some (t, r) := by
  induction t with
  | nil => rw [esc, List.nil_append, quo_cons, if_pos rfl]
  | cons c t ih =>
    simp only [allB, List.all_cons, Bool.and_eq_true] at h
    have ih' := ih h.2
    rw [esc]
    by_cases hc : c = 34 ∨ c = 92
    · rw [if_pos hc, List.cons_append, List.cons_append, quo_cons, if_neg (by decide), if_pos (by decide), if_pos rfl]
      simp only [hc, if_true]
      rw [ih']; rfl
    · rw [if_neg hc, List.cons_append, quo_cons, if_neg (fun e => hc (.inl e)), if_pos h.1, if_neg (fun e => hc (.inr e)), ih']; rfl
theorem quo_ways : ∀ (s t r : List UInt8), quo s = some (t, r) → s = esc t ++ 34 :: r ∧ allB prI t = true := by
  intro s
  obtain ⟨k, hk⟩ : ∃ k, s.length = k := ⟨_, rfl⟩
  induction k using Nat.strongRecOn generalizing s with
  | ind k ih =>
    intro t r h
    cases s with
    | nil => rw [quo] at h; cases h
    | cons c s =>
      rw [quo_cons] at h
      simp only [List.length_cons] at hk
      split at h
      · rename_i hc; cases h; subst hc; exact ⟨rfl, rfl⟩
      · rename_i hc
        split at h
        · rename_i hp
          split at h
          · rename_i h92
            cases s with
            | nil => cases h
            | cons d s' =>
              simp only at h
              split at h
              · rename_i hd
                cases hq : quo s' with
                | none => rw [hq] at h; cases h
                | some x =>
                  rw [hq] at h
                  cases h
                  simp only [List.length_cons] at hk
                  obtain ⟨e1, e2⟩ := ih s'.length (by omega) s' rfl x.1 x.2 hq
                  refine ⟨?_, ?_⟩
                  · rw [esc, if_pos hd, h92]
                    rw [List.cons_append, List.cons_append, ← e1]
                  · simp only [allB, List.all_cons, Bool.and_eq_true]
                    refine ⟨?_, e2⟩
                    rcases hd with rfl | rfl <;> decide
              · cases h
          · rename_i h92
            cases hq : quo s with
            | none => rw [hq] at h; cases h
            | some x =>
              rw [hq] at h
              cases h
              obtain ⟨e1, e2⟩ := ih s.length (by omega) s rfl x.1 x.2 hq
              refine ⟨?_, ?_⟩
              · rw [esc, if_neg (by rintro (e | e); exact hc e; exact h92 e), List.cons_append, ← e1]
              · simp only [allB, List.all_cons, Bool.and_eq_true]
                exact ⟨hp, e2⟩
        · cases h

/-! ### values: there -/
theorem tok_ne {c : UInt8} (h : (letterI c.toNat || c == 42) = true) : c ≠ 45 ∧ digitI c.toNat = false ∧ c ≠ 34 := by
  rw [Bool.or_eq_true, beq_iff_eq] at h
  rcases h with h | rfl
  · refine ⟨?_, ?_, ?_⟩
    · rintro rfl; cases h
    · unfold letterI at h
      unfold digitI
      simp only [Bool.or_eq_true, Bool.and_eq_true, decide_eq_true_eq] at h
      rw [Bool.and_eq_false_iff]
      simp only [decide_eq_false_iff_not]
      omega
    · rintro rfl; cases h
  · decide
theorem vtext_num {k n : Int} {t v : List UInt8} (h : vtext k n t = some v) : -maxN ≤ n ∧ n ≤ maxN ∧ (numK k = true → t = []) ∧ (numK k = false → n = 0) ∧ (k = 1 ∨ k = 2 ∨ k = 3 ∨ k = 4 ∨ k = 5 ∨ k = 6) := by
  unfold vtext at h
  split at h
  · cases h
  · rename_i hc
    simp only [Bool.or_eq_true, Bool.and_eq_true, decide_eq_true_eq, not_or, not_and, bne_iff_ne, ne_eq, Bool.not_eq_true', Bool.not_eq_false, Decidable.not_not] at hc
    obtain ⟨h1, h2, h3, h4⟩ := hc
    refine ⟨by omega, by omega, ?_, ?_, ?_⟩
    · intro hk
      have := h1 hk
      cases t with
      | nil => rfl
      | cons a b => simp at this
    · intro hk; exact h2 hk
    · by_cases a1 : k = 1
      · exact .inl a1
      by_cases a2 : k = 2
      · exact .inr (.inl a2)
      by_cases a6 : k = 6
      · simp [a6]
      by_cases a3 : k = 3
      · simp [a3]
      by_cases a4 : k = 4
      · simp [a4]
      by_cases a5 : k = 5
      · simp [a5]
      rw [if_neg a1, if_neg a2, if_neg a6, if_neg a3, if_neg a4, if_neg a5] at h
      cases h
theorem cond_no {k n : Int} {t : List UInt8} (h1 : -maxN ≤ n) (h2 : n ≤ maxN) (h3 : numK k = true → t = []) (h4 : numK k = false → n = 0) : ((numK k && !t.isEmpty) || ((!numK k && n != 0) || (decide (n < -maxN) || decide (maxN < n)))) = false := by
  have e1 : decide (n < -maxN) = false := decide_eq_false (by omega)
  have e2 : decide (maxN < n) = false := decide_eq_false (by omega)
  rw [e1, e2]
  cases hk : numK k with
  | true => rw [h3 hk]; rfl
  | false => rw [h4 hk]; rfl
theorem head_ne {d : List UInt8} (hd : allB digitI d = true) (h0 : 0 < d.length) (r : List UInt8) : ∃ c t, d ++ r = c :: t ∧ c ≠ 45 ∧ digitI c.toNat = true := by
  cases d with
  | nil => cases h0
  | cons c d =>
    simp only [allB, List.all_cons, Bool.and_eq_true] at hd
    refine ⟨c, d ++ r, rfl, ?_, hd.1⟩
    rintro rfl
    cases hd.1
theorem value_num {d : List UInt8} (hd : allB digitI d = true) (h0 : 0 < d.length) (r : List UInt8) : value (d ++ r) = num 1 (d ++ r) := by
  obtain ⟨c, t, e, h1, h2⟩ := head_ne hd h0 r
  rw [e, value_cons, if_neg h1, if_pos h2]
theorem value_neg (r : List UInt8) : value (45 :: r) = num (-1) r := by rw [value_cons, if_pos rfl]
theorem off_dig {r : List UInt8} (h : Off tokI r) : Off digitI r := h.mono dig_tok
theorem off_46 {r : List UInt8} (h : Off tokI r) : r.headD 0 ≠ 46 := h.ne (by decide) (by decide)
theorem p15 : (10 : Nat) ^ 15 = 1000000000000000 := by decide
theorem p12 : (10 : Nat) ^ 12 = 1000000000000 := by decide
/-- A value is read from its text as itself, whatever stands behind that does not go on. -/
theorem value_back {k n : Int} {t v : List UInt8} (h : vtext k n t = some v) {r : List UInt8} (hr : Off tokI r) : value (v ++ r) = some (kv k n t, r) := by
  obtain ⟨b1, b2, b3, b4, bk⟩ := vtext_num h
  unfold maxN at b1 b2
  unfold vtext at h
  rw [if_neg (by rw [cond_no b1 b2 b3 b4]; decide)] at h
  rcases bk with rfl | rfl | rfl | rfl | rfl | rfl
  · rw [if_pos rfl] at h
    cases h
    rw [b3 rfl]
    unfold Lib.itoa
    by_cases hn : n < 0
    · obtain ⟨d1, d2, _, d4, _⟩ := dec_good n.natAbs
      rw [if_pos hn, List.cons_append, value_neg, num_int (-1) d1 d4 (dec_len _ 15 (by rw [p15]; omega) (by decide)) (off_dig hr) (off_46 hr), d2]
      have : (-1 : Int) * (n.natAbs : Int) = n := by omega
      rw [this]
    · obtain ⟨d1, d2, _, d4, _⟩ := dec_good n.toNat
      rw [if_neg hn, value_num d1 d4, num_int 1 d1 d4 (dec_len _ 15 (by rw [p15]; omega) (by decide)) (off_dig hr) (off_46 hr), d2]
      have : (1 : Int) * (n.toNat : Int) = n := by omega
      rw [this]
  · rw [if_neg (by decide), if_pos rfl] at h
    cases h
    rw [b3 rfl]
    unfold decT
    obtain ⟨d1, d2, _, d4, _⟩ := dec_good (n.natAbs / 1000)
    obtain ⟨f1, f2, f3, f4, _⟩ := frac_good (f := n.natAbs % 1000) (by omega)
    have hl := dec_len (n.natAbs / 1000) 12 (by rw [p12]; omega) (by decide)
    have hv : val (Lib.decDigits (n.natAbs / 1000) ++ frac (n.natAbs % 1000)) * 10 ^ (3 - (frac (n.natAbs % 1000)).length) = (n.natAbs : Int) := by
      rw [val_app, d2, Int.add_mul, f4, Int.mul_assoc, ← Int.pow_add, show (frac (n.natAbs % 1000)).length + (3 - (frac (n.natAbs % 1000)).length) = 3 by omega]
      have : (10 : Int) ^ 3 = 1000 := by decide
      rw [this]; omega
    by_cases hn : n < 0
    · have e : (if n < 0 then [45] else [] : List UInt8) = [45] := if_pos hn
      have e2 : ([45] : List UInt8) ++ (Lib.decDigits (n.natAbs / 1000) ++ 46 :: frac (n.natAbs % 1000)) ++ r = 45 :: (Lib.decDigits (n.natAbs / 1000) ++ 46 :: (frac (n.natAbs % 1000) ++ r)) := by simp
      rw [e, e2, value_neg, num_dec (-1) d1 d4 hl f1 f2 f3 (off_dig hr), hv]
      have : (-1 : Int) * (n.natAbs : Int) = n := by omega
      rw [this]
    · have e : (if n < 0 then [45] else [] : List UInt8) = [] := if_neg hn
      have e2 : ([] : List UInt8) ++ (Lib.decDigits (n.natAbs / 1000) ++ 46 :: frac (n.natAbs % 1000)) ++ r = Lib.decDigits (n.natAbs / 1000) ++ 46 :: (frac (n.natAbs % 1000) ++ r) := by simp
      rw [e, e2, value_num d1 d4, num_dec 1 d1 d4 hl f1 f2 f3 (off_dig hr), hv]
      have : (1 : Int) * (n.natAbs : Int) = n := by omega
      rw [this]
  · have hz := b4 rfl
    subst hz
    rw [if_neg (by decide), if_neg (by decide), if_neg (by decide), if_pos rfl] at h
    split at h
    · rename_i hp
      cases h
      have e : (34 :: (esc t ++ [34])) ++ r = 34 :: (esc t ++ 34 :: r) := by simp
      rw [e, value_cons, if_neg (by decide), if_neg (by decide), if_pos rfl, quo_esc hp]; rfl
    · cases h
  · have hz := b4 rfl
    subst hz
    rw [if_neg (by decide), if_neg (by decide), if_neg (by decide), if_neg (by decide), if_pos rfl] at h
    split at h
    · rename_i hp
      cases h
      cases t with
      | nil => cases hp
      | cons c t =>
        simp only [tokB, Bool.and_eq_true] at hp
        obtain ⟨h1, h2, h3⟩ := tok_ne hp.1
        obtain ⟨e1, e2⟩ := tw_app hp.2 hr
        rw [List.cons_append, value_cons, if_neg h1, if_neg (by rw [h2]; decide), if_neg h3, if_pos hp.1, e1, e2]
    · cases h
  · have hz := b4 rfl
    subst hz
    rw [if_neg (by decide), if_neg (by decide), if_neg (by decide), if_neg (by decide), if_neg (by decide), if_pos rfl] at h
    split at h
    · rename_i hp
      cases h
      have e : (58 :: (t ++ [58])) ++ r = 58 :: (t ++ 58 :: r) := by simp
      obtain ⟨e1, e2⟩ := tw_app hp (r := 58 :: r) (off_cons (by decide))
      rw [e, value_cons, if_neg (by decide), if_neg (by decide), if_neg (by decide), if_neg (by decide), if_pos rfl, e1, e2, if_pos (show (58 :: r).headD 0 = 58 from rfl)]
      rfl
    · cases h
  · rw [if_neg (by decide), if_neg (by decide), if_pos rfl] at h
    rw [b3 rfl]
    split at h
    · rename_i hn
      cases h
      rcases hn with rfl | rfl
      · have e : Lib.itoa 0 = [48] := by unfold Lib.itoa; rw [if_neg (by decide), dec_small (by decide)]; rfl
        rw [e]
        rfl
      · have e : Lib.itoa 1 = [49] := by unfold Lib.itoa; rw [if_neg (by decide), dec_small (by decide)]; rfl
        rw [e]
        rfl
    · cases h
end Sf
end Go.Proofs.YtgddmihojladfaaGreatDoor
