/- Items of structured fields: what is read as a value is its own text's, and may be. No program is named here. -/
import Derived.Test.YtgddmihojladfaaGreatDoorSfMath2
namespace Go.Proofs.YtgddmihojladfaaGreatDoor
namespace Sf
open Oct

/-- A text that begins and ends with no blank. -/
structure Ends (a : List UInt8) : Prop where
  ne : a ≠ []
  hd : a.headD 0 ≠ 32
  la : a.getLastD 0 ≠ 32
theorem last_mem {a : List UInt8} (h : a ≠ []) : a.getLastD 0 ∈ a := by
  cases a with
  | nil => exact absurd rfl h
  | cons c r => rw [List.getLastD_cons]; exact List.getLastD_mem_cons
theorem head_mem {a : List UInt8} (h : a ≠ []) : a.headD 0 ∈ a := by
  cases a with
  | nil => exact absurd rfl h
  | cons c r => simp
theorem ends_all {p : Int → Bool} (hp : p 32 = false) {a : List UInt8} (ha : allB p a = true) (h : a ≠ []) : Ends a := by
  unfold allB at ha
  rw [List.all_eq_true] at ha
  have key : ∀ c ∈ a, c ≠ 32 := by
    rintro c hc rfl
    have := ha _ hc
    rw [show (((32 : UInt8).toNat : Nat) : Int) = 32 by rfl, hp] at this
    cases this
  exact ⟨h, key _ (head_mem h), key _ (last_mem h)⟩
theorem last_app (a : List UInt8) {b : List UInt8} (h : b ≠ []) : (a ++ b).getLastD 0 = b.getLastD 0 := by
  rw [List.getLastD_eq_getLast?, List.getLastD_eq_getLast?, List.getLast?_append]
  cases hb : b.getLast? with
  | none => exact absurd (List.getLast?_eq_none_iff.1 hb) h
  | some x => rfl
theorem head_app {a : List UInt8} (b : List UInt8) (h : a ≠ []) : (a ++ b).headD 0 = a.headD 0 := by
  cases a with
  | nil => exact absurd rfl h
  | cons c r => rfl
/-- What begins with one that has no blank at its head, and ends with one that has none at its end. -/
theorem ends_app {a b : List UInt8} (ha : a ≠ []) (h1 : a.headD 0 ≠ 32) (hb : b ≠ []) (h2 : b.getLastD 0 ≠ 32) : Ends (a ++ b) :=
  ⟨by simp [ha], by rw [head_app b ha]; exact h1, by rw [last_app a hb]; exact h2⟩
theorem pow_pos10 (k : Nat) : (0 : Int) < 10 ^ k := Int.pow_pos (by decide)

/-- A number's text, from its digits. -/
theorem itoa_len (sg : Int) (hs : sg = 1 ∨ sg = -1) {d : List UInt8} (hd : allB digitI d = true) (h0 : 0 < d.length) : (Lib.itoa (sg * val d)).length ≤ (if sg = 1 then 0 else 1) + d.length := by
  have h1 := val_nonneg d hd
  have h2 := dec_val d hd h0
  unfold Lib.itoa
  rcases hs with rfl | rfl
  · rw [if_neg (by omega), if_pos rfl, show ((1 : Int) * val d).toNat = (val d).toNat by rw [Int.one_mul]]
    omega
  · rw [if_neg (by decide : ¬ (-1 : Int) = 1)]
    by_cases hz : val d = 0
    · rw [hz, if_neg (by decide)]
      rw [show ((-1 : Int) * 0).toNat = 0 by rfl, dec_small (by decide)]
      simp
    · rw [if_pos (by omega), show ((-1 : Int) * val d).natAbs = (val d).toNat by omega]
      simp; omega
theorem val_bound {d : List UInt8} (hd : allB digitI d = true) (k : Nat) (h : d.length ≤ k) : val d ≤ 10 ^ k - 1 := by
  have h1 := val_lt d hd
  have h2 : (10 : Int) ^ d.length ≤ 10 ^ k := by
    have := Nat.pow_le_pow_right (n := 10) (by decide) h
    exact_mod_cast this
  omega
/-- The thousandths that digits behind a point are. -/
theorem mil (d m : List UInt8) (hm : allB digitI m = true) (m0 : 0 < m.length) (m1 : m.length ≤ 3) :
    ∃ f : Nat, f < 1000 ∧ val (d ++ m) * 10 ^ (3 - m.length) = val d * 1000 + (f : Int) ∧ (frac f).length ≤ m.length := by
  have h1 := val_nonneg m hm
  have h2 := val_lt m hm
  have e : val (d ++ m) * 10 ^ (3 - m.length) = val d * 1000 + val m * 10 ^ (3 - m.length) := by
    rw [val_app, Int.add_mul, Int.mul_assoc, ← Int.pow_add, show m.length + (3 - m.length) = 3 by omega]
    rfl
  obtain ⟨v, hv⟩ : ∃ v, val m = v := ⟨_, rfl⟩
  rw [hv] at h1 h2 e
  rcases (by omega : m.length = 1 ∨ m.length = 2 ∨ m.length = 3) with h | h | h
  · rw [h] at e h2 ⊢
    refine ⟨v.toNat * 100, by omega, ?_, ?_⟩
    · rw [e]; show val d * 1000 + v * 100 = _; omega
    · have := (frac_good (f := v.toNat * 100) (by omega)).2.2.2.2.1 (by omega)
      omega
  · rw [h] at e h2 ⊢
    refine ⟨v.toNat * 10, by omega, ?_, ?_⟩
    · rw [e]; show val d * 1000 + v * 10 = _; omega
    · exact (frac_good (f := v.toNat * 10) (by omega)).2.2.2.2.2 (by omega)
  · rw [h] at e h2 ⊢
    refine ⟨v.toNat, by omega, ?_, ?_⟩
    · rw [e]; show val d * 1000 + v * 1 = _; omega
    · exact (frac_good (f := v.toNat) (by omega)).2.2.1
theorem ten_add (k : Nat) : (10 : Int) ^ (k + 1) = 10 ^ k * 10 := Int.pow_succ _ _
theorem vt1 {n : Int} (h1 : -maxN ≤ n) (h2 : n ≤ maxN) : vtext 1 n [] = some (Lib.itoa n) := by
  unfold vtext
  rw [if_neg (by rw [cond_no h1 h2 (fun _ => rfl) (fun h => by cases h)]; decide), if_pos rfl]
theorem vt2 {n : Int} (h1 : -maxN ≤ n) (h2 : n ≤ maxN) : vtext 2 n [] = some (decT n) := by
  unfold vtext
  rw [if_neg (by rw [cond_no h1 h2 (fun _ => rfl) (fun h => by cases h)]; decide), if_neg (by decide), if_pos rfl]
theorem vt3 {t : List UInt8} (h : allB prI t = true) : vtext 3 0 t = some (34 :: (esc t ++ [34])) := by
  unfold vtext
  rw [if_neg (by rw [cond_no (by decide) (by decide) (fun h => by cases h) (fun _ => rfl)]; decide), if_neg (by decide), if_neg (by decide), if_neg (by decide), if_pos rfl, if_pos h]
theorem vt4 {t : List UInt8} (h : tokB t = true) : vtext 4 0 t = some t := by
  unfold vtext
  rw [if_neg (by rw [cond_no (by decide) (by decide) (fun h => by cases h) (fun _ => rfl)]; decide), if_neg (by decide), if_neg (by decide), if_neg (by decide), if_neg (by decide), if_pos rfl, if_pos h]
theorem vt5 {t : List UInt8} (h : allB baseI t = true) : vtext 5 0 t = some (58 :: (t ++ [58])) := by
  unfold vtext
  rw [if_neg (by rw [cond_no (by decide) (by decide) (fun h => by cases h) (fun _ => rfl)]; decide), if_neg (by decide), if_neg (by decide), if_neg (by decide), if_neg (by decide), if_neg (by decide), if_pos rfl, if_pos h]
theorem vt6 {n : Int} (h : n = 0 ∨ n = 1) : vtext 6 n [] = some [63, UInt8.ofNat (48 + n.toNat)] := by
  have e : Lib.itoa n = [UInt8.ofNat (48 + n.toNat)] := by
    unfold Lib.itoa
    rcases h with rfl | rfl
    · rw [if_neg (by decide), dec_small (by decide)]
    · rw [if_neg (by decide), dec_small (by decide)]
  unfold vtext
  rw [if_neg (by rw [cond_no (by unfold maxN; omega) (by unfold maxN; omega) (fun _ => rfl) (fun h => by cases h)]; decide), if_neg (by decide), if_neg (by decide), if_pos rfl, if_pos h, e]

/-- What is read as a value: the text that it takes, which is read so whatever does not go on stands behind; and the value may be, its own text no longer. -/
structure Reads (s : List UInt8) (v : Par) (r a t : List UInt8) : Prop where
  eq : s = a ++ r
  ends : Ends a
  loc : ∀ r', Off tokI r' → value (a ++ r') = some (v, r')
  txt : vtext v.kind v.n v.text = some t
  len : t.length ≤ a.length
theorem num_reads {sg : Int} (hs : sg = 1 ∨ sg = -1) {s : List UInt8} {v : Par} {r pre : List UInt8} (hpre : pre = if sg = 1 then [] else [45]) (hval : ∀ d r', allB digitI d = true → 0 < d.length → value (pre ++ (d ++ r')) = num sg (d ++ r')) (h : num sg s = some (v, r)) : ∃ a t, Reads (pre ++ s) v r a t := by
  have hpl : pre.length = if sg = 1 then 0 else 1 := by rw [hpre]; split <;> rfl
  have hends : ∀ d : List UInt8, allB digitI d = true → d ≠ [] → ∀ x : List UInt8, x ≠ [] → x.getLastD 0 ≠ 32 → Ends (pre ++ (d ++ x)) := by
    intro d hd hne x hx hl
    have e := ends_all (by decide) hd hne
    have e2 := ends_app hne e.hd hx hl
    rw [hpre]
    split
    · exact e2
    · exact ends_app (by decide) (by decide) e2.ne e2.la
  rcases num_ways h with ⟨d, h1, h2, h3, rfl, rfl, _, _⟩ | ⟨d, m, h1, h2, h3, m1, m2, m3, rfl, rfl, _⟩
  · have hb := val_bound h1 15 h3
    have hb0 := val_nonneg d h1
    have e15 : (10 : Int) ^ 15 = 1000000000000000 := by decide
    rw [e15] at hb
    have hdn : d ≠ [] := by intro e; rw [e] at h2; cases h2
    refine ⟨pre ++ d, Lib.itoa (sg * val d), ⟨by rw [List.append_assoc], ?_, ?_, ?_, ?_⟩⟩
    · have e := ends_all (by decide) h1 hdn
      rw [hpre]
      split
      · exact e
      · exact ends_app (by decide) (by decide) e.ne e.la
    · intro r' hr'
      rw [List.append_assoc, hval d r' h1 h2]
      exact num_int sg h1 h2 h3 (off_dig hr') (off_46 hr')
    · exact vt1 (n := sg * val d) (by unfold maxN; rcases hs with rfl | rfl <;> omega) (by unfold maxN; rcases hs with rfl | rfl <;> omega)
    · have := itoa_len sg hs h1 h2
      rw [List.length_append, hpl]
      exact this
  · obtain ⟨f, hf, he, hl⟩ := mil d m m1 m2 m3
    have hb := val_bound h1 12 h3
    have hb0 := val_nonneg d h1
    have e12 : (10 : Int) ^ 12 = 1000000000000 := by decide
    rw [e12] at hb
    have hdn : d ≠ [] := by intro e; rw [e] at h2; cases h2
    have hmn : m ≠ [] := by intro e; rw [e] at m2; cases m2
    rw [he]
    refine ⟨pre ++ (d ++ 46 :: m), decT (sg * (val d * 1000 + f)), ⟨by simp, ?_, ?_, ?_, ?_⟩⟩
    · refine hends d h1 hdn (46 :: m) (by simp) ?_
      have := (ends_all (by decide) m1 hmn).la
      rw [show (46 :: m) = [46] ++ m from rfl, last_app [46] hmn]
      exact this
    · intro r' hr'
      have e : pre ++ (d ++ 46 :: m) ++ r' = pre ++ (d ++ (46 :: (m ++ r'))) := by simp
      rw [e, hval d _ h1 h2, num_dec sg h1 h2 h3 m1 m2 m3 (off_dig hr'), he]
    · exact vt2 (n := sg * (val d * 1000 + f)) (by unfold maxN; rcases hs with rfl | rfl <;> omega) (by unfold maxN; rcases hs with rfl | rfl <;> omega)
    · have hna : (sg * (val d * 1000 + f)).natAbs = (val d).toNat * 1000 + f := by rcases hs with rfl | rfl <;> omega
      unfold decT
      rw [hna, show ((val d).toNat * 1000 + f) / 1000 = (val d).toNat by omega, show ((val d).toNat * 1000 + f) % 1000 = f by omega]
      have h5 := dec_val d h1 h2
      have h6 : (if sg * (val d * 1000 + f) < 0 then [45] else [] : List UInt8).length ≤ pre.length := by
        rw [hpl]
        rcases hs with rfl | rfl
        · rw [if_neg (by omega)]; simp
        · show _ ≤ 1
          split <;> simp
      simp only [List.length_append, List.length_cons]
      omega
theorem value_reads {s : List UInt8} {v : Par} {r : List UInt8} (h : value s = some (v, r)) : ∃ a t, Reads s v r a t := by
  cases s with
  | nil => cases h
  | cons c s =>
    rw [value_cons] at h
    by_cases h45 : c = 45
    · rw [if_pos h45] at h
      subst h45
      exact num_reads (sg := -1) (pre := [45]) (.inr rfl) rfl (fun d r' _ _ => value_neg _) h
    rw [if_neg h45] at h
    by_cases hd : digitI c.toNat = true
    · rw [if_pos hd] at h
      exact num_reads (sg := 1) (pre := []) (.inl rfl) rfl (fun d r' h1 h2 => value_num h1 h2 r') h
    rw [if_neg hd] at h
    by_cases h34 : c = 34
    · rw [if_pos h34] at h
      subst h34
      cases hq : quo s with
      | none => rw [hq] at h; cases h
      | some x =>
        rw [hq] at h
        cases h
        obtain ⟨e1, e2⟩ := quo_ways s x.1 x.2 hq
        refine ⟨34 :: (esc x.1 ++ [34]), _, ⟨by rw [e1]; simp, ?_, ?_, vt3 e2, Nat.le_refl _⟩⟩
        · have := ends_app (a := [34]) (b := esc x.1 ++ [34]) (by decide) (by decide) (by simp) (by rw [last_app _ (by decide)]; decide)
          exact this
        · intro r' _
          have e : (34 :: (esc x.1 ++ [34])) ++ r' = 34 :: (esc x.1 ++ 34 :: r') := by simp
          rw [e, value_cons, if_neg (by decide), if_neg (by decide), if_pos rfl, quo_esc e2]; rfl
    rw [if_neg h34] at h
    by_cases hl : (letterI c.toNat || c == 42) = true
    · rw [if_pos hl] at h
      cases h
      have e := tw_dw tokI s
      have ha := tw_all tokI s
      have hc32 : c ≠ 32 := by rintro rfl; cases hl
      have htk : allB tokI (c :: tw tokI s) = true := by
        unfold allB
        rw [List.all_cons, Bool.and_eq_true]
        refine ⟨?_, ha⟩
        unfold tokI tcharI
        rw [Bool.or_eq_true, beq_iff_eq] at hl
        rcases hl with hl | rfl
        · rw [hl]; rfl
        · decide
      refine ⟨c :: tw tokI s, c :: tw tokI s, ⟨by rw [List.cons_append, e], ends_all (by decide) htk (by simp), ?_, vt4 (by show ((letterI c.toNat || c == 42) && allB tokI (tw tokI s)) = true; rw [hl, ha]; rfl), Nat.le_refl _⟩⟩
      intro r' hr'
      obtain ⟨e1, e2⟩ := tw_app ha hr'
      rw [List.cons_append, value_cons, if_neg h45, if_neg hd, if_neg h34, if_pos hl, e1, e2]
    rw [if_neg hl] at h
    by_cases h58 : c = 58
    · rw [if_pos h58] at h
      subst h58
      split at h
      · rename_i hh
        cases h
        have e := tw_dw baseI s
        have ha := tw_all baseI s
        have e3 : dw baseI s = 58 :: (dw baseI s).drop 1 := by
          cases hc : dw baseI s with
          | nil => rw [hc] at hh; cases hh
          | cons x y => rw [hc] at hh; have : x = 58 := hh; rw [this]; rfl
        refine ⟨58 :: (tw baseI s ++ [58]), _, ⟨?_, ?_, ?_, vt5 ha, Nat.le_refl _⟩⟩
        · rw [List.cons_append, List.append_assoc, List.singleton_append, ← e3, e]
        · have := ends_app (a := [58]) (b := tw baseI s ++ [58]) (by decide) (by decide) (by simp) (by rw [last_app _ (by decide)]; decide)
          exact this
        · intro r' _
          have e4 : (58 :: (tw baseI s ++ [58])) ++ r' = 58 :: (tw baseI s ++ 58 :: r') := by simp
          obtain ⟨e1, e2⟩ := tw_app ha (r := 58 :: r') (off_cons (by decide))
          rw [e4, value_cons, if_neg (by decide), if_neg (by decide), if_neg (by decide), if_neg (by decide), if_pos rfl, e1, e2, if_pos (show (58 :: r').headD 0 = 58 from rfl)]
          rfl
      · cases h
    rw [if_neg h58] at h
    by_cases h63 : c = 63
    · rw [if_pos h63] at h
      subst h63
      split at h
      · rename_i hh
        cases h
        obtain ⟨y, rfl⟩ : ∃ y, s = 48 :: y := by
          cases s with
          | nil => cases hh
          | cons x y => have : x = 48 := hh; exact ⟨y, by rw [this]⟩
        exact ⟨[63, 48], _, ⟨rfl, ⟨by decide, by decide, by decide⟩, fun r' _ => rfl, vt6 (.inl rfl), by simp⟩⟩
      · split at h
        · rename_i hh
          cases h
          obtain ⟨y, rfl⟩ : ∃ y, s = 49 :: y := by
            cases s with
            | nil => cases hh
            | cons x y => have : x = 49 := hh; exact ⟨y, by rw [this]⟩
          exact ⟨[63, 49], _, ⟨rfl, ⟨by decide, by decide, by decide⟩, fun r' _ => rfl, vt6 (.inr rfl), by simp⟩⟩
        · cases h
    rw [if_neg h63] at h
    cases h
end Sf
end Go.Proofs.YtgddmihojladfaaGreatDoor
