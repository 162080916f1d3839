/- Our texts of one layer, joined: plain functions and their laws, and the contracts of the functions of that layer. -/
import Derived.Test.YtgddmihojladfaaGreatDoorHdMath
import Derived.Test.YtgddmihojladfaaGreatDoorSfMath5
import Derived.Test.YtgddmihojladfaaGreatDoorOctAll

/- Opener and embedder policies: plain functions and their laws; no program is named here. -/
namespace Go.Proofs.YtgddmihojladfaaGreatDoor
namespace Co

/-- 'cross-origin-opener-policy' and its three brothers. -/
def nO : List UInt8 := [99, 114, 111, 115, 115, 45, 111, 114, 105, 103, 105, 110, 45, 111, 112, 101, 110, 101, 114, 45, 112, 111, 108, 105, 99, 121]
def nOR : List UInt8 := [99, 114, 111, 115, 115, 45, 111, 114, 105, 103, 105, 110, 45, 111, 112, 101, 110, 101, 114, 45, 112, 111, 108, 105, 99, 121, 45, 114, 101, 112, 111, 114, 116, 45, 111, 110, 108, 121]
def nE : List UInt8 := [99, 114, 111, 115, 115, 45, 111, 114, 105, 103, 105, 110, 45, 101, 109, 98, 101, 100, 100, 101, 114, 45, 112, 111, 108, 105, 99, 121]
def nER : List UInt8 := [99, 114, 111, 115, 115, 45, 111, 114, 105, 103, 105, 110, 45, 101, 109, 98, 101, 100, 100, 101, 114, 45, 112, 111, 108, 105, 99, 121, 45, 114, 101, 112, 111, 114, 116, 45, 111, 110, 108, 121]
def kTo : List UInt8 := [114, 101, 112, 111, 114, 116, 45, 116, 111]
def wReq : List UInt8 := [114, 101, 113, 117, 105, 114, 101, 45, 99, 111, 114, 112]
def wCred : List UInt8 := [99, 114, 101, 100, 101, 110, 116, 105, 97, 108, 108, 101, 115, 115]
def wSame : List UInt8 := [115, 97, 109, 101, 45, 111, 114, 105, 103, 105, 110]
def wPop : List UInt8 := [115, 97, 109, 101, 45, 111, 114, 105, 103, 105, 110, 45, 97, 108, 108, 111, 119, 45, 112, 111, 112, 117, 112, 115]

/-- Where reports go, of an item's parameters. -/
def endp (ps : List Sf.Par) : List UInt8 := ps.foldl (fun to p => if p.key == kTo && p.kind == 3 then p.text else to) []
def ofItem : Option Sf.Itm → List UInt8 × List UInt8
  | some x => if x.kind = 4 then (x.text, endp x.params) else ([], [])
  | none => ([], [])
/-- The keyword of a field, and its endpoint. -/
def word (l : List Hd.Hdr) (n : List UInt8) : List UInt8 × List UInt8 := if Hd.hasB l n then ofItem (Sf.parse (Hd.comb l n)) else ([], [])
def isoB (k : Int) : Bool := k == 1 || k == 2
def coepW (w : List UInt8) : Int := if w = wReq then 2 else if w = wCred then 1 else 0
def coopW (w : List UInt8) (plus : Bool) : Int := if w = wSame then (if plus then 3 else 2) else if w = wPop then 1 else 0
structure Pol where
  value : Int
  to : List UInt8
  report : Int
  reportT : List UInt8
  deriving DecidableEq
def noPol : Pol := ⟨0, [], 0, []⟩
def coepL (l : List Hd.Hdr) (secure : Bool) : Pol := if secure then ⟨coepW (word l nE).1, (word l nE).2, coepW (word l nER).1, (word l nER).2⟩ else noPol
def coopL (l : List Hd.Hdr) (secure : Bool) : Pol :=
  if secure then ⟨coopW (word l nO).1 (isoB (coepL l true).value), (word l nO).2, coopW (word l nOR).1 (isoB (coepL l true).value || isoB (coepL l true).report), (word l nOR).2⟩ else noPol
/-- A header whose name is one of the two that are but reported. -/
def repB (h : Hd.Hdr) : Bool := Oct.lower h.name == nOR || Oct.lower h.name == nER
def plain (l : List Hd.Hdr) : List Hd.Hdr := l.filter fun h => !repB h

/-! ### names -/
theorem low_O : Oct.lower nO = nO := by decide
theorem low_OR : Oct.lower nOR = nOR := by decide
theorem low_E : Oct.lower nE = nE := by decide
theorem low_ER : Oct.lower nER = nER := by decide
theorem fold_is {a n : List UInt8} (h : Oct.lower n = n) : Hd.foldB a n = (Oct.lower a == n) := by unfold Hd.foldB; rw [h]
theorem coopW_nil (p : Bool) : coopW [] p = 0 := by cases p <;> decide
theorem coepW_nil : coepW [] = 0 := by decide
/-- A field hangs on its values alone. -/
theorem word_of {l l' : List Hd.Hdr} {n : List UInt8} (h : Hd.vals l n = Hd.vals l' n) : word l n = word l' n := by
  unfold word Hd.hasB Hd.comb; rw [h]
theorem word_none {l : List Hd.Hdr} {n : List UInt8} (h : Hd.vals l n = []) : word l n = ([], []) := by
  unfold word Hd.hasB; rw [h]; rfl

/-! ### what is but reported -/
theorem vals_plain {l : List Hd.Hdr} {n : List UInt8} (hn : Oct.lower n = n) (h1 : n ≠ nOR) (h2 : n ≠ nER) : Hd.vals (plain l) n = Hd.vals l n := by
  unfold Hd.vals plain
  rw [List.filter_filter]
  congr 1
  apply List.filter_congr
  intro h _
  cases hf : Hd.foldB h.name n with
  | false => rfl
  | true =>
    rw [fold_is hn] at hf
    have e := beq_iff_eq.1 hf
    unfold repB
    rw [e]
    have e1 : (n == nOR) = false := by simpa using h1
    have e2 : (n == nER) = false := by simpa using h2
    rw [e1, e2]; rfl
theorem vals_plain' {l : List Hd.Hdr} {n : List UInt8} (hn : Oct.lower n = n) (h : n = nOR ∨ n = nER) : Hd.vals (plain l) n = [] := by
  unfold Hd.vals plain
  rw [List.filter_filter, List.map_eq_nil_iff, List.filter_eq_nil_iff]
  intro x _ hx
  rw [Bool.and_eq_true, fold_is hn] at hx
  have e := beq_iff_eq.1 hx.1
  have h2 := hx.2
  unfold repB at h2
  rw [e] at h2
  rcases h with rfl | rfl <;> simp at h2
theorem coep_plain (l : List Hd.Hdr) : coepL (plain l) true = ⟨(coepL l true).value, (coepL l true).to, 0, []⟩ := by
  unfold coepL
  rw [if_pos rfl, if_pos rfl, word_of (vals_plain low_E (by decide) (by decide)), word_none (vals_plain' low_ER (.inr rfl))]
  rfl
theorem coop_plain (l : List Hd.Hdr) : coopL (plain l) true = ⟨(coopL l true).value, (coopL l true).to, 0, []⟩ := by
  have e := coep_plain l
  unfold coopL
  rw [if_pos rfl, if_pos rfl, e, word_of (vals_plain low_O (by decide) (by decide)), word_none (vals_plain' low_OR (.inl rfl)), coopW_nil]

/-! ### other lines -/
theorem coop_vals {l l' : List Hd.Hdr} (h1 : Hd.vals l nO = Hd.vals l' nO) (h2 : Hd.vals l nOR = Hd.vals l' nOR) (h3 : Hd.vals l nE = Hd.vals l' nE) (h4 : Hd.vals l nER = Hd.vals l' nER) :
    coopL l true = coopL l' true ∧ coepL l true = coepL l' true := by
  have e : coepL l true = coepL l' true := by
    unfold coepL; rw [word_of h3, word_of h4]
  refine ⟨?_, e⟩
  unfold coopL; rw [e, word_of h1, word_of h2]
theorem vals_more {l : List Hd.Hdr} {h : Hd.Hdr} {n : List UInt8} (hn : Oct.lower n = n) (k : Nat) (hh : Oct.lower h.name ≠ n) : Hd.vals (l.take k ++ [h] ++ l.drop k) n = Hd.vals l n := by
  have := Hd.vals_other (l := l) (h := h) (n := n) k (by rw [fold_is hn]; simpa using hh)
  rwa [hn] at this
theorem coop_more {l : List Hd.Hdr} {h : Hd.Hdr} (k : Nat) (h1 : Oct.lower h.name ≠ nO) (h2 : Oct.lower h.name ≠ nE) (h3 : Oct.lower h.name ≠ nOR) (h4 : Oct.lower h.name ≠ nER) :
    coopL (l.take k ++ [h] ++ l.drop k) true = coopL l true ∧ coepL (l.take k ++ [h] ++ l.drop k) true = coepL l true :=
  coop_vals (vals_more low_O k h1) (vals_more low_OR k h3) (vals_more low_E k h2) (vals_more low_ER k h4)

/-! ### the strongest -/
def bare (l : List Hd.Hdr) : List Hd.Hdr := l.filter fun h => !Hd.foldB h.name nE
theorem vals_bare (l : List Hd.Hdr) : Hd.vals (bare l) nE = [] := by
  unfold Hd.vals bare
  rw [List.filter_filter, List.map_eq_nil_iff, List.filter_eq_nil_iff]
  intro x _ hx
  rw [Bool.and_eq_true] at hx
  rw [hx.1] at hx
  exact absurd hx.2 (by decide)
theorem vals_with (l : List Hd.Hdr) (v : List UInt8) {n : List UInt8} (h : Hd.foldB nE n = false) : Hd.vals (l ++ [⟨nE, v⟩]) n = Hd.vals l n := by
  rw [Hd.vals_app, Hd.vals_one, h]; simp
theorem coopW_plus (w : List UInt8) (p : Bool) : coopW w p = if coopW w false = 2 ∧ p = true then 3 else coopW w false := by
  unfold coopW
  by_cases h : w = wSame
  · cases p <;> simp [h]
  · by_cases h2 : w = wPop
    · subst h2; cases p <;> decide
    · simp [h, h2]
theorem coopW_ne (w : List UInt8) : coopW w false ≠ 3 := by
  unfold coopW
  split
  · decide
  · split <;> decide
theorem bare_value (l : List Hd.Hdr) : (coopL (bare l) true).value = coopW (word (bare l) nO).1 false := by
  have e : (coepL (bare l) true).value = 0 := by unfold coepL; rw [if_pos rfl, word_none (vals_bare l)]; exact coepW_nil
  unfold coopL
  rw [if_pos rfl, e]
  rfl
theorem plus_only (l : List Hd.Hdr) (v : List UInt8) :
    (coopL (bare l ++ [⟨nE, v⟩]) true).value = (if (coopL (bare l) true).value = 2 ∧ isoB (coepL (bare l ++ [⟨nE, v⟩]) true).value = true then 3 else (coopL (bare l) true).value)
      ∧ (coopL (bare l) true).value ≠ 3 ∧ (coopL (bare l) true).to = (coopL (bare l ++ [⟨nE, v⟩]) true).to := by
  have hw : word (bare l ++ [⟨nE, v⟩]) nO = word (bare l) nO := word_of (vals_with (bare l) v (by decide))
  refine ⟨?_, ?_, ?_⟩
  · rw [bare_value, ← coopW_plus]
    show coopW (word (bare l ++ [⟨nE, v⟩]) nO).1 _ = _
    rw [hw]
  · rw [bare_value]; exact coopW_ne _
  · show (word (bare l) nO).2 = (word (bare l ++ [⟨nE, v⟩]) nO).2
    rw [hw]
end Co
end Go.Proofs.YtgddmihojladfaaGreatDoor

/- Opener and embedder policies: a comma that no quote stands ahead of ends no item; the word ahead of the first semicolon. No program is named here. -/
namespace Go.Proofs.YtgddmihojladfaaGreatDoor
namespace Co
open Oct Sf

/-! ### a comma is within quotes -/
/-- Ahead of each comma stands a quote. -/
def Q (c : List UInt8) : Prop := ∀ p q, c = p ++ 44 :: q → 34 ∈ p
theorem Q.nil : Q [] := fun p q h => by simp at h
theorem Q.no {c : List UInt8} (h : ∀ b ∈ c, b ≠ 44) : Q c := fun p q e => absurd rfl (h 44 (by rw [e]; simp))
theorem Q.quote (t : List UInt8) : Q (34 :: t) := fun p q e => by
  cases p with
  | nil => simp at e
  | cons a p =>
    rw [List.cons_append, List.cons.injEq] at e
    rw [← e.1]; simp
theorem Q.app {a b : List UInt8} (ha : Q a) (hb : Q b) : Q (a ++ b) := fun p q e => by
  rcases List.append_eq_append_iff.1 e with ⟨x, rfl, h2⟩ | ⟨x, rfl, h2⟩
  · exact List.mem_append_right _ (hb x q h2)
  · cases x with
    | nil =>
      rw [List.nil_append] at h2
      have := hb [] q h2.symm
      simp at this
    | cons d x =>
      rw [List.cons_append, List.cons.injEq] at h2
      exact ha p x (by rw [h2.1])
theorem Q.cons {c : UInt8} {a : List UInt8} (hc : c ≠ 44) (ha : Q a) : Q (c :: a) := by
  have := Q.app (a := [c]) (b := a) (Q.no (by simpa using hc)) ha
  simpa using this
theorem no_all {p : Int → Bool} (hp : p 44 = false) {a : List UInt8} (h : allB p a = true) : ∀ b ∈ a, b ≠ 44 := fun b hb e => by
  have := List.all_eq_true.1 h b hb
  rw [e] at this
  rw [show ((44 : UInt8).toNat : Int) = 44 from rfl, hp] at this
  cases this
theorem tok44 : tokI 44 = false := by decide
theorem base44 : baseI 44 = false := by decide
theorem key44 : keyI 44 = false := by decide
theorem dig44 : digitI 44 = false := by decide
theorem num_cut {sg : Int} {s : List UInt8} {v : Par} {r : List UInt8} (h : num sg s = some (v, r)) : ∃ c, s = c ++ r ∧ Q c := by
  rcases num_ways h with ⟨d, hd, _, _, e, _⟩ | ⟨d, m, hd, _, _, hm, _, _, e, _⟩
  · exact ⟨d, e, Q.no (no_all dig44 hd)⟩
  · exact ⟨d ++ 46 :: m, by rw [e]; simp, Q.app (Q.no (no_all dig44 hd)) (Q.cons (by decide) (Q.no (no_all dig44 hm)))⟩
theorem value_cut {s : List UInt8} {v : Par} {r : List UInt8} (h : value s = some (v, r)) : ∃ c, s = c ++ r ∧ Q c := by
  cases s with
  | nil => cases h
  | cons c s =>
    rw [value_cons] at h
    split at h
    · rename_i h45
      obtain ⟨x, e, hq⟩ := num_cut h
      exact ⟨c :: x, by rw [e]; rfl, Q.cons (by rw [h45]; decide) hq⟩
    split at h
    · exact num_cut h
    split at h
    · rename_i h34
      cases hz : quo s with
      | none => rw [hz] at h; cases h
      | some z =>
        obtain ⟨t, r1⟩ := z
        rw [hz] at h
        simp only [Option.map_some, Option.some.injEq, Prod.mk.injEq] at h
        obtain ⟨e, _⟩ := quo_ways s t r1 hz
        rw [h.2] at e
        exact ⟨34 :: (esc t ++ [34]), by rw [h34, e]; simp, Q.quote _⟩
    split at h
    · rename_i hl
      simp only [Option.some.injEq, Prod.mk.injEq] at h
      refine ⟨c :: tw tokI s, by rw [← h.2, List.cons_append, tw_dw], Q.cons (fun e => by rw [e] at hl; revert hl; decide) (Q.no (no_all tok44 (tw_all tokI s)))⟩
    split at h
    · rename_i h58
      split at h
      · rename_i hd
        simp only [Option.some.injEq, Prod.mk.injEq] at h
        refine ⟨c :: (tw baseI s ++ [58]), ?_, Q.cons (by rw [h58]; decide) (Q.app (Q.no (no_all base44 (tw_all baseI s))) (Q.no (by simp)))⟩
        have e := tw_dw baseI s
        cases hw : dw baseI s with
        | nil => rw [hw] at hd; exact absurd hd (by decide)
        | cons a b =>
          have ha : a = 58 := by rw [hw] at hd; exact hd
          rw [hw] at e h
          rw [List.cons_append, ← h.2]
          exact congrArg (c :: ·) (e.symm.trans (by rw [ha]; simp))
      · cases h
    split at h
    · rename_i h63
      cases s with
      | nil => rw [if_neg (by decide), if_neg (by decide)] at h; cases h
      | cons a b =>
        split at h
        · rename_i h1
          simp only [Option.some.injEq, Prod.mk.injEq, List.drop_succ_cons, List.drop_zero] at h
          have ha : a = 48 := h1
          exact ⟨[c, a], by rw [← h.2]; rfl, Q.no (by rw [h63, ha]; simp)⟩
        · split at h
          · rename_i h1
            simp only [Option.some.injEq, Prod.mk.injEq, List.drop_succ_cons, List.drop_zero] at h
            have ha : a = 49 := h1
            exact ⟨[c, a], by rw [← h.2]; rfl, Q.no (by rw [h63, ha]; simp)⟩
          · cases h
    · cases h
theorem blk_Q (s : List UInt8) : ∃ z, s = z ++ blk s ∧ Q z := by
  obtain ⟨z, e, hz⟩ := blk_cut s
  exact ⟨z, e, Q.no fun b hb h => by rw [hz b hb] at h; revert h; decide⟩
theorem one_cut {s : List UInt8} {p : Par} {r : List UInt8} (h : one s = some (p, r)) : ∃ c, s = c ++ r ∧ Q c := by
  obtain ⟨z, ez, hz⟩ := blk_Q s
  unfold one at h
  cases hk : Sf.keyOf (blk s) with
  | none => rw [hk] at h; cases h
  | some y =>
    obtain ⟨k, r1⟩ := y
    rw [hk] at h
    simp only at h
    obtain ⟨e1, hkb, _⟩ := keyOf_ways hk
    have hQk : Q (z ++ k) := Q.app hz (Q.no (no_all key44 (keyB_all hkb).1))
    split at h
    · rename_i h61
      cases hv : value (r1.drop 1) with
      | none => rw [hv] at h; cases h
      | some u =>
        obtain ⟨v, r2⟩ := u
        rw [hv] at h
        simp only [Option.some.injEq, Prod.mk.injEq] at h
        obtain ⟨x, e2, hx⟩ := value_cut hv
        cases r1 with
        | nil => exact absurd h61 (by decide)
        | cons a b =>
          have ha : a = 61 := h61
          rw [List.drop_succ_cons, List.drop_zero] at e2
          refine ⟨z ++ k ++ 61 :: x, ?_, Q.app hQk (Q.cons (by decide) hx)⟩
          rw [ez, e1, ha, e2, h.2]; simp
    · simp only [Option.some.injEq, Prod.mk.injEq] at h
      exact ⟨z ++ k, by rw [ez, e1, h.2]; simp, hQk⟩
theorem pars_cut : ∀ (f : Nat) (acc : List Par) (s : List UInt8) (l : List Par) (r : List UInt8), parsF f acc s = some (l, r) → ∃ c, s = c ++ r ∧ Q c ∧ (c = [] ∨ c.headD 0 = 59)
  | 0, _, _, _, _, h => by cases h
  | f + 1, acc, s, l, r, h => by
    rw [parsF_succ] at h
    split at h
    · rename_i h59
      cases ho : one (s.drop 1) with
      | none => rw [ho] at h; cases h
      | some y =>
        obtain ⟨p, r1⟩ := y
        rw [ho] at h
        simp only at h
        obtain ⟨x, e1, hx⟩ := one_cut ho
        obtain ⟨y, e2, hy, _⟩ := pars_cut f _ _ _ _ h
        cases s with
        | nil => exact absurd h59 (by decide)
        | cons a b =>
          have ha : a = 59 := h59
          rw [List.drop_succ_cons, List.drop_zero] at e1
          exact ⟨59 :: (x ++ y), by rw [ha, e1, e2]; simp, Q.cons (by decide) (Q.app hx hy), .inr rfl⟩
    · simp only [Option.some.injEq, Prod.mk.injEq] at h
      exact ⟨[], by rw [h.2]; rfl, Q.nil, .inl rfl⟩
theorem next_cut {s : List UInt8} {x : Itm} {r : List UInt8} (h : next s = some (x, r)) : ∃ c, s = c ++ r ∧ Q c := by
  unfold next at h
  cases hv : value s with
  | none => rw [hv] at h; cases h
  | some y =>
    obtain ⟨v, r1⟩ := y
    rw [hv] at h
    simp only at h
    cases hp : pars r1 with
    | none => rw [hp] at h; cases h
    | some z =>
      obtain ⟨l, r2⟩ := z
      rw [hp] at h
      simp only [Option.some.injEq, Prod.mk.injEq] at h
      obtain ⟨a, e1, ha⟩ := value_cut hv
      obtain ⟨b, e2, hb, _⟩ := pars_cut _ _ _ _ _ hp
      exact ⟨a ++ b, by rw [e1, e2, h.2]; simp, Q.app ha hb⟩
/-- What trimS takes off is spaces. -/
theorem trimS_cut (s : List UInt8) : ∃ z y, s = z ++ trimS s ++ y ∧ (∀ b ∈ z, b = 32) ∧ ∀ b ∈ y, b = 32 := by
  obtain ⟨z, ez, hz⟩ := blk_cut s
  obtain ⟨y, ey, hy⟩ := blk_cut (blk s).reverse
  refine ⟨z, y.reverse, ?_, hz, fun b hb => hy b (by simpa using hb)⟩
  have e : blk s = trimS s ++ y.reverse := by
    have := congrArg List.reverse ey
    rw [List.reverse_reverse, List.reverse_append] at this
    exact this
  rw [List.append_assoc, ← e, ← ez]
/-- A comma that no quote stands ahead of: no item. -/
theorem parse_comma {a b : List UInt8} (h : ∀ c ∈ a, c ≠ 34) : Sf.parse (a ++ 44 :: b) = none := by
  cases hp : Sf.parse (a ++ 44 :: b) with
  | none => rfl
  | some x =>
    obtain ⟨_, hn⟩ := parse_ways hp
    obtain ⟨c, e, hc⟩ := next_cut hn
    rw [List.append_nil] at e
    obtain ⟨z, y, es, hz, hy⟩ := trimS_cut (a ++ 44 :: b)
    have s32 : ∀ {t : List UInt8}, (∀ b ∈ t, b = 32) → Q t := fun ht => Q.no fun b hb h => by rw [ht b hb] at h; revert h; decide
    rw [e] at es
    have hQ : Q (z ++ c ++ y) := Q.app (Q.app (s32 hz) hc) (s32 hy)
    have := hQ a b es.symm
    exact absurd rfl (h 34 this)
/-- Two lines of one name, the first without a quote: no item. -/
theorem twice_none {n a b : List UInt8} (h : ∀ c ∈ a, c ≠ 34) : word [⟨n, a⟩, ⟨n, b⟩] n = ([], []) := by
  unfold word
  rw [Hd.has_two, if_pos rfl, Hd.comb_two]
  rw [show Oct.trim a ++ [44, 32] ++ Oct.trim b = Oct.trim a ++ 44 :: (32 :: Oct.trim b) by simp]
  have ht : ∀ c ∈ Oct.trim a, c ≠ 34 := fun c hc => h c (by
    unfold Oct.trim at hc
    rw [List.mem_reverse] at hc
    have h1 := (List.dropWhile_suffix _).subset hc
    rw [List.mem_reverse] at h1
    exact (List.dropWhile_suffix _).subset h1)
  rw [parse_comma ht]; rfl
end Co
end Go.Proofs.YtgddmihojladfaaGreatDoor

/- Opener and embedder policies: the keyword is the text ahead of the first semicolon, blanks taken off. No program is named here. -/

namespace Go.Proofs.YtgddmihojladfaaGreatDoor
namespace Co
open Oct Sf

theorem value_tok {s : List UInt8} {v : Par} {r : List UInt8} (h : value s = some (v, r)) (hk : v.kind = 4) : s = v.text ++ r ∧ v.text ≠ [] ∧ allB tokI v.text = true := by
  have hnum : ∀ {sg : Int} {t : List UInt8}, num sg t = some (v, r) → False := fun hn => by
    rcases num_ways hn with ⟨d, _, _, _, _, e, _⟩ | ⟨d, m, _, _, _, _, _, _, _, e, _⟩ <;> (rw [e] at hk; unfold kv at hk; simp at hk)
  cases s with
  | nil => cases h
  | cons c s =>
    rw [value_cons] at h
    split at h
    · exact (hnum h).elim
    split at h
    · exact (hnum h).elim
    split at h
    · cases hz : quo s with
      | none => rw [hz] at h; cases h
      | some z =>
        rw [hz] at h
        simp only [Option.map_some, Option.some.injEq, Prod.mk.injEq] at h
        rw [← h.1] at hk; unfold kv at hk; simp at hk
    split at h
    · rename_i hl
      simp only [Option.some.injEq, Prod.mk.injEq] at h
      obtain ⟨rfl, rfl⟩ := h
      refine ⟨?_, by unfold kv; simp, ?_⟩
      · show c :: s = (c :: tw tokI s) ++ dw tokI s
        rw [List.cons_append, tw_dw]
      · show allB tokI (c :: tw tokI s) = true
        have h1 : tokI c.toNat = true := by
          unfold tokI tcharI
          rw [Bool.or_eq_true] at hl
          rcases hl with hl | hl
          · rw [hl]; simp
          · have : c = 42 := by simpa using hl
            rw [this]; decide
        have := tw_all tokI s
        unfold allB at this ⊢
        rw [List.all_cons, h1, this]; rfl
    split at h
    · split at h
      · simp only [Option.some.injEq, Prod.mk.injEq] at h
        rw [← h.1] at hk; unfold kv at hk; simp at hk
      · cases h
    split at h
    · split at h
      · simp only [Option.some.injEq, Prod.mk.injEq] at h
        rw [← h.1] at hk; unfold kv at hk; simp at hk
      · split at h
        · simp only [Option.some.injEq, Prod.mk.injEq] at h
          rw [← h.1] at hk; unfold kv at hk; simp at hk
        · cases h
    · cases h
/-- A token that is an item: what stands behind it begins with a semicolon. -/
theorem next_tok {s : List UInt8} {x : Itm} (h : next s = some (x, [])) (hk : x.kind = 4) : ∃ r, s = x.text ++ r ∧ x.text ≠ [] ∧ allB tokI x.text = true ∧ (r = [] ∨ ∃ r', r = 59 :: r') := by
  unfold next at h
  cases hv : value s with
  | none => rw [hv] at h; cases h
  | some y =>
    obtain ⟨v, r1⟩ := y
    rw [hv] at h
    simp only at h
    cases hp : pars r1 with
    | none => rw [hp] at h; cases h
    | some z =>
      obtain ⟨l, r2⟩ := z
      rw [hp] at h
      simp only [Option.some.injEq, Prod.mk.injEq] at h
      obtain ⟨rfl, rfl⟩ := h
      obtain ⟨e, h1, h2⟩ := value_tok hv hk
      obtain ⟨c, e2, _, hc⟩ := pars_cut _ _ _ _ _ hp
      rw [List.append_nil] at e2
      refine ⟨r1, e, h1, h2, ?_⟩
      rw [e2]
      rcases hc with hc | hc
      · exact .inl hc
      · cases c with
        | nil => exact .inl rfl
        | cons a b =>
          have : a = 59 := hc
          exact .inr ⟨b, by rw [this]⟩

/-! ### blanks, semicolons -/
theorem trim_cut (s : List UInt8) : ∃ a b, s = a ++ Oct.trim s ++ b ∧ (∀ c ∈ a, blankI c.toNat = true) ∧ ∀ c ∈ b, blankI c.toNat = true := by
  have hw : ∀ t : List UInt8, ∀ c ∈ t.takeWhile (fun b => blankI b.toNat), blankI c.toNat = true := fun t c hc => List.all_eq_true.1 (List.all_takeWhile (p := fun b : UInt8 => blankI b.toNat) (l := t)) c hc
  refine ⟨s.takeWhile fun b => blankI b.toNat, ((s.dropWhile fun b => blankI b.toNat).reverse.takeWhile fun b => blankI b.toNat).reverse, ?_, hw s, fun c hc => hw _ c (by simpa using hc)⟩
  unfold Oct.trim
  rw [List.append_assoc, ← List.reverse_append, List.takeWhile_append_dropWhile, List.reverse_reverse, List.takeWhile_append_dropWhile]
theorem trim_mid {a t b : List UInt8} (ha : ∀ c ∈ a, blankI c.toNat = true) (hb : ∀ c ∈ b, blankI c.toNat = true) (hne : t ≠ []) (ht : ∀ c ∈ t, blankI c.toNat = false) : Oct.trim (a ++ t ++ b) = t := by
  have h1 : ∀ (z u w : List UInt8), (∀ c ∈ z, blankI c.toNat = true) → u ≠ [] → (∀ c ∈ u, blankI c.toNat = false) → (z ++ u ++ w).dropWhile (fun b => blankI b.toNat) = u ++ w := by
    intro z u w hz hu hub
    rw [List.append_assoc, List.dropWhile_append_of_pos hz]
    cases u with
    | nil => exact absurd rfl hu
    | cons d u => rw [List.cons_append, List.dropWhile_cons, if_neg (by rw [hub d (by simp)]; decide)]
  unfold Oct.trim
  rw [h1 a t b ha hne ht]
  have h2 := h1 b.reverse t.reverse [] (fun c hc => hb c (by simpa using hc)) (by simpa using hne) (fun c hc => ht c (by simpa using hc))
  rw [List.append_nil, List.append_nil] at h2
  rw [List.reverse_append, h2, List.reverse_reverse]
def semiI (x : Int) : Bool := x == 59
theorem split_no {a : List UInt8} (h : ∀ c ∈ a, semiI c.toNat = false) : Oct.split semiI a = [a] := by
  have : ∀ (l : List UInt8) (x : List (List UInt8) × List UInt8), (∀ b ∈ l, semiI b.toNat = false) → l.foldl (Oct.stp semiI) x = (x.1, x.2 ++ l) := by
    intro l
    induction l with
    | nil => intro x _; simp
    | cons c l ih =>
      intro x hx
      rw [List.foldl_cons, ih _ (fun b hb => hx b (by simp [hb]))]
      unfold Oct.stp
      rw [if_neg (by rw [hx c (by simp)]; decide)]
      simp
  unfold Oct.split Oct.st
  rw [this a ([], []) h]; simp
set_option maxRecDepth 20000 in
theorem tok_plain {t : List UInt8} (h : allB tokI t = true) : (∀ c ∈ t, blankI c.toNat = false) ∧ ∀ c ∈ t, semiI c.toNat = false := by
  have key0 : ∀ n : Fin 256, tokI (n.val : Int) = true → blankI (n.val : Int) = false ∧ semiI (n.val : Int) = false := by decide
  have key : ∀ c : UInt8, tokI c.toNat = true → blankI c.toNat = false ∧ semiI c.toNat = false := fun c => key0 ⟨c.toNat, c.toNat_lt⟩
  exact ⟨fun c hc => (key c (List.all_eq_true.1 h c hc)).1, fun c hc => (key c (List.all_eq_true.1 h c hc)).2⟩
theorem blank_semi {c : UInt8} (h : blankI c.toNat = true) : semiI c.toNat = false := by
  unfold blankI at h; unfold semiI
  simp at h ⊢
  omega
/-- The keyword of a field is what stands ahead of its first semicolon. -/
theorem word_first {v : List UInt8} {x : Itm} (h : Sf.parse (Oct.trim v) = some x) (hk : x.kind = 4) : ∃ t : List UInt8 × List (List UInt8), Oct.split semiI v = t.1 :: t.2 ∧ Oct.trim t.1 = x.text := by
  obtain ⟨_, hn⟩ := parse_ways h
  obtain ⟨r, e, hne, htk, hr⟩ := next_tok hn hk
  obtain ⟨a1, b1, e1, ha1, hb1⟩ := trim_cut v
  obtain ⟨z, y, e2, hz, hy⟩ := trimS_cut (Oct.trim v)
  have hzb : ∀ c ∈ z, blankI c.toNat = true := fun c hc => by rw [hz c hc]; decide
  have hyb : ∀ c ∈ y, blankI c.toNat = true := fun c hc => by rw [hy c hc]; decide
  obtain ⟨ht1, ht2⟩ := tok_plain htk
  have hA : ∀ c ∈ a1 ++ z, blankI c.toNat = true := fun c hc => by
    rcases List.mem_append.1 hc with hc | hc
    · exact ha1 c hc
    · exact hzb c hc
  have hB : ∀ c ∈ y ++ b1, blankI c.toNat = true := fun c hc => by
    rcases List.mem_append.1 hc with hc | hc
    · exact hyb c hc
    · exact hb1 c hc
  have ev : v = (a1 ++ z) ++ (x.text ++ r) ++ (y ++ b1) := by
    rw [e] at e2
    rw [e2] at e1
    rw [e1]; simp
  rcases hr with rfl | ⟨r', rfl⟩
  · rw [List.append_nil] at ev
    have hno : ∀ c ∈ v, semiI c.toNat = false := fun c hc => by
      rw [ev] at hc
      rcases List.mem_append.1 hc with hc | hc
      · rcases List.mem_append.1 hc with hc | hc
        · exact blank_semi (hA c hc)
        · exact ht2 c hc
      · exact blank_semi (hB c hc)
    exact ⟨(v, []), split_no hno, by rw [ev]; exact trim_mid hA hB hne ht1⟩
  · have hno : ∀ c ∈ a1 ++ z ++ x.text, semiI c.toNat = false := fun c hc => by
      rcases List.mem_append.1 hc with hc | hc
      · exact blank_semi (hA c hc)
      · exact ht2 c hc
    have es : Oct.split semiI v = [a1 ++ z ++ x.text] ++ Oct.split semiI (r' ++ (y ++ b1)) := by
      rw [← split_no hno, ← split_glue semiI _ _ 59 (by decide), ev]; simp
    refine ⟨(a1 ++ z ++ x.text, Oct.split semiI (r' ++ (y ++ b1))), es, ?_⟩
    have := trim_mid (b := []) hA (by simp) hne ht1
    rwa [List.append_nil] at this
/-- A head of one line. -/
theorem coop_one (v : List UInt8) : coopL [⟨nO, v⟩] true = ⟨coopW (ofItem (Sf.parse (Oct.trim v))).1 false, (ofItem (Sf.parse (Oct.trim v))).2, 0, []⟩ := by
  have hv : ∀ n, Hd.foldB nO n = false → word [⟨nO, v⟩] n = ([], []) := fun n hf => word_none (by rw [Hd.vals_one]; simp [hf])
  have hw : word [⟨nO, v⟩] nO = ofItem (Sf.parse (Oct.trim v)) := by
    unfold word; rw [Hd.has_one, if_pos rfl, Hd.comb_one]
  unfold coopL coepL
  rw [if_pos rfl, if_pos rfl, hw, hv nOR (by decide), hv nE (by decide), hv nER (by decide)]
  rfl
theorem coep_one (v : List UInt8) : coepL [⟨nE, v⟩] true = ⟨coepW (ofItem (Sf.parse (Oct.trim v))).1, (ofItem (Sf.parse (Oct.trim v))).2, 0, []⟩ := by
  have hv : ∀ n, Hd.foldB nE n = false → word [⟨nE, v⟩] n = ([], []) := fun n hf => word_none (by rw [Hd.vals_one]; simp [hf])
  have hw : word [⟨nE, v⟩] nE = ofItem (Sf.parse (Oct.trim v)) := by
    unfold word; rw [Hd.has_one, if_pos rfl, Hd.comb_one]
  unfold coepL
  rw [if_pos rfl, hw, hv nER (by decide)]
  rfl
/-- The keyword of a line, none or what stands ahead of the first semicolon. -/
theorem word_split (v : List UInt8) : (ofItem (Sf.parse (Oct.trim v))).1 = [] ∨ ∃ t : List UInt8 × List (List UInt8), Oct.split semiI v = t.1 :: t.2 ∧ Oct.trim t.1 = (ofItem (Sf.parse (Oct.trim v))).1 := by
  cases hp : Sf.parse (Oct.trim v) with
  | none => exact .inl rfl
  | some x =>
    by_cases hk : x.kind = 4
    · obtain ⟨t, h1, h2⟩ := word_first hp hk
      exact .inr ⟨t, h1, by rw [h2]; show _ = (if x.kind = 4 then (x.text, endp x.params) else ([], [])).1; rw [if_pos hk]⟩
    · exact .inl (by show (if x.kind = 4 then (x.text, endp x.params) else ([], [])).1 = []; rw [if_neg hk])
theorem coopW_ways (w : List UInt8) : coopW w false = 0 ∨ (coopW w false = 2 ∧ w = wSame) ∨ (coopW w false = 1 ∧ w = wPop) := by
  unfold coopW
  by_cases h : w = wSame
  · exact .inr (.inl ⟨by rw [if_pos h]; rfl, h⟩)
  · by_cases h2 : w = wPop
    · exact .inr (.inr ⟨by rw [if_neg h, if_pos h2], h2⟩)
    · exact .inl (by rw [if_neg h, if_neg h2])
theorem coepW_ways (w : List UInt8) : coepW w = 0 ∨ (coepW w = 2 ∧ w = wReq) ∨ (coepW w = 1 ∧ w = wCred) := by
  unfold coepW
  by_cases h : w = wReq
  · exact .inr (.inl ⟨by rw [if_pos h], h⟩)
  · by_cases h2 : w = wCred
    · exact .inr (.inr ⟨by rw [if_neg h, if_pos h2], h2⟩)
    · exact .inl (by rw [if_neg h, if_neg h2])
end Co
end Go.Proofs.YtgddmihojladfaaGreatDoor

/- A parameter's key stands once: so where reports go is told by the first parameter of that key. -/

namespace Go.Proofs.YtgddmihojladfaaGreatDoor
namespace Co

def isTo (p : Sf.Par) : Bool := p.key == kTo
theorem endp_no : ∀ {l : List Sf.Par} (to : List UInt8), (∀ p ∈ l, isTo p = false) → l.foldl (fun to p => if p.key == kTo && p.kind == 3 then p.text else to) to = to
  | [], _, _ => rfl
  | p :: l, to, h => by
    have hp : (p.key == kTo) = false := h p (by simp)
    rw [List.foldl_cons, hp]
    exact endp_no to fun q hq => h q (by simp [hq])
theorem endp_none {l : List Sf.Par} (h : ∀ p ∈ l, isTo p = false) : endp l = [] := endp_no [] h
theorem endp_split {a b : List Sf.Par} {p : Sf.Par} (h : (Sf.keys (a ++ p :: b)).Nodup) (hp : isTo p = true) : endp (a ++ p :: b) = if p.kind = 3 then p.text else [] := by
  have e : Sf.keys (a ++ p :: b) = Sf.keys a ++ p.key :: Sf.keys b := by simp [Sf.keys]
  rw [e, List.nodup_append, List.nodup_cons] at h
  obtain ⟨_, ⟨hb, _⟩, ha⟩ := h
  have ek : p.key = kTo := beq_iff_eq.1 hp
  have na : ∀ q ∈ a, isTo q = false := fun q hq => by
    cases hx : isTo q with
    | false => rfl
    | true => exact absurd ((beq_iff_eq.1 hx).trans ek.symm) (ha q.key (List.mem_map.2 ⟨q, hq, rfl⟩) p.key (by simp))
  have nb : ∀ q ∈ b, isTo q = false := fun q hq => by
    cases hx : isTo q with
    | false => rfl
    | true => exact absurd (List.mem_map.2 ⟨q, hq, (beq_iff_eq.1 hx).trans ek.symm⟩) hb
  unfold endp
  rw [List.foldl_append, endp_no [] na, List.foldl_cons, endp_no _ nb]
  have e1 : (p.key == kTo) = true := hp
  rw [e1, Bool.true_and]
  by_cases hk : p.kind = 3
  · rw [if_pos hk, if_pos (by rw [hk]; rfl)]
  · rw [if_neg hk, if_neg (by simpa using hk)]
theorem endp_at {l : List Sf.Par} (h : (Sf.keys l).Nodup) {i : Nat} (hi : i < l.length) (hp : isTo l[i] = true) : endp l = if l[i].kind = 3 then l[i].text else [] := by
  have e : l = l.take i ++ l[i] :: l.drop (i + 1) := by
    conv => lhs; rw [← List.take_append_drop i l, List.drop_eq_getElem_cons hi]
  generalize hx : l[i] = p at *
  rw [e] at h ⊢
  exact endp_split h hp
/-- Parameters that are read have each key once. -/
theorem parse_keys {s : List UInt8} {x : Sf.Itm} (h : Sf.parse s = some x) : (Sf.keys x.params).Nodup := by
  obtain ⟨_, _, hv, _⟩ := Sf.parse_ok h
  exact hv.nodup
theorem parse_nil : Sf.parse [] = none := by rfl
theorem comb_none {l : List Hd.Hdr} {n : List UInt8} (h : Hd.hasB l n = false) : Hd.comb l n = [] := by
  unfold Hd.hasB at h
  unfold Hd.comb
  have : Hd.vals l n = [] := by simpa using h
  rw [this]; rfl
/-- Whether a field is there or not, its text alone tells. -/
theorem word_comb (l : List Hd.Hdr) (n : List UInt8) : word l n = ofItem (Sf.parse (Hd.comb l n)) := by
  unfold word
  cases h : Hd.hasB l n with
  | true => rfl
  | false => rw [comb_none h, parse_nil]; rfl
/-! ### the numbers of words -/
def coepF (s : List UInt8) : Int := coepW s
def coopF (p : Bool) (s : List UInt8) : Int := coopW s p
end Co
end Go.Proofs.YtgddmihojladfaaGreatDoor
