/- Opener and embedder policies: a comma that no quote stands ahead of ends no item; the word ahead of the first semicolon. No program is named here. -/
import Derived.Test.YtgddmihojladfaaGreatDoorCoMath
import Derived.Test.YtgddmihojladfaaGreatDoorOctAll
namespace Go.Proofs.YtgddmihojladfaaGreatDoor
namespace Co
open Oct Sf

/-! ### a comma is within quotes -/
/-- Ahead of each comma stands a quote. -/
def Q (c : List UInt8) : Prop := ∀ p q, c = p ++ 44 :: q → 34 ∈ p
theorem Q.nil : Q [] := fun p q h => by simp at h
theorem Q.no {c : List UInt8} (h : ∀ b ∈ c, b ≠ 44) : Q c := fun p q e => absurd rfl (h 44 (by rw [e]; simp))
theorem Q.quote (t : List UInt8) : Q (34 :: t) := fun p q e => by
  cases p with
  | nil => simp at e
  | cons a p =>
    rw [List.cons_append, List.cons.injEq] at e
    rw [← e.1]; simp
theorem Q.app {a b : List UInt8} (ha : Q a) (hb : Q b) : Q (a ++ b) := fun p q e => by
  rcases List.append_eq_append_iff.1 e with ⟨x, rfl, h2⟩ | ⟨x, rfl, h2⟩
  · exact List.mem_append_right _ (hb x q h2)
  · cases x with
    | nil =>
      rw [List.nil_append] at h2
      have := hb [] q h2.symm
      simp at this
    | cons d x =>
      rw [List.cons_append, List.cons.injEq] at h2
      exact ha p x (by rw [h2.1])
theorem Q.cons {c : UInt8} {a : List UInt8} (hc : c ≠ 44) (ha : Q a) : Q (c :: a) := by
  have := Q.app (a := [c]) (b := a) (Q.no (by simpa using hc)) ha
  simpa using this
theorem no_all {p : Int → Bool} (hp : p 44 = false) {a : List UInt8} (h : allB p a = true) : ∀ b ∈ a, b ≠ 44 := fun b hb e => by
  have := List.all_eq_true.1 h b hb
  rw [e] at this
  rw [show ((44 : UInt8).toNat : Int) = 44 from rfl, hp] at this
  cases this
theorem tok44 : tokI 44 = false := by decide
theorem base44 : baseI 44 = false := by decide
theorem key44 : keyI 44 = false := by decide
theorem dig44 : digitI 44 = false := by decide
theorem num_cut {sg : Int} {s : List UInt8} {v : Par} {r : List UInt8} (h : num sg s = some (v, r)) : ∃ c, s = c ++ r ∧ Q c := by
  rcases num_ways h with ⟨d, hd, _, _, e, _⟩ | ⟨d, m, hd, _, _, hm, _, _, e, _⟩
  · exact ⟨d, e, Q.no (no_all dig44 hd)⟩
  · exact ⟨d ++ 46 :: m, by rw [e]; simp, Q.app (Q.no (no_all dig44 hd)) (Q.cons (by decide) (Q.no (no_all dig44 hm)))⟩
theorem value_cut {s : List UInt8} {v : Par} {r : List UInt8} (h : value s = some (v, r)) : ∃ c, s = c ++ r ∧ Q c := by
  cases s with
  | nil => cases h
  | cons c s =>
    rw [value_cons] at h
    split at h
    · rename_i h45
      obtain ⟨x, e, hq⟩ := num_cut h
      exact ⟨c :: x, by rw [e]; rfl, Q.cons (by rw [h45]; decide) hq⟩
    split at h
    · exact num_cut h
    split at h
    · rename_i h34
      cases hz : quo s with
      | none => rw [hz] at h; cases h
      | some z =>
        obtain ⟨t, r1⟩ := z
        rw [hz] at h
        simp only [Option.map_some, Option.some.injEq, Prod.mk.injEq] at h
        obtain ⟨e, _⟩ := quo_ways s t r1 hz
        rw [h.2] at e
        exact ⟨34 :: (esc t ++ [34]), by rw [h34, e]; simp, Q.quote _⟩
    split at h
    · rename_i hl
      simp only [Option.some.injEq, Prod.mk.injEq] at h
      refine ⟨c :: tw tokI s, by rw [← h.2, List.cons_append, tw_dw], Q.cons (fun e => by rw [e] at hl; revert hl; decide) (Q.no (no_all tok44 (tw_all tokI s)))⟩
    split at h
    · rename_i h58
      split at h
      · rename_i hd
        simp only [Option.some.injEq, Prod.mk.injEq] at h
        refine ⟨c :: (tw baseI s ++ [58]), ?_, Q.cons (by rw [h58]; decide) (Q.app (Q.no (no_all base44 (tw_all baseI s))) (Q.no (by simp)))⟩
        have e := tw_dw baseI s
        cases hw : dw baseI s with
        | nil => rw [hw] at hd; exact absurd hd (by decide)
        | cons a b =>
          have ha : a = 58 := by rw [hw] at hd; exact hd
          rw [hw] at e h
          rw [List.cons_append, ← h.2]
          exact congrArg (c :: ·) (e.symm.trans (by rw [ha]; simp))
      · cases h
    split at h
    · rename_i h63
      cases s with
      | nil => rw [if_neg (by decide), if_neg (by decide)] at h; cases h
      | cons a b =>
        split at h
        · rename_i h1
          simp only [Option.some.injEq, Prod.mk.injEq, List.drop_succ_cons, List.drop_zero] at h
          have ha : a = 48 := h1
          exact ⟨[c, a], by rw [← h.2]; rfl, Q.no (by rw [h63, ha]; simp)⟩
        · split at h
          · rename_i h1
            simp only [Option.some.injEq, Prod.mk.injEq, List.drop_succ_cons, List.drop_zero] at h
            have ha : a = 49 := h1
            exact ⟨[c, a], by rw [← h.2]; rfl, Q.no (by rw [h63, ha]; simp)⟩
          · cases h
    · cases h
theorem blk_Q (s : List UInt8) : ∃ z, s = z ++ blk s ∧ Q z := by
  obtain ⟨z, e, hz⟩ := blk_cut s
  exact ⟨z, e, Q.no fun b hb h => by rw [hz b hb] at h; revert h; decide⟩
theorem one_cut {s : List UInt8} {p : Par} {r : List UInt8} (h : one s = some (p, r)) : ∃ c, s = c ++ r ∧ Q c := by
  obtain ⟨z, ez, hz⟩ := blk_Q s
  unfold one at h
  cases hk : Sf.keyOf (blk s) with
  | none => rw [hk] at h; cases h
  | some y =>
    obtain ⟨k, r1⟩ := y
    rw [hk] at h
    simp only at h
    obtain ⟨e1, hkb, _⟩ := keyOf_ways hk
    have hQk : Q (z ++ k) := Q.app hz (Q.no (no_all key44 (keyB_all hkb).1))
    split at h
    · rename_i h61
      cases hv : value (r1.drop 1) with
      | none => rw [hv] at h; cases h
      | some u =>
        obtain ⟨v, r2⟩ := u
        rw [hv] at h
        simp only [Option.some.injEq, Prod.mk.injEq] at h
        obtain ⟨x, e2, hx⟩ := value_cut hv
        cases r1 with
        | nil => exact absurd h61 (by decide)
        | cons a b =>
          have ha : a = 61 := h61
          rw [List.drop_succ_cons, List.drop_zero] at e2
          refine ⟨z ++ k ++ 61 :: x, ?_, Q.app hQk (Q.cons (by decide) hx)⟩
          rw [ez, e1, ha, e2, h.2]; simp
    · simp only [Option.some.injEq, Prod.mk.injEq] at h
      exact ⟨z ++ k, by rw [ez, e1, h.2]; simp, hQk⟩
theorem pars_cut : ∀ (f : Nat) (acc : List Par) (s : List UInt8) (l : List Par) (r : List UInt8), parsF f acc s = some (l, r) → ∃ c, s = c ++ r ∧ Q c ∧ (c = [] ∨ c.headD 0 = 59)
  | 0, _, _, _, _, h => by cases h
  | f + 1, acc, s, l, r, h => by
    rw [parsF_succ] at h
    split at h
    · rename_i h59
      cases ho : one (s.drop 1) with
      | none => rw [ho] at h; cases h
      | some y =>
        obtain ⟨p, r1⟩ := y
        rw [ho] at h
        simp only at h
        obtain ⟨x, e1, hx⟩ := one_cut ho
        obtain ⟨y, e2, hy, _⟩ := pars_cut f _ _ _ _ h
        cases s with
        | nil => exact absurd h59 (by decide)
        | cons a b =>
          have ha : a = 59 := h59
          rw [List.drop_succ_cons, List.drop_zero] at e1
          exact ⟨59 :: (x ++ y), by rw [ha, e1, e2]; simp, Q.cons (by decide) (Q.app hx hy), .inr rfl⟩
    · simp only [Option.some.injEq, Prod.mk.injEq] at h
      exact ⟨[], by rw [h.2]; rfl, Q.nil, .inl rfl⟩
theorem next_cut {s : List UInt8} {x : Itm} {r : List UInt8} (h : next s = some (x, r)) : ∃ c, s = c ++ r ∧ Q c := by
  unfold next at h
  cases hv : value s with
  | none => rw [hv] at h; cases h
  | some y =>
    obtain ⟨v, r1⟩ := y
    rw [hv] at h
    simp only at h
    cases hp : pars r1 with
    | none => rw [hp] at h; cases h
    | some z =>
      obtain ⟨l, r2⟩ := z
      rw [hp] at h
      simp only [Option.some.injEq, Prod.mk.injEq] at h
      obtain ⟨a, e1, ha⟩ := value_cut hv
      obtain ⟨b, e2, hb, _⟩ := pars_cut _ _ _ _ _ hp
      exact ⟨a ++ b, by rw [e1, e2, h.2]; simp, Q.app ha hb⟩
/-- What trimS takes off is spaces. -/
theorem trimS_cut (s : List UInt8) : ∃ z y, s = z ++ trimS s ++ y ∧ (∀ b ∈ z, b = 32) ∧ ∀ b ∈ y, b = 32 := by
  obtain ⟨z, ez, hz⟩ := blk_cut s
  obtain ⟨y, ey, hy⟩ := blk_cut (blk s).reverse
  refine ⟨z, y.reverse, ?_, hz, fun b hb => hy b (by simpa using hb)⟩
  have e : blk s = trimS s ++ y.reverse := by
    have := congrArg List.reverse ey
    rw [List.reverse_reverse, List.reverse_append] at this
    exact this
  rw [List.append_assoc, ← e, ← ez]
/-- A comma that no quote stands ahead of: no item. -/
theorem parse_comma {a b : List UInt8} (h : ∀ c ∈ a, c ≠ 34) : Sf.parse (a ++ 44 :: b) = none := by
  cases hp : Sf.parse (a ++ 44 :: b) with
  | none => rfl
  | some x =>
    obtain ⟨_, hn⟩ := parse_ways hp
    obtain ⟨c, e, hc⟩ := next_cut hn
    rw [List.append_nil] at e
    obtain ⟨z, y, es, hz, hy⟩ := trimS_cut (a ++ 44 :: b)
    have s32 : ∀ {t : List UInt8}, (∀ b ∈ t, b = 32) → Q t := fun ht => Q.no fun b hb h => by rw [ht b hb] at h; revert h; decide
    rw [e] at es
    have hQ : Q (z ++ c ++ y) := Q.app (Q.app (s32 hz) hc) (s32 hy)
    have := hQ a b es.symm
    exact absurd rfl (h 34 this)
/-- Two lines of one name, the first without a quote: no item. -/
theorem twice_none {n a b : List UInt8} (h : ∀ c ∈ a, c ≠ 34) : word [⟨n, a⟩, ⟨n, b⟩] n = ([], []) := by
  unfold word
  rw [Hd.has_two, if_pos rfl, Hd.comb_two]
  rw [show Oct.trim a ++ [44, 32] ++ Oct.trim b = Oct.trim a ++ 44 :: (32 :: Oct.trim b) by simp]
  have ht : ∀ c ∈ Oct.trim a, c ≠ 34 := fun c hc => h c (by
    unfold Oct.trim at hc
    rw [List.mem_reverse] at hc
    have h1 := (List.dropWhile_suffix _).subset hc
    rw [List.mem_reverse] at h1
    exact (List.dropWhile_suffix _).subset h1)
  rw [parse_comma ht]; rfl
end Co
end Go.Proofs.YtgddmihojladfaaGreatDoor
