/- How the program reads a source expression, as plain functions of bytes, and that it is what the document reads. No program is named here. -/
import Derived.Test.YtinjkpbpkedfnaaGreatDoorCmRef2
namespace Go.Proofs.YtinjkpbpkedfnaaGreatDoor
namespace Cm
open Oct (lower digitI letterI numOk val)
open Urp (bef aft hasB No begB)

/-- Is a text a scheme? -/
def scB (s : List UInt8) : Bool := decide (0 < s.length) && decide (schN s = s.length)
/-- What stands ahead of the first colon or stroke. -/
def up (s : List UInt8) : List UInt8 := s.takeWhile fun b => !(b == 58 || b == 47)
def rst (s : List UInt8) : List UInt8 := s.drop (up s).length
theorem up_rst (s : List UInt8) : up s ++ rst s = s := by
  unfold rst up
  induction s with
  | nil => rfl
  | cons c r ih =>
    rw [List.takeWhile_cons]
    split
    · simp only [List.length_cons, List.drop_succ_cons, List.cons_append]; rw [ih]
    · rfl
/-- A host, perhaps a port, perhaps a path. -/
def tailS (sch h r : List UInt8) : Src :=
  if r.take 1 = [58] then
    if bef 47 (r.drop 1) = [42] then (if patB h then ⟨4, sch, h, -2⟩ else none_)
    else if numOk (bef 47 (r.drop 1)) 65535 = true then (if patB h then ⟨4, sch, h, val (bef 47 (r.drop 1))⟩ else none_) else none_
  else if patB h then ⟨4, sch, h, -1⟩ else none_
def hostP (s : List UInt8) : Src :=
  if (rst s).take 3 = [58, 47, 47] then
    if scB (up s) then tailS (up s) (up ((rst s).drop 3)) (rst ((rst s).drop 3)) else none_
  else tailS [] (up s) (rst s)

theorem up_cons (c : UInt8) (r : List UInt8) : up (c :: r) = if c = 58 ∨ c = 47 then [] else c :: up r := by
  unfold up
  rw [List.takeWhile_cons]
  by_cases h : c = 58 ∨ c = 47
  · rw [if_pos h]
    rcases h with rfl | rfl <;> rfl
  · rw [if_neg h]
    have h1 : (c == 58) = false := beq_eq_false_iff_ne.2 fun e => h (.inl e)
    have h2 : (c == 47) = false := beq_eq_false_iff_ne.2 fun e => h (.inr e)
    rw [h1, h2]; rfl
theorem rst_cons (c : UInt8) (r : List UInt8) : rst (c :: r) = if c = 58 ∨ c = 47 then c :: r else rst r := by
  unfold rst
  rw [up_cons]
  split <;> rfl
theorem bef_cons (d c : UInt8) (r : List UInt8) : bef d (c :: r) = if c = d then [] else c :: bef d r := by
  unfold bef
  rw [List.takeWhile_cons]
  by_cases h : c = d
  · rw [if_pos h, h]; simp
  · rw [if_neg h]
    have : (c != d) = true := by simpa using h
    rw [this]; rfl
theorem aft_cons (d c : UInt8) (r : List UInt8) : aft d (c :: r) = if c = d then r else aft d r := by
  unfold aft
  rw [List.dropWhile_cons]
  by_cases h : c = d
  · rw [if_pos h, h]; simp
  · rw [if_neg h]
    have : (c != d) = true := by simpa using h
    rw [this]; rfl
theorem hasB_cons (d c : UInt8) (r : List UInt8) : hasB d (c :: r) = (c == d || hasB d r) := by
  unfold hasB; rw [List.any_cons]
theorem cut_host : ∀ r : List UInt8, bef 58 (bef 47 r) = up r ∧ (hasB 58 (bef 47 r) = true ↔ (rst r).take 1 = [58]) ∧ ((rst r).take 1 = [58] → aft 58 (bef 47 r) = bef 47 ((rst r).drop 1))
  | [] => by refine ⟨rfl, ?_, ?_⟩ <;> simp [rst, up, bef, hasB]
  | c :: r => by
    obtain ⟨h1, h2, h3⟩ := cut_host r
    rw [up_cons, rst_cons]
    by_cases hs : c = 47
    · subst hs
      have hb : bef 47 (47 :: r) = [] := by rw [bef_cons, if_pos rfl]
      rw [hb, if_pos (.inr rfl), if_pos (.inr rfl)]
      refine ⟨rfl, ?_, ?_⟩ <;> simp [hasB]
    · rw [bef_cons, if_neg hs]
      by_cases hc : c = 58
      · subst hc
        rw [if_pos (.inl rfl), if_pos (.inl rfl)]
        refine ⟨by rw [bef_cons, if_pos rfl], by rw [hasB_cons]; simp, fun _ => by rw [aft_cons, if_pos rfl]; rfl⟩
      · have hn : ¬ (c = 58 ∨ c = 47) := fun h => h.elim hc hs
        rw [if_neg hn, if_neg hn, bef_cons, if_neg hc, h1, hasB_cons, aft_cons, if_neg hc]
        have : (c == 58) = false := beq_eq_false_iff_ne.2 hc
        rw [this, Bool.false_or]
        exact ⟨rfl, h2, h3⟩
theorem tail_host (sch r : List UInt8) : hostS sch r = tailS sch (up r) (rst r) := by
  obtain ⟨h1, h2, h3⟩ := cut_host r
  unfold hostS tailS
  simp only []
  rw [h1]
  by_cases h : (rst r).take 1 = [58]
  · rw [if_pos h, h3 h, h2.2 h]
    cases patB (up r) <;> simp
  · have hn : hasB 58 (bef 47 r) = false := by
      cases e : hasB 58 (bef 47 r) with
      | false => rfl
      | true => exact absurd (h2.1 e) h
    rw [if_neg h, hn]
    simp
theorem schN_cons (c : UInt8) (r : List UInt8) : schN (c :: r) = if letB c then 1 + (r.takeWhile schB).length else 0 := rfl
theorem schN_stop (p : List UInt8) (x : List UInt8) : schN (p ++ 58 :: x) = schN p := by
  cases p with
  | nil => rfl
  | cons c r => rw [List.cons_append, schN_cons, schN_cons, while_stop schB (by decide) x r]
theorem while_take (p : UInt8 → Bool) : ∀ r : List UInt8, r.take (r.takeWhile p).length = r.takeWhile p
  | [] => rfl
  | c :: r => by
    rw [List.takeWhile_cons]
    split
    · rw [List.length_cons, List.take_succ_cons, while_take p r]
    · rfl
theorem while_mem (p : UInt8 → Bool) : ∀ r : List UInt8, ∀ b ∈ r.takeWhile p, p b = true
  | [], b, h => by simp at h
  | c :: r, b, h => by
    rw [List.takeWhile_cons] at h
    split at h
    · rename_i hc
      rcases List.mem_cons.1 h with e | h
      · subst e; exact hc
      · exact while_mem p r b h
    · simp at h
theorem while_while (p : UInt8 → Bool) (r : List UInt8) : (r.takeWhile p).takeWhile p = r.takeWhile p := by
  have : ∀ l : List UInt8, (∀ b ∈ l, p b = true) → l.takeWhile p = l := by
    intro l
    induction l with
    | nil => intro _; rfl
    | cons c l ih =>
      intro h
      rw [List.takeWhile_cons, h c (by simp), if_pos rfl, ih fun b hb => h b (by simp [hb])]
  exact this _ (while_mem p r)
theorem schN_take (s : List UInt8) : schN (s.take (schN s)) = schN s := by
  cases s with
  | nil => rfl
  | cons c r =>
    cases hc : letB c with
    | false => rw [schN_cons, hc]; rfl
    | true =>
      rw [schN_cons, hc, if_pos rfl, Nat.add_comm, List.take_succ_cons, schN_cons, hc, if_pos rfl]
      rw [while_take, while_while, Nat.add_comm]
theorem sch_bytes (s : List UInt8) : ∀ b ∈ s.take (schN s), b ≠ 58 ∧ b ≠ 47 := by
  have hb : ∀ b : UInt8, schB b = true → b ≠ 58 ∧ b ≠ 47 := fun b h => ⟨fun e => by subst e; revert h; decide, fun e => by subst e; revert h; decide⟩
  cases s with
  | nil => intro b h; simp [schN] at h
  | cons c r =>
    rw [schN_cons]
    cases hc : letB c with
    | false => intro b h; simp at h
    | true =>
      rw [if_pos rfl, Nat.add_comm, List.take_succ_cons]
      intro b h
      rcases List.mem_cons.1 h with e | h
      · subst e
        refine hb _ ?_
        unfold letB at hc; unfold schB; rw [hc]; rfl
      · rw [while_take] at h
        exact hb b (while_mem schB r b h)
theorem up_app : ∀ (p x : List UInt8), (∀ b ∈ p, b ≠ 58 ∧ b ≠ 47) → up (p ++ 58 :: x) = p
  | [], x, _ => by rw [List.nil_append, up_cons, if_pos (.inl rfl)]
  | c :: p, x, h => by
    have hc := h c (by simp)
    rw [List.cons_append, up_cons, if_neg (fun e => e.elim hc.1 hc.2), up_app p x (fun b hb => h b (by simp [hb]))]
theorem rst_of {s p r : List UInt8} (h : up s = p) (e : s = p ++ r) : rst s = r := by
  unfold rst; rw [h, e]; simp
theorem three {d : List UInt8} (h : d.take 3 = [58, 47, 47]) : d = 58 :: 47 :: 47 :: d.drop 3 := by
  calc d = d.take 3 ++ d.drop 3 := (List.take_append_drop 3 d).symm
    _ = _ := by rw [h]; rfl
/-- The program reads what the document reads. -/
theorem host_parse (s : List UInt8) : hostS (if hasS s then s.take (schN s) else []) (if hasS s then s.drop (schN s + 3) else s) = hostP s := by
  by_cases hh : hasS s
  · obtain ⟨h0, h3⟩ := hh
    have hh : hasS s := ⟨h0, h3⟩
    have hd := three h3
    have hle := schN_le s
    have es : s = s.take (schN s) ++ s.drop (schN s) := (List.take_append_drop _ _).symm
    have hu : up s = s.take (schN s) := by
      have := up_app (s.take (schN s)) (47 :: 47 :: (s.drop (schN s)).drop 3) (sch_bytes s)
      rw [← hd, ← es] at this
      exact this
    have hr : rst s = s.drop (schN s) := rst_of hu es
    have hsc : scB (up s) = true := by
      unfold scB
      rw [hu, schN_take, List.length_take, Nat.min_eq_left hle]; simp [h0]
    rw [if_pos hh, if_pos hh]
    unfold hostP
    rw [hr, if_pos h3, hsc, if_pos rfl, List.drop_drop, tail_host, hu]
  · rw [if_neg hh, if_neg hh]
    unfold hostP
    by_cases h3 : (rst s).take 3 = [58, 47, 47]
    · have hd := three h3
      have hn : scB (up s) = false := by
        cases e : scB (up s) with
        | false => rfl
        | true =>
          refine absurd ?_ hh
          unfold scB at e
          rw [Bool.and_eq_true, decide_eq_true_eq, decide_eq_true_eq] at e
          obtain ⟨e0, e1⟩ := e
          have es := up_rst s
          rw [hd] at es
          have hN : schN s = (up s).length := by
            rw [← e1]; conv => lhs; rw [← es]
            exact schN_stop _ _
          refine ⟨by omega, ?_⟩
          rw [hN]; exact h3
      rw [if_pos h3, hn, if_neg (by simp), tail_host]
      unfold tailS
      rw [hd]
      simp [bef]
      rw [show numOk [] 65535 = false by decide]
      simp
    · rw [if_neg h3, tail_host]
/-- The whole of it. -/
theorem cut_scheme (s : List UInt8) : (∃ p, s = p ++ [58] ∧ scB p = true) ↔ (0 < schN s ∧ s.drop (schN s) = [58]) := by
  constructor
  · rintro ⟨p, rfl, h⟩
    unfold scB at h
    rw [Bool.and_eq_true, decide_eq_true_eq, decide_eq_true_eq] at h
    rw [schN_stop p [], h.2]
    exact ⟨h.1, by simp⟩
  · rintro ⟨h0, h1⟩
    refine ⟨s.take (schN s), by rw [← h1]; exact (List.take_append_drop _ _).symm, ?_⟩
    have hle := schN_le s
    unfold scB
    rw [schN_take, List.length_take, Nat.min_eq_left hle]; simp [h0]
theorem parse_code (s : List UInt8) : parseN s = if s = sSelf then ⟨1, [], [], 0⟩ else if s = [42] then ⟨2, [], [], 0⟩ else if s.drop (s.length - 1) = [58] ∧ scB (s.take (s.length - 1)) = true then ⟨3, s.take (s.length - 1), [], 0⟩ else hostP s := by
  unfold parseN
  split
  · rfl
  · split
    · rfl
    · rw [host_parse]
      by_cases h : 0 < schN s ∧ s.drop (schN s) = [58]
      · obtain ⟨p, e, hp⟩ := (cut_scheme s).2 h
        have hN : schN s = p.length := by
          rw [e, schN_stop p []]
          unfold scB at hp
          rw [Bool.and_eq_true, decide_eq_true_eq, decide_eq_true_eq] at hp
          exact hp.2
        have hl : s.length - 1 = p.length := by rw [e]; simp
        have ht : s.take p.length = p := by rw [e]; simp
        rw [if_pos h, if_pos ⟨by rw [hl, ← hN]; exact h.2, by rw [hl, ht]; exact hp⟩, hl, hN]
      · rw [if_neg h, if_neg]
        rintro ⟨h1, h2⟩
        refine h ((cut_scheme s).1 ⟨_, ?_, h2⟩)
        rw [← h1]; exact (List.take_append_drop _ _).symm

/-! ### a domain with a letter for each digit -/
def let1 (c : UInt8) : UInt8 := if digitI c.toNat then 97 else c
def lets (l : List UInt8) : List UInt8 := l.map let1
theorem lets_len (l : List UInt8) : (lets l).length = l.length := by unfold lets; simp
theorem let1_dot (c : UInt8) : (((let1 c).toNat : Int) == 46) = ((c.toNat : Int) == 46) := by
  unfold let1
  split
  · rename_i h
    have : 48 ≤ (c.toNat : Int) ∧ (c.toNat : Int) ≤ 57 := by simpa [digitI] using h
    have h1 : (((97 : UInt8).toNat : Int) == 46) = false := by decide
    have h2 : ((c.toNat : Int) == 46) = false := by rw [beq_eq_false_iff_ne]; omega
    rw [h1, h2]
  · rfl
theorem let1_lab (c : UInt8) : Hst.labI (let1 c).toNat = Hst.labI c.toNat := by
  unfold let1
  split
  · rename_i h
    unfold Hst.labI
    rw [h]; rfl
  · rfl
theorem let1_dig (c : UInt8) : digitI (let1 c).toNat = false := by
  unfold let1
  split
  · decide
  · rename_i h; simpa using h
theorem parts_lets (l : List UInt8) : Hst.parts (lets l) = (Hst.parts l).map lets := by
  have key : ∀ (l : List UInt8) (a : List (List UInt8)) (b : List UInt8), (lets l).foldl (Oct.stp fun x => x == 46) (a.map lets, lets b) = (((l.foldl (Oct.stp fun x => x == 46) (a, b)).1).map lets, lets (l.foldl (Oct.stp fun x => x == 46) (a, b)).2) := by
    intro l
    induction l with
    | nil => intro a b; rfl
    | cons c l ih =>
      intro a b
      have e : lets (c :: l) = let1 c :: lets l := rfl
      rw [e, List.foldl_cons, List.foldl_cons]
      have hs : Oct.stp (fun x => x == 46) (a.map lets, lets b) (let1 c) = (((Oct.stp (fun x => x == 46) (a, b) c).1).map lets, lets (Oct.stp (fun x => x == 46) (a, b) c).2) := by
        unfold Oct.stp
        dsimp only
        simp only [let1_dot]
        split
        · simp [lets]
        · simp [lets]
      rw [hs, ih]
  have := key l [] []
  unfold Hst.parts Oct.split Oct.st
  rw [show (List.map lets ([] : List (List UInt8)), lets []) = ([], []) from rfl] at this
  rw [this]
  simp
theorem lab_lets (l : List UInt8) : Hst.labelB (lets l) = Hst.labelB l := by
  unfold Hst.labelB
  rw [lets_len]
  have h1 : Oct.allB Hst.labI (lets l) = Oct.allB Hst.labI l := by
    unfold Oct.allB lets
    rw [List.all_map]
    congr 1
    funext b
    exact let1_lab b
  have h2 : (lets l).isEmpty = l.isEmpty := by cases l <;> rfl
  rw [h1, h2]
theorem dom_lets (l : List UInt8) : Hst.domB (lets l) = Hst.domB l := by
  unfold Hst.domB
  rw [lets_len, parts_lets, List.all_map]
  congr 2
  funext x
  exact lab_lets x
theorem lets_low {l : List UInt8} (h : ∀ b ∈ l, Oct.low1 b = b) : lower (lets l) = lets l := by
  refine lower_fix fun b hb => ?_
  unfold lets at hb
  obtain ⟨c, hc, rfl⟩ := List.mem_map.1 hb
  unfold let1
  split
  · decide
  · exact h c hc
/-- Is such a text a host? -/
theorem dom_host {l : List UInt8} (h : ∀ b ∈ l, Oct.low1 b = b) : (Hst.parse (lets l)).isSome = Hst.domB l := by
  unfold Hst.parse Hst.read
  rw [lets_low h, dom_lets]
  cases hd : Hst.domB l with
  | false => rfl
  | true =>
    have hdg : Hst.digB (Hst.last (lets l)) = false := by
      have hall : (Hst.parts l).all Hst.labelB = true := by
        unfold Hst.domB at hd
        rw [Bool.and_eq_true] at hd
        exact hd.2
      unfold Hst.last
      rw [parts_lets]
      obtain ⟨x, hx, e⟩ : ∃ x, x ∈ Hst.parts l ∧ (List.map lets (Hst.parts l)).getLastD [] = lets x := by
        obtain ⟨ys, y, e⟩ : ∃ ys y, Hst.parts l = ys ++ [y] := by
          rcases List.eq_nil_or_concat (Hst.parts l) with h | ⟨ys, y, h⟩
          · exact absurd h (Hst.parts_ne l)
          · exact ⟨ys, y, by simpa using h⟩
        exact ⟨y, by rw [e]; simp, by rw [e]; simp⟩
      rw [e]
      have hl := List.all_eq_true.1 hall x hx
      cases x with
      | nil => exact absurd hl (by decide)
      | cons c r =>
        unfold Hst.digB Oct.allB lets
        rw [List.map_cons, List.all_cons, let1_dig, Bool.false_and]
    rw [if_pos rfl, hdg]
    rfl
theorem pat_code (n : List UInt8) : patB n = (n == [42] || Hst.domB (if begB [42, 46] n then n.drop 2 else n)) := by
  unfold patB
  cases h : begB [42, 46] n with
  | false =>
    have : ¬ (2 < n.length ∧ n.take 2 = [42, 46]) := by
      rintro ⟨_, h2⟩
      have : begB [42, 46] n = true := by
        unfold begB
        rw [List.isPrefixOf_iff_prefix, List.prefix_iff_eq_take]
        exact h2.symm
      rw [h] at this; simp at this
    rw [if_neg this]
    rfl
  | true =>
    have h2 : n.take 2 = [42, 46] := by
      unfold begB at h
      rw [List.isPrefixOf_iff_prefix, List.prefix_iff_eq_take] at h
      exact h.symm
    by_cases hl : 2 < n.length
    · rw [if_pos ⟨hl, h2⟩]; rfl
    · have e : n = [42, 46] := by rw [← h2, List.take_of_length_le (by omega)]
      subst e
      decide
end Cm
end Go.Proofs.YtinjkpbpkedfnaaGreatDoor
