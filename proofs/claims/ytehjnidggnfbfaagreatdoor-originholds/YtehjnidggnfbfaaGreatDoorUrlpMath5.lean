/- Laws of URLs: what stands at the ends, behind a sharp, and of schemes' own ports. No function of the program is walked here. -/
import Derived.Test.YtehjnidggnfbfaaGreatDoorUrlpMath4
namespace Go.Proofs.YtehjnidggnfbfaaGreatDoor
namespace Urp
open Oct

theorem parse_trim {l m : List UInt8} (h : trimU l = trimU m) : parse l = parse m := by unfold parse; rw [h]
theorem parse_ends (a l z : List UInt8) (ha : ∀ b ∈ a, outerB b = true) (hz : ∀ b ∈ z, outerB b = true) : parse (a ++ l ++ z) = parse l := by
  refine parse_trim ?_
  rw [trimU_right hz, trimU_left ha]
theorem endU_len (m : List UInt8) : (endU m).length ≤ m.length := (endU_pre m).length_le
/-- All from a sharp on changes nothing. -/
theorem parse_hash (l m : List UInt8) (hl : ∀ b ∈ l, outerB b = false ∧ b ≠ 35) (hc : hasB 58 l = true) (h1 : l.length ≤ 1000) (h2 : m.length ≤ 900) : parse (l ++ [35] ++ m) = parse l := by
  have e1 : trimU (l ++ [35] ++ m) = l ++ 35 :: endU m := by
    rw [trimU_mid m (by simp) (by
      intro b hb
      rcases List.mem_append.1 hb with hb | hb
      · exact (hl b hb).1
      · have : b = 35 := by simpa using hb
        rw [this]; decide)]
    simp
  have e2 : trimU l = l := trimU_vis (fun b hb => (hl b hb).1)
  obtain ⟨c1, c2⟩ := bef_app_has hc (35 :: endU m)
  have c3 : hasB 58 (l ++ 35 :: endU m) = true := by rw [has_app, hc]; rfl
  have c4 : decide (2000 < (l ++ 35 :: endU m).length) = false := by
    have := endU_len m
    exact decide_eq_false (by simp; omega)
  have c5 : decide (2000 < l.length) = false := decide_eq_false (by omega)
  have hna : No 35 (aft 58 l) := fun b hb => (hl b (aft_sub 58 l b hb)).2
  have c6 : bef 35 (aft 58 l ++ 35 :: endU m) = bef 35 (aft 58 l) := by rw [bef_app hna, bef_hit, List.append_nil, bef_no hna]
  unfold parse
  rw [e1, e2]
  unfold cutS
  rw [c1, c2, c3, c4, c5, hc]
  cases schemeB (lower (bef 58 l)) with
  | false => rfl
  | true =>
    cases knownB (lower (bef 58 l)) with
    | false => rfl
    | true =>
      simp only [Bool.not_true, Bool.or_false, Bool.false_eq_true, if_false, if_true]
      rw [c6]
theorem split_two {l : List UInt8} (h : hasB 58 l = true) : 1 < (split (fun x => x == 58) l).length := by
  have e := cut_join h
  have e2 : l = bef 58 l ++ [58] ++ aft 58 l := by simpa using e
  rw [e2, split_glue (fun x => x == 58) _ _ 58 (by rfl), List.length_append]
  have h1 := split_pos (fun x => x == 58) (bef 58 l)
  have h2 := split_pos (fun x => x == 58) (aft 58 l)
  omega
theorem split_none1 {l : List UInt8} (h : hasB 58 l = false) : (split (fun x => x == 58) l).length = 1 := by
  rw [Hst.split_one _ l ?_]
  · rfl
  · intro b hb
    have := has_no h b hb
    rw [beq_eq_false_iff_ne]
    intro hc
    exact this (UInt8.toNat_inj.1 (by have e : b.toNat = 58 := by omega
                                      rw [e]; rfl))
theorem parse_nocolon {l : List UInt8} (hl : ∀ b ∈ l, outerB b = false) (h : hasB 58 l = false) : parse l = .error 30 := by
  unfold parse
  rw [trimU_vis hl]
  unfold cutS
  rw [h]; simp

/-! ### schemes and their own ports -/
/-- A path, or a query, or nothing, behind an authority. -/
def Tail (p : List UInt8) : Prop := p = [] ∨ (∃ r, p = 47 :: r) ∨ ∃ r, p = 63 :: r
theorem tail_end {p : List UInt8} (h : Tail p) : Tail (endU p) := by
  have key : ∀ (c : UInt8) (r : List UInt8), outerB c = false → ∃ r', endU (c :: r) = c :: r' := by
    intro c r hc
    unfold endU
    rw [List.reverse_cons]
    by_cases hx : ∃ y ∈ r.reverse, outerB y = false
    · rw [dw_app_ne _ _ hx, List.reverse_append]
      exact ⟨_, rfl⟩
    · have hall : ∀ y ∈ r.reverse, outerB y = true := fun y hy => by
        cases he : outerB y with
        | true => rfl
        | false => exact absurd ⟨y, hy, he⟩ hx
      rw [List.dropWhile_append_of_pos hall, List.dropWhile_cons_of_neg (by rw [hc]; simp)]
      exact ⟨[], rfl⟩
  rcases h with rfl | ⟨r, rfl⟩ | ⟨r, rfl⟩
  · exact .inl rfl
  · obtain ⟨r', h⟩ := key 47 r (by decide)
    exact .inr (.inl ⟨r', h⟩)
  · obtain ⟨r', h⟩ := key 63 r (by decide)
    exact .inr (.inr ⟨r', h⟩)
theorem tail_bef {p : List UInt8} (h : Tail p) : Tail (bef 35 p) := by
  have e : ∀ (c : UInt8) r, c ≠ 35 → bef 35 (c :: r) = c :: bef 35 r := fun c r hc => by simp [bef, hc]
  rcases h with rfl | ⟨r, rfl⟩ | ⟨r, rfl⟩
  · exact .inl rfl
  · exact .inr (.inl ⟨_, e 47 r (by decide)⟩)
  · exact .inr (.inr ⟨_, e 63 r (by decide)⟩)
/-- What web makes of an authority and what stands behind. -/
theorem web_tail (s au p : List UInt8) (h47 : No 47 au) (h63 : No 63 au) (hp : Tail p) :
    web s ([47, 47] ++ (au ++ p)) = if hasB 64 au then .error 30 else match Hst.parse (bef 58 au) with
      | none => .error 20
      | some h => match portOf s (aft 58 au) with
        | none => .error 32
        | some x => .ok ⟨s, h, x, pathOf (aft 47 (bef 63 p)), hasB 63 p, aft 63 p, []⟩ := by
  have e1 : begB [47, 47] ([47, 47] ++ (au ++ p)) = true := rfl
  have e2 : ([47, 47] ++ (au ++ p)).drop 2 = au ++ p := rfl
  have e3 : bef 63 (au ++ p) = au ++ bef 63 p := bef_app h63 p
  have e4 : bef 47 (au ++ bef 63 p) = au := by
    rw [bef_app h47]
    rcases hp with rfl | ⟨r, rfl⟩ | ⟨r, rfl⟩
    · simp [bef]
    · have : bef 63 (47 :: r) = 47 :: bef 63 r := by simp [bef]
      rw [this, bef_hit, List.append_nil]
    · rw [bef_hit]; simp [bef]
  have e5 : aft 47 (au ++ bef 63 p) = aft 47 (bef 63 p) := aft_app h47 _
  have e6 : hasB 63 (au ++ p) = hasB 63 p := by rw [has_app, no_has h63]; rfl
  have e7 : aft 63 (au ++ p) = aft 63 p := aft_app h63 p
  unfold web
  rw [e1, if_pos rfl, e2, e3, e4, e5, e6, e7]
  rfl
theorem vis_app (a b : List UInt8) : visB (a ++ b) = (visB a && visB b) := by unfold visB allB; rw [List.all_append]
/-- A text that begins with a scheme of the net, great letters let in, an authority, and what stands behind. -/
theorem parse_url (S s au p : List UInt8) (hS : ∀ b ∈ S, outerB b = false ∧ b ≠ 58) (hlow : lower S = s) (hs : s = sHttp ∨ s = sHttps) (ha : ∀ b ∈ au, outerB b = false ∧ b ≠ 35 ∧ b ≠ 47 ∧ b ≠ 63) (hl : (S ++ [58, 47, 47] ++ au ++ p).length ≤ 2000) :
    parse (S ++ [58, 47, 47] ++ au ++ p) = if visB au && visB (bef 35 (endU p)) then web s ([47, 47] ++ (au ++ bef 35 (endU p))) else .error 30 := by
  have hn : netB s = true := by rcases hs with rfl | rfl <;> decide
  have hsc : schemeB s = true := by rcases hs with rfl | rfl <;> decide
  have hk : knownB s = true := by rcases hs with rfl | rfl <;> decide
  have e1 : trimU (S ++ [58, 47, 47] ++ au ++ p) = S ++ 58 :: ([47, 47] ++ (au ++ endU p)) := by
    rw [trimU_mid p (by simp) (by
      intro b hb
      rcases List.mem_append.1 hb with hb | hb
      · rcases List.mem_append.1 hb with hb | hb
        · exact (hS b hb).1
        · have : b = 58 ∨ b = 47 := by simpa using hb
          rcases this with rfl | rfl <;> decide
      · exact (ha b hb).1)]
    simp
  have hno : No 58 S := fun b hb => (hS b hb).2
  have e2 : bef 58 (S ++ 58 :: ([47, 47] ++ (au ++ endU p))) = S := by rw [bef_app hno, bef_hit, List.append_nil]
  have e3 : aft 58 (S ++ 58 :: ([47, 47] ++ (au ++ endU p))) = [47, 47] ++ (au ++ endU p) := by rw [aft_app hno, aft_hit]
  have e4 : hasB 58 (S ++ 58 :: ([47, 47] ++ (au ++ endU p))) = true := by rw [has_app, has_hit]; simp
  have e5 : decide (2000 < (S ++ 58 :: ([47, 47] ++ (au ++ endU p))).length) = false := by
    have := endU_len p
    refine decide_eq_false ?_
    simp only [List.length_append, List.length_cons, List.length_nil] at hl ⊢
    omega
  have h35 : No 35 ([47, 47] ++ au) := no_app (by unfold No; decide) (fun b hb => (ha b hb).2.1)
  have e6 : bef 35 ([47, 47] ++ (au ++ endU p)) = [47, 47] ++ (au ++ bef 35 (endU p)) := by
    rw [← List.append_assoc, bef_app h35, List.append_assoc]
  have e7 : visB ([47, 47] ++ (au ++ bef 35 (endU p))) = (visB au && visB (bef 35 (endU p))) := by
    rw [vis_app, vis_app]
    have : visB [47, 47] = true := by decide
    rw [this]; rfl
  unfold parse
  rw [e1]
  unfold cutS
  rw [e2, e3, e4, e5, hlow, hsc, hk]
  simp only [Bool.not_true, Bool.or_false, Bool.false_eq_true, if_false, if_true]
  rw [e6, e7, hn]
  rfl
def p443 : List UInt8 := [58, 52, 52, 51]
def sHTTPS : List UInt8 := [72, 84, 84, 80, 83]
/-- Great letters, and the own port, change nothing. -/
theorem schemes (n p : List UInt8) (hn : ∀ b ∈ n, outerB b = false ∧ b ≠ 35 ∧ b ≠ 47 ∧ b ≠ 63 ∧ b ≠ 58) (hp : Tail p) (h1 : n.length ≤ 900) (h2 : p.length ≤ 900) :
    (∃ e, (e != 0) = true ∧ parse (sHttps ++ [58, 47, 47] ++ n ++ p) = .error e ∧ parse (sHTTPS ++ [58, 47, 47] ++ (n ++ p443) ++ p) = .error e ∧ parse (sHttp ++ [58, 47, 47] ++ (n ++ p443) ++ p) = .error e) ∨
    (∃ u c, parse (sHttps ++ [58, 47, 47] ++ n ++ p) = .ok u ∧ parse (sHTTPS ++ [58, 47, 47] ++ (n ++ p443) ++ p) = .ok u ∧ parse (sHttp ++ [58, 47, 47] ++ (n ++ p443) ++ p) = .ok c ∧ c.port = 443 ∧ c.path = u.path) := by
  have hn1 : ∀ b ∈ n, outerB b = false ∧ b ≠ 35 ∧ b ≠ 47 ∧ b ≠ 63 := fun b hb => ⟨(hn b hb).1, (hn b hb).2.1, (hn b hb).2.2.1, (hn b hb).2.2.2.1⟩
  have hn2 : ∀ b ∈ n ++ p443, outerB b = false ∧ b ≠ 35 ∧ b ≠ 47 ∧ b ≠ 63 := by
    intro b hb
    rcases List.mem_append.1 hb with hb | hb
    · exact hn1 b hb
    · have key : ∀ b ∈ p443, outerB b = false ∧ b ≠ 35 ∧ b ≠ 47 ∧ b ≠ 63 := by decide
      exact key b hb
  have l4 : p443.length = 4 := rfl
  have l5 : sHttps.length = 5 := rfl
  have l6 : sHTTPS.length = 5 := rfl
  have l7 : sHttp.length = 4 := rfl
  rw [parse_url sHttps sHttps n p (by decide) (by decide) (.inr rfl) hn1 (by simp only [List.length_append, List.length_cons, List.length_nil, l5]; omega),
    parse_url sHTTPS sHttps (n ++ p443) p (by decide) (by decide) (.inr rfl) hn2 (by simp only [List.length_append, List.length_cons, List.length_nil, l6, l4]; omega),
    parse_url sHttp sHttp (n ++ p443) p (by decide) (by decide) (.inl rfl) hn2 (by simp only [List.length_append, List.length_cons, List.length_nil, l7, l4]; omega)]
  have hv : visB (n ++ p443) = visB n := by
    rw [vis_app]
    have : visB p443 = true := by decide
    rw [this, Bool.and_true]
  rw [hv]
  have hp' : Tail (bef 35 (endU p)) := tail_bef (tail_end hp)
  obtain ⟨p', hpp⟩ : ∃ p', bef 35 (endU p) = p' := ⟨_, rfl⟩
  rw [hpp] at hp' ⊢
  cases hc : (visB n && visB p') with
  | false => exact .inl ⟨30, by decide, rfl, rfl, rfl⟩
  | true =>
    simp only [if_true]
    have m47 : No 47 n := fun b hb => (hn b hb).2.2.1
    have m63 : No 63 n := fun b hb => (hn b hb).2.2.2.1
    have m58 : No 58 n := fun b hb => (hn b hb).2.2.2.2
    have q47 : No 47 (n ++ p443) := no_app m47 (by unfold No; decide)
    have q63 : No 63 (n ++ p443) := no_app m63 (by unfold No; decide)
    rw [web_tail sHttps n p' m47 m63 hp', web_tail sHttps (n ++ p443) p' q47 q63 hp', web_tail sHttp (n ++ p443) p' q47 q63 hp']
    have a1 : hasB 64 (n ++ p443) = hasB 64 n := by
      rw [has_app]
      have : hasB 64 p443 = false := by decide
      rw [this, Bool.or_false]
    have a2 : bef 58 n = n := bef_no m58
    have a3 : aft 58 n = [] := aft_no m58
    have a4 : bef 58 (n ++ p443) = n := by
      have : p443 = 58 :: [52, 52, 51] := rfl
      rw [this, bef_app m58, bef_hit, List.append_nil]
    have a5 : aft 58 (n ++ p443) = [52, 52, 51] := by
      have : p443 = 58 :: [52, 52, 51] := rfl
      rw [this, aft_app m58, aft_hit]
    rw [a1, a2, a3, a4, a5]
    have b1 : portOf sHttps [] = some (-1) := rfl
    have b2 : portOf sHttps [52, 52, 51] = some (-1) := by decide
    have b3 : portOf sHttp [52, 52, 51] = some 443 := by decide
    cases hasB 64 n with
    | true => exact .inl ⟨30, by decide, rfl, rfl, rfl⟩
    | false =>
      simp only [Bool.false_eq_true, if_false]
      cases Hst.parse n with
      | none => exact .inl ⟨20, by decide, rfl, rfl, rfl⟩
      | some h =>
        simp only [b1, b2, b3]
        exact .inr ⟨_, _, rfl, rfl, rfl, rfl, rfl⟩
end Urp
end Go.Proofs.YtehjnidggnfbfaaGreatDoor
