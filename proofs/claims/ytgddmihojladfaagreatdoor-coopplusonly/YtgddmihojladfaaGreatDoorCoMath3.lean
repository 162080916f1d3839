/- Opener and embedder policies: the keyword is the text ahead of the first semicolon, blanks taken off. No program is named here. -/
import Derived.Test.YtgddmihojladfaaGreatDoorCoMath2
namespace Go.Proofs.YtgddmihojladfaaGreatDoor
namespace Co
open Oct Sf

theorem value_tok {s : List UInt8} {v : Par} {r : List UInt8} (h : value s = some (v, r)) (hk : v.kind = 4) : s = v.text ++ r ∧ v.text ≠ [] ∧ allB tokI v.text = true := by
  have hnum : ∀ {sg : Int} {t : List UInt8}, num sg t = some (v, r) → False := fun hn => by
    rcases num_ways hn with ⟨d, _, _, _, _, e, _⟩ | ⟨d, m, _, _, _, _, _, _, _, e, _⟩ <;> (rw [e] at hk; unfold kv at hk; simp at hk)
  cases s with
  | nil => cases h
  | cons c s =>
    rw [value_cons] at h
    split at h
    · exact (hnum h).elim
    split at h
    · exact (hnum h).elim
    split at h
    · cases hz : quo s with
      | none => rw [hz] at h; cases h
      | some z =>
        rw [hz] at h
        simp only [Option.map_some, Option.some.injEq, Prod.mk.injEq] at h
        rw [← h.1] at hk; unfold kv at hk; simp at hk
    split at h
    · rename_i hl
      simp only [Option.some.injEq, Prod.mk.injEq] at h
      obtain ⟨rfl, rfl⟩ := h
      refine ⟨?_, by unfold kv; simp, ?_⟩
      · show c :: s = (c :: tw tokI s) ++ dw tokI s
        rw [List.cons_append, tw_dw]
      · show allB tokI (c :: tw tokI s) = true
        have h1 : tokI c.toNat = true := by
          unfold tokI tcharI
          rw [Bool.or_eq_true] at hl
          rcases hl with hl | hl
          · rw [hl]; simp
          · have : c = 42 := by simpa using hl
            rw [this]; decide
        have := tw_all tokI s
        unfold allB at this ⊢
        rw [List.all_cons, h1, this]; rfl
    split at h
    · split at h
      · simp only [Option.some.injEq, Prod.mk.injEq] at h
        rw [← h.1] at hk; unfold kv at hk; simp at hk
      · cases h
    split at h
    · split at h
      · simp only [Option.some.injEq, Prod.mk.injEq] at h
        rw [← h.1] at hk; unfold kv at hk; simp at hk
      · split at h
        · simp only [Option.some.injEq, Prod.mk.injEq] at h
          rw [← h.1] at hk; unfold kv at hk; simp at hk
        · cases h
    · cases h
/-- A token that is an item: what stands behind it begins with a semicolon. -/
theorem next_tok {s : List UInt8} {x : Itm} (h : next s = some (x, [])) (hk : x.kind = 4) : ∃ r, s = x.text ++ r ∧ x.text ≠ [] ∧ allB tokI x.text = true ∧ (r = [] ∨ ∃ r', r = 59 :: r') := by
  unfold next at h
  cases hv : value s with
  | none => rw [hv] at h; cases h
  | some y =>
    obtain ⟨v, r1⟩ := y
    rw [hv] at h
    simp only at h
    cases hp : pars r1 with
    | none => rw [hp] at h; cases h
    | some z =>
      obtain ⟨l, r2⟩ := z
      rw [hp] at h
      simp only [Option.some.injEq, Prod.mk.injEq] at h
      obtain ⟨rfl, rfl⟩ := h
      obtain ⟨e, h1, h2⟩ := value_tok hv hk
      obtain ⟨c, e2, _, hc⟩ := pars_cut _ _ _ _ _ hp
      rw [List.append_nil] at e2
      refine ⟨r1, e, h1, h2, ?_⟩
      rw [e2]
      rcases hc with hc | hc
      · exact .inl hc
      · cases c with
        | nil => exact .inl rfl
        | cons a b =>
          have : a = 59 := hc
          exact .inr ⟨b, by rw [this]⟩

/-! ### blanks, semicolons -/
theorem trim_cut (s : List UInt8) : ∃ a b, s = a ++ Oct.trim s ++ b ∧ (∀ c ∈ a, blankI c.toNat = true) ∧ ∀ c ∈ b, blankI c.toNat = true := by
  have hw : ∀ t : List UInt8, ∀ c ∈ t.takeWhile (fun b => blankI b.toNat), blankI c.toNat = true := fun t c hc => List.all_eq_true.1 (List.all_takeWhile (p := fun b : UInt8 => blankI b.toNat) (l := t)) c hc
  refine ⟨s.takeWhile fun b => blankI b.toNat, ((s.dropWhile fun b => blankI b.toNat).reverse.takeWhile fun b => blankI b.toNat).reverse, ?_, hw s, fun c hc => hw _ c (by simpa using hc)⟩
  unfold Oct.trim
  rw [List.append_assoc, ← List.reverse_append, List.takeWhile_append_dropWhile, List.reverse_reverse, List.takeWhile_append_dropWhile]
theorem trim_mid {a t b : List UInt8} (ha : ∀ c ∈ a, blankI c.toNat = true) (hb : ∀ c ∈ b, blankI c.toNat = true) (hne : t ≠ []) (ht : ∀ c ∈ t, blankI c.toNat = false) : Oct.trim (a ++ t ++ b) = t := by
  have h1 : ∀ (z u w : List UInt8), (∀ c ∈ z, blankI c.toNat = true) → u ≠ [] → (∀ c ∈ u, blankI c.toNat = false) → (z ++ u ++ w).dropWhile (fun b => blankI b.toNat) = u ++ w := by
    intro z u w hz hu hub
    rw [List.append_assoc, List.dropWhile_append_of_pos hz]
    cases u with
    | nil => exact absurd rfl hu
    | cons d u => rw [List.cons_append, List.dropWhile_cons, if_neg (by rw [hub d (by simp)]; decide)]
  unfold Oct.trim
  rw [h1 a t b ha hne ht]
  have h2 := h1 b.reverse t.reverse [] (fun c hc => hb c (by simpa using hc)) (by simpa using hne) (fun c hc => ht c (by simpa using hc))
  rw [List.append_nil, List.append_nil] at h2
  rw [List.reverse_append, h2, List.reverse_reverse]
def semiI (x : Int) : Bool := x == 59
theorem split_no {a : List UInt8} (h : ∀ c ∈ a, semiI c.toNat = false) : Oct.split semiI a = [a] := by
  have : ∀ (l : List UInt8) (x : List (List UInt8) × List UInt8), (∀ b ∈ l, semiI b.toNat = false) → l.foldl (Oct.stp semiI) x = (x.1, x.2 ++ l) := by
    intro l
    induction l with
    | nil => intro x _; simp
    | cons c l ih =>
      intro x hx
      rw [List.foldl_cons, ih _ (fun b hb => hx b (by simp [hb]))]
      unfold Oct.stp
      rw [if_neg (by rw [hx c (by simp)]; decide)]
      simp
  unfold Oct.split Oct.st
  rw [this a ([], []) h]; simp
set_option maxRecDepth 20000 in
theorem tok_plain {t : List UInt8} (h : allB tokI t = true) : (∀ c ∈ t, blankI c.toNat = false) ∧ ∀ c ∈ t, semiI c.toNat = false := by
  have key0 : ∀ n : Fin 256, tokI (n.val : Int) = true → blankI (n.val : Int) = false ∧ semiI (n.val : Int) = false := by decide
  have key : ∀ c : UInt8, tokI c.toNat = true → blankI c.toNat = false ∧ semiI c.toNat = false := fun c => key0 ⟨c.toNat, c.toNat_lt⟩
  exact ⟨fun c hc => (key c (List.all_eq_true.1 h c hc)).1, fun c hc => (key c (List.all_eq_true.1 h c hc)).2⟩
theorem blank_semi {c : UInt8} (h : blankI c.toNat = true) : semiI c.toNat = false := by
  unfold blankI at h; unfold semiI
  simp at h ⊢
  omega
/-- The keyword of a field is what stands ahead of its first semicolon. -/
theorem word_first {v : List UInt8} {x : Itm} (h : Sf.parse (Oct.trim v) = some x) (hk : x.kind = 4) : ∃ t : List UInt8 × List (List UInt8), Oct.split semiI v = t.1 :: t.2 ∧ Oct.trim t.1 = x.text := by
  obtain ⟨_, hn⟩ := parse_ways h
  obtain ⟨r, e, hne, htk, hr⟩ := next_tok hn hk
  obtain ⟨a1, b1, e1, ha1, hb1⟩ := trim_cut v
  obtain ⟨z, y, e2, hz, hy⟩ := trimS_cut (Oct.trim v)
  have hzb : ∀ c ∈ z, blankI c.toNat = true := fun c hc => by rw [hz c hc]; decide
  have hyb : ∀ c ∈ y, blankI c.toNat = true := fun c hc => by rw [hy c hc]; decide
  obtain ⟨ht1, ht2⟩ := tok_plain htk
  have hA : ∀ c ∈ a1 ++ z, blankI c.toNat = true := fun c hc => by
    rcases List.mem_append.1 hc with hc | hc
    · exact ha1 c hc
    · exact hzb c hc
  have hB : ∀ c ∈ y ++ b1, blankI c.toNat = true := fun c hc => by
    rcases List.mem_append.1 hc with hc | hc
    · exact hyb c hc
    · exact hb1 c hc
  have ev : v = (a1 ++ z) ++ (x.text ++ r) ++ (y ++ b1) := by
    rw [e] at e2
    rw [e2] at e1
    rw [e1]; simp
  rcases hr with rfl | ⟨r', rfl⟩
  · rw [List.append_nil] at ev
    have hno : ∀ c ∈ v, semiI c.toNat = false := fun c hc => by
      rw [ev] at hc
      rcases List.mem_append.1 hc with hc | hc
      · rcases List.mem_append.1 hc with hc | hc
        · exact blank_semi (hA c hc)
        · exact ht2 c hc
      · exact blank_semi (hB c hc)
    exact ⟨(v, []), split_no hno, by rw [ev]; exact trim_mid hA hB hne ht1⟩
  · have hno : ∀ c ∈ a1 ++ z ++ x.text, semiI c.toNat = false := fun c hc => by
      rcases List.mem_append.1 hc with hc | hc
      · exact blank_semi (hA c hc)
      · exact ht2 c hc
    have es : Oct.split semiI v = [a1 ++ z ++ x.text] ++ Oct.split semiI (r' ++ (y ++ b1)) := by
      rw [← split_no hno, ← split_glue semiI _ _ 59 (by decide), ev]; simp
    refine ⟨(a1 ++ z ++ x.text, Oct.split semiI (r' ++ (y ++ b1))), es, ?_⟩
    have := trim_mid (b := []) hA (by simp) hne ht1
    rwa [List.append_nil] at this
/-- A head of one line. -/
theorem coop_one (v : List UInt8) : coopL [⟨nO, v⟩] true = ⟨coopW (ofItem (Sf.parse (Oct.trim v))).1 false, (ofItem (Sf.parse (Oct.trim v))).2, 0, []⟩ := by
  have hv : ∀ n, Hd.foldB nO n = false → word [⟨nO, v⟩] n = ([], []) := fun n hf => word_none (by rw [Hd.vals_one]; simp [hf])
  have hw : word [⟨nO, v⟩] nO = ofItem (Sf.parse (Oct.trim v)) := by
    unfold word; rw [Hd.has_one, if_pos rfl, Hd.comb_one]
  unfold coopL coepL
  rw [if_pos rfl, if_pos rfl, hw, hv nOR (by decide), hv nE (by decide), hv nER (by decide)]
  rfl
theorem coep_one (v : List UInt8) : coepL [⟨nE, v⟩] true = ⟨coepW (ofItem (Sf.parse (Oct.trim v))).1, (ofItem (Sf.parse (Oct.trim v))).2, 0, []⟩ := by
  have hv : ∀ n, Hd.foldB nE n = false → word [⟨nE, v⟩] n = ([], []) := fun n hf => word_none (by rw [Hd.vals_one]; simp [hf])
  have hw : word [⟨nE, v⟩] nE = ofItem (Sf.parse (Oct.trim v)) := by
    unfold word; rw [Hd.has_one, if_pos rfl, Hd.comb_one]
  unfold coepL
  rw [if_pos rfl, hw, hv nER (by decide)]
  rfl
/-- The keyword of a line, none or what stands ahead of the first semicolon. -/
theorem word_split (v : List UInt8) : (ofItem (Sf.parse (Oct.trim v))).1 = [] ∨ ∃ t : List UInt8 × List (List UInt8), Oct.split semiI v = t.1 :: t.2 ∧ Oct.trim t.1 = (ofItem (Sf.parse (Oct.trim v))).1 := by
  cases hp : Sf.parse (Oct.trim v) with
  | none => exact .inl rfl
  | some x =>
    by_cases hk : x.kind = 4
    · obtain ⟨t, h1, h2⟩ := word_first hp hk
      exact .inr ⟨t, h1, by rw [h2]; show _ = (if x.kind = 4 then (x.text, endp x.params) else ([], [])).1; rw [if_pos hk]⟩
    · exact .inl (by show (if x.kind = 4 then (x.text, endp x.params) else ([], [])).1 = []; rw [if_neg hk])
theorem coopW_ways (w : List UInt8) : coopW w false = 0 ∨ (coopW w false = 2 ∧ w = wSame) ∨ (coopW w false = 1 ∧ w = wPop) := by
  unfold coopW
  by_cases h : w = wSame
  · exact .inr (.inl ⟨by rw [if_pos h]; rfl, h⟩)
  · by_cases h2 : w = wPop
    · exact .inr (.inr ⟨by rw [if_neg h, if_pos h2], h2⟩)
    · exact .inl (by rw [if_neg h, if_neg h2])
theorem coepW_ways (w : List UInt8) : coepW w = 0 ∨ (coepW w = 2 ∧ w = wReq) ∨ (coepW w = 1 ∧ w = wCred) := by
  unfold coepW
  by_cases h : w = wReq
  · exact .inr (.inl ⟨by rw [if_pos h], h⟩)
  · by_cases h2 : w = wCred
    · exact .inr (.inr ⟨by rw [if_neg h, if_pos h2], h2⟩)
    · exact .inl (by rw [if_neg h, if_neg h2])
end Co
end Go.Proofs.YtgddmihojladfaaGreatDoor
