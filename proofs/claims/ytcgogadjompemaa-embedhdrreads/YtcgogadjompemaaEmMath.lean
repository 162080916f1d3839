/- Resource policies and frame options: plain functions and their laws; no program is named here. -/
import Derived.Test.YtcgogadjompemaaHdMath
namespace Go.Proofs.Ytcgogadjompemaa
namespace Em

def nX : List UInt8 := [120, 45, 102, 114, 97, 109, 101, 45, 111, 112, 116, 105, 111, 110, 115]
def nXG : List UInt8 := [88, 45, 70, 114, 97, 109, 101, 45, 79, 112, 116, 105, 111, 110, 115]
def nC : List UInt8 := [99, 114, 111, 115, 115, 45, 111, 114, 105, 103, 105, 110, 45, 114, 101, 115, 111, 117, 114, 99, 101, 45, 112, 111, 108, 105, 99, 121]
def wSO : List UInt8 := [115, 97, 109, 101, 45, 111, 114, 105, 103, 105, 110]
def wSS : List UInt8 := [115, 97, 109, 101, 45, 115, 105, 116, 101]
def wCO : List UInt8 := [99, 114, 111, 115, 115, 45, 111, 114, 105, 103, 105, 110]
def xD : List UInt8 := [100, 101, 110, 121]
def xS : List UInt8 := [115, 97, 109, 101, 111, 114, 105, 103, 105, 110]
def xA : List UInt8 := [97, 108, 108, 111, 119, 97, 108, 108]

/-- A resource policy, of its field. -/
def corpW (w : List UInt8) : Int := if w = wSO then 1 else if w = wSS then 2 else if w = wCO then 3 else 0
def corpL (l : List Hd.Hdr) : Int := corpW (Hd.comb l nC)
/-- Are there two words that are not the same? -/
def many (ws : List (List UInt8)) : Bool := ws.any fun a => ws.any fun b => a != b
/-- Frame options, of their words. -/
def xfoW (ws : List (List UInt8)) : Int :=
  if many ws = true then (if xD ∈ ws ∨ xS ∈ ws ∨ xA ∈ ws then 1 else 0)
  else if xD ∈ ws then 1 else if xS ∈ ws then 2 else if xA ∈ ws then 3 else 0
def xw (l : List Hd.Hdr) : List (List UInt8) := (Hd.partsL l nX).map Oct.lower
def xfoL (l : List Hd.Hdr) : Int := xfoW (xw l)

theorem low_X : Oct.lower nX = nX := by decide
theorem low_XG : Oct.lower nXG = nX := by decide
theorem low_C : Oct.lower nC = nC := by decide
theorem many_iff (ws : List (List UInt8)) : many ws = true ↔ ∃ a ∈ ws, ∃ b ∈ ws, a ≠ b := by
  unfold many
  simp only [List.any_eq_true, bne_iff_ne]
/-- Words alone tell, not their order nor how often they stand. -/
theorem many_same {ws ws' : List (List UInt8)} (h : ∀ x, x ∈ ws ↔ x ∈ ws') : many ws = many ws' := by
  rw [Bool.eq_iff_iff, many_iff, many_iff]
  constructor
  · rintro ⟨a, ha, b, hb, hne⟩; exact ⟨a, (h a).1 ha, b, (h b).1 hb, hne⟩
  · rintro ⟨a, ha, b, hb, hne⟩; exact ⟨a, (h a).2 ha, b, (h b).2 hb, hne⟩
theorem xfo_same {ws ws' : List (List UInt8)} (h : ∀ x, x ∈ ws ↔ x ∈ ws') : xfoW ws = xfoW ws' := by
  unfold xfoW
  rw [many_same h]
  simp only [h]
theorem many_app {a : List (List UInt8)} (b : List (List UInt8)) (h : many a = true) : many (a ++ b) = true := by
  rw [many_iff] at h ⊢
  obtain ⟨x, hx, y, hy, hne⟩ := h
  exact ⟨x, List.mem_append_left _ hx, y, List.mem_append_left _ hy, hne⟩
/-- Of a word that stands alone. -/
theorem alone {a : List (List UInt8)} (h : many a = false) {x y : List UInt8} (hx : x ∈ a) (hy : y ∈ a) : x = y := by
  by_cases e : x = y
  · exact e
  · have : many a = true := (many_iff a).2 ⟨x, hx, y, hy, e⟩
    rw [h] at this; cases this
/-- What refuses all does so with more words. -/
theorem xfo_deny {a : List (List UInt8)} (b : List (List UInt8)) (h : xfoW a = 1) : xfoW (a ++ b) = 1 := by
  have hk : xD ∈ a ∨ (many a = true ∧ (xD ∈ a ∨ xS ∈ a ∨ xA ∈ a)) := by
    unfold xfoW at h
    by_cases hm : many a = true
    · rw [if_pos hm] at h
      by_cases hk : xD ∈ a ∨ xS ∈ a ∨ xA ∈ a
      · exact .inr ⟨hm, hk⟩
      · rw [if_neg hk] at h; cases h
    · rw [if_neg hm] at h
      by_cases hd : xD ∈ a
      · exact .inl hd
      · rw [if_neg hd] at h
        split at h
        · cases h
        · split at h <;> cases h
  unfold xfoW
  rcases hk with hd | ⟨hm, hk⟩
  · have hd' : xD ∈ a ++ b := List.mem_append_left _ hd
    by_cases hm : many (a ++ b) = true
    · rw [if_pos hm, if_pos (.inl hd')]
    · rw [if_neg hm, if_pos hd']
  · rw [if_pos (many_app b hm), if_pos (by
      rcases hk with hk | hk | hk
      · exact .inl (List.mem_append_left _ hk)
      · exact .inr (.inl (List.mem_append_left _ hk))
      · exact .inr (.inr (List.mem_append_left _ hk)))]
theorem xfo_two {a : List (List UInt8)} (h : xfoW a = 2) : many a = false ∧ xS ∈ a ∧ ∀ x ∈ a, x = xS := by
  unfold xfoW at h
  by_cases hm : many a = true
  · rw [if_pos hm] at h
    split at h <;> cases h
  · rw [if_neg hm] at h
    have hm' : many a = false := by simpa using hm
    split at h
    · cases h
    · split at h
      · rename_i hs; exact ⟨hm', hs, fun x hx => alone hm' hx hs⟩
      · split at h <;> cases h
theorem xfo_three {a : List (List UInt8)} (h : xfoW a = 3) : many a = false ∧ xA ∈ a ∧ ∀ x ∈ a, x = xA := by
  unfold xfoW at h
  by_cases hm : many a = true
  · rw [if_pos hm] at h
    split at h <;> cases h
  · rw [if_neg hm] at h
    have hm' : many a = false := by simpa using hm
    split at h
    · cases h
    · split at h
      · cases h
      · split at h
        · rename_i hs; exact ⟨hm', hs, fun x hx => alone hm' hx hs⟩
        · cases h
/-- One word alone, and more of it: the same. -/
theorem xfo_all {a b : List (List UInt8)} {w : List UInt8} (hw : w ∈ a) (hb : ∀ x ∈ b, x = w) : xfoW (a ++ b) = xfoW a := by
  refine xfo_same fun x => ⟨fun hx => ?_, fun hx => List.mem_append_left _ hx⟩
  rcases List.mem_append.1 hx with hx | hx
  · exact hx
  · rw [hb x hx]; exact hw
/-- One word that is known, and another beside it: refused. -/
theorem xfo_else {a b : List (List UInt8)} {w : List UInt8} (hk : w = xS ∨ w = xA) (hw : w ∈ a) (hb : ¬ ∀ x ∈ b, x = w) : xfoW (a ++ b) = 1 := by
  obtain ⟨x, hx, hne⟩ : ∃ x ∈ b, x ≠ w := by
    rcases Classical.em (∃ x ∈ b, x ≠ w) with h | h
    · exact h
    · exact absurd (fun x hx => Classical.byContradiction fun hne => h ⟨x, hx, hne⟩) hb
  have hm : many (a ++ b) = true := (many_iff _).2 ⟨x, List.mem_append_right _ hx, w, List.mem_append_left _ hw, hne⟩
  unfold xfoW
  rw [if_pos hm, if_pos]
  rcases hk with rfl | rfl
  · exact .inr (.inl (List.mem_append_left _ hw))
  · exact .inr (.inr (List.mem_append_left _ hw))

/-! ### letters' size -/
theorem low_byte (c k : UInt8) (hk : k.toNat < 65 ∨ 122 < k.toNat ∨ (90 < k.toNat ∧ k.toNat < 97)) : Oct.low1 c = k ↔ c = k := by
  unfold Oct.low1
  constructor
  · intro h
    split at h
    · rename_i hc
      exfalso
      have : (c + 32).toNat = c.toNat + 32 := by
        rw [UInt8.toNat_add]
        have : (32 : UInt8).toNat = 32 := rfl
        omega
      rw [h] at this
      omega
    · exact h
  · rintro rfl
    rw [if_neg (by omega)]
theorem blank_low (c : UInt8) : Oct.blankI (Oct.low1 c).toNat = Oct.blankI c.toNat := by
  unfold Oct.low1
  split
  · rename_i hc
    have : (c + 32).toNat = c.toNat + 32 := by
      rw [UInt8.toNat_add]
      have : (32 : UInt8).toNat = 32 := rfl
      omega
    rw [this, Bool.eq_iff_iff]
    unfold Oct.blankI
    simp only [Bool.or_eq_true, beq_iff_eq]
    omega
  · rfl
theorem trim_low (l : List UInt8) : Oct.trim (Oct.lower l) = Oct.lower (Oct.trim l) := by
  unfold Oct.trim Oct.lower
  rw [List.dropWhile_map, ← List.map_reverse, List.dropWhile_map, ← List.map_reverse]
  have e : ((fun b => Oct.blankI b.toNat) ∘ Oct.low1 : UInt8 → Bool) = fun b => Oct.blankI b.toNat := funext fun c => blank_low c
  rw [e]
theorem parts_low : ∀ (r : List UInt8) (o e : Bool) (acc : List UInt8), Hd.partsF o e (Oct.lower acc) (Oct.lower r) = (Hd.partsF o e acc r).map Oct.lower
  | [], o, e, acc => by
    show [Oct.trim (Oct.lower acc)] = [Oct.lower (Oct.trim acc)]
    rw [trim_low]
  | c :: r, o, e, acc => by
    have ha : Oct.lower acc ++ [Oct.low1 c] = Oct.lower (acc ++ [c]) := by simp [Oct.lower]
    have ih1 := fun o e => parts_low r o e (acc ++ [c])
    have ih0 := parts_low r o false []
    have h34 : (Oct.low1 c == 34) = (c == 34) := by rw [Bool.eq_iff_iff, beq_iff_eq, beq_iff_eq]; exact low_byte c 34 (.inl (by decide))
    have h92 : (Oct.low1 c == 92) = (c == 92) := by rw [Bool.eq_iff_iff, beq_iff_eq, beq_iff_eq]; exact low_byte c 92 (.inr (.inr (by decide)))
    have h44 : (Oct.low1 c == 44) = (c == 44) := by rw [Bool.eq_iff_iff, beq_iff_eq, beq_iff_eq]; exact low_byte c 44 (.inl (by decide))
    show Hd.partsF o e (Oct.lower acc) (Oct.low1 c :: Oct.lower r) = _
    rw [Hd.partsF, Hd.partsF, h34, h92, h44, ha]
    simp only [ih1]
    split
    · rfl
    split
    · rfl
    split
    · rfl
    split
    · rw [List.map_cons, trim_low]
      exact congrArg _ ih0
    · rfl
theorem parts_lower (s : List UInt8) : Hd.parts (Oct.lower s) = (Hd.parts s).map Oct.lower := parts_low s false false []

/-! ### lines -/
theorem xw_app (a b : List Hd.Hdr) : xw (a ++ b) = xw a ++ xw b := by
  unfold xw Hd.partsL
  rw [Hd.vals_app, List.flatMap_append, List.map_append]
/-- The line of frame options that the statements make. -/
def line (v : List UInt8) : Hd.Hdr := ⟨nXG, v⟩
theorem fold_line : Hd.foldB nXG nX = true := by decide
theorem xw_line (v : List UInt8) : xw [line v] = (Hd.parts (Oct.trim v)).map Oct.lower := by
  unfold xw Hd.partsL
  rw [Hd.vals_one, if_pos (show Hd.foldB (line v).name nX = true from fold_line)]
  simp [line]
theorem xw_low (v : List UInt8) : xw [line (Oct.lower v)] = xw [line v] := by
  rw [xw_line, xw_line, trim_low, parts_lower, List.map_map]
  congr 1
  funext x
  exact Oct.lower_lower x
theorem xw_none {h : Hd.Hdr} (hn : Hd.foldB h.name nX = false) : xw [h] = [] := by
  unfold xw Hd.partsL
  rw [Hd.vals_one, hn]
  rfl
theorem xw_mem (l : List Hd.Hdr) (x : List UInt8) : x ∈ xw l ↔ ∃ h ∈ l, x ∈ xw [h] := by
  induction l with
  | nil => simp [xw, Hd.partsL, Hd.vals]
  | cons a l ih =>
    rw [show a :: l = [a] ++ l from rfl, xw_app, List.mem_append, ih]
    simp
/-- Lines turned about, one of them twice, in letters of another size. -/
theorem xfo_turns (vs : List (List UInt8)) (more : List (List UInt8)) (hm : ∀ v ∈ more, v ∈ vs) :
    xfoL (((vs.map fun v => line (Oct.lower v)).reverse) ++ more.map line) = xfoL (vs.map line) := by
  unfold xfoL
  refine xfo_same fun x => ?_
  rw [xw_app, List.mem_append, xw_mem, xw_mem, xw_mem]
  simp only [List.mem_reverse, List.mem_map]
  constructor
  · rintro (⟨_, ⟨v, hv, rfl⟩, hx⟩ | ⟨_, ⟨v, hv, rfl⟩, hx⟩)
    · exact ⟨_, ⟨v, hv, rfl⟩, by rw [xw_low] at hx; exact hx⟩
    · exact ⟨_, ⟨v, hm v hv, rfl⟩, hx⟩
  · rintro ⟨_, ⟨v, hv, rfl⟩, hx⟩
    exact .inl ⟨_, ⟨v, hv, rfl⟩, by rw [xw_low]; exact hx⟩

/-! ### resource policies -/
theorem corp_one (s : List UInt8) : corpL [⟨nC, s⟩] = corpW (Oct.trim s) := by unfold corpL; rw [Hd.comb_one]
theorem corp_two (s t : List UInt8) : corpL [⟨nC, s⟩, ⟨nC, t⟩] = 0 := by
  unfold corpL
  rw [Hd.comb_two]
  have hc : (44 : UInt8) ∈ Oct.trim s ++ [44, 32] ++ Oct.trim t := by simp
  generalize Oct.trim s ++ [44, 32] ++ Oct.trim t = w at hc
  unfold corpW
  rw [if_neg (by rintro rfl; revert hc; decide), if_neg (by rintro rfl; revert hc; decide), if_neg (by rintro rfl; revert hc; decide)]

/-! ### other lines -/
def low (h : Hd.Hdr) : Hd.Hdr := ⟨Oct.lower h.name, h.value⟩
theorem vals_lows {h : Hd.Hdr} {n : List UInt8} (hn : Hd.foldB h.name n = false) (l : List Hd.Hdr) : Hd.vals (l.flatMap fun x => [h, low x]) n = Hd.vals l n := by
  induction l with
  | nil => rfl
  | cons a l ih =>
    rw [List.flatMap_cons, Hd.vals_app, ih, show a :: l = [a] ++ l from rfl, Hd.vals_app, show [h, low a] = [h] ++ [low a] from rfl, Hd.vals_app, Hd.vals_one, Hd.vals_one, Hd.vals_one, hn]
    have e : Hd.foldB (low a).name n = Hd.foldB a.name n := by unfold Hd.foldB low; rw [Oct.lower_lower]
    rw [e]
    simp [low]
theorem others {h : Hd.Hdr} (h1 : Hd.foldB h.name nX = false) (h2 : Hd.foldB h.name nC = false) (l : List Hd.Hdr) :
    corpL (l.flatMap fun x => [h, low x]) = corpL l ∧ xfoL (l.flatMap fun x => [h, low x]) = xfoL l := by
  unfold corpL xfoL xw Hd.partsL Hd.comb
  rw [vals_lows h1, vals_lows h2]
  exact ⟨rfl, rfl⟩
end Em
end Go.Proofs.Ytcgogadjompemaa
