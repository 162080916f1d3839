/- Opener and embedder policies: plain functions and their laws; no program is named here. -/
import Derived.Test.YtgddmihojladfaaGreatDoorHdMath
import Derived.Test.YtgddmihojladfaaGreatDoorSfMath5
namespace Go.Proofs.YtgddmihojladfaaGreatDoor
namespace Co

/-- 'cross-origin-opener-policy' and its three brothers. -/
def nO : List UInt8 := [99, 114, 111, 115, 115, 45, 111, 114, 105, 103, 105, 110, 45, 111, 112, 101, 110, 101, 114, 45, 112, 111, 108, 105, 99, 121]
def nOR : List UInt8 := [99, 114, 111, 115, 115, 45, 111, 114, 105, 103, 105, 110, 45, 111, 112, 101, 110, 101, 114, 45, 112, 111, 108, 105, 99, 121, 45, 114, 101, 112, 111, 114, 116, 45, 111, 110, 108, 121]
def nE : List UInt8 := [99, 114, 111, 115, 115, 45, 111, 114, 105, 103, 105, 110, 45, 101, 109, 98, 101, 100, 100, 101, 114, 45, 112, 111, 108, 105, 99, 121]
def nER : List UInt8 := [99, 114, 111, 115, 115, 45, 111, 114, 105, 103, 105, 110, 45, 101, 109, 98, 101, 100, 100, 101, 114, 45, 112, 111, 108, 105, 99, 121, 45, 114, 101, 112, 111, 114, 116, 45, 111, 110, 108, 121]
def kTo : List UInt8 := [114, 101, 112, 111, 114, 116, 45, 116, 111]
def wReq : List UInt8 := [114, 101, 113, 117, 105, 114, 101, 45, 99, 111, 114, 112]
def wCred : List UInt8 := [99, 114, 101, 100, 101, 110, 116, 105, 97, 108, 108, 101, 115, 115]
def wSame : List UInt8 := [115, 97, 109, 101, 45, 111, 114, 105, 103, 105, 110]
def wPop : List UInt8 := [115, 97, 109, 101, 45, 111, 114, 105, 103, 105, 110, 45, 97, 108, 108, 111, 119, 45, 112, 111, 112, 117, 112, 115]

/-- Where reports go, of an item's parameters. -/
def endp (ps : List Sf.Par) : List UInt8 := ps.foldl (fun to p => if p.key == kTo && p.kind == 3 then p.text else to) []
def ofItem : Option Sf.Itm → List UInt8 × List UInt8
  | some x => if x.kind = 4 then (x.text, endp x.params) else ([], [])
  | none => ([], [])
/-- The keyword of a field, and its endpoint. -/
def word (l : List Hd.Hdr) (n : List UInt8) : List UInt8 × List UInt8 := if Hd.hasB l n then ofItem (Sf.parse (Hd.comb l n)) else ([], [])
def isoB (k : Int) : Bool := k == 1 || k == 2
def coepW (w : List UInt8) : Int := if w = wReq then 2 else if w = wCred then 1 else 0
def coopW (w : List UInt8) (plus : Bool) : Int := if w = wSame then (if plus then 3 else 2) else if w = wPop then 1 else 0
structure Pol where
  value : Int
  to : List UInt8
  report : Int
  reportT : List UInt8
  deriving DecidableEq
def noPol : Pol := ⟨0, [], 0, []⟩
def coepL (l : List Hd.Hdr) (secure : Bool) : Pol := if secure then ⟨coepW (word l nE).1, (word l nE).2, coepW (word l nER).1, (word l nER).2⟩ else noPol
def coopL (l : List Hd.Hdr) (secure : Bool) : Pol :=
  if secure then ⟨coopW (word l nO).1 (isoB (coepL l true).value), (word l nO).2, coopW (word l nOR).1 (isoB (coepL l true).value || isoB (coepL l true).report), (word l nOR).2⟩ else noPol
/-- A header whose name is one of the two that are but reported. -/
def repB (h : Hd.Hdr) : Bool := Oct.lower h.name == nOR || Oct.lower h.name == nER
def plain (l : List Hd.Hdr) : List Hd.Hdr := l.filter fun h => !repB h

/-! ### names -/
theorem low_O : Oct.lower nO = nO := by decide
theorem low_OR : Oct.lower nOR = nOR := by decide
theorem low_E : Oct.lower nE = nE := by decide
theorem low_ER : Oct.lower nER = nER := by decide
theorem fold_is {a n : List UInt8} (h : Oct.lower n = n) : Hd.foldB a n = (Oct.lower a == n) := by unfold Hd.foldB; rw [h]
theorem coopW_nil (p : Bool) : coopW [] p = 0 := by cases p <;> decide
theorem coepW_nil : coepW [] = 0 := by decide
/-- A field hangs on its values alone. -/
theorem word_of {l l' : List Hd.Hdr} {n : List UInt8} (h : Hd.vals l n = Hd.vals l' n) : word l n = word l' n := by
  unfold word Hd.hasB Hd.comb; rw [h]
theorem word_none {l : List Hd.Hdr} {n : List UInt8} (h : Hd.vals l n = []) : word l n = ([], []) := by
  unfold word Hd.hasB; rw [h]; rfl

/-! ### what is but reported -/
theorem vals_plain {l : List Hd.Hdr} {n : List UInt8} (hn : Oct.lower n = n) (h1 : n ≠ nOR) (h2 : n ≠ nER) : Hd.vals (plain l) n = Hd.vals l n := by
  unfold Hd.vals plain
  rw [List.filter_filter]
  congr 1
  apply List.filter_congr
  intro h _
  cases hf : Hd.foldB h.name n with
  | false => rfl
  | true =>
    rw [fold_is hn] at hf
    have e := beq_iff_eq.1 hf
    unfold repB
    rw [e]
    have e1 : (n == nOR) = false := by simpa using h1
    have e2 : (n == nER) = false := by simpa using h2
    rw [e1, e2]; rfl
theorem vals_plain' {l : List Hd.Hdr} {n : List UInt8} (hn : Oct.lower n = n) (h : n = nOR ∨ n = nER) : Hd.vals (plain l) n = [] := by
  unfold Hd.vals plain
  rw [List.filter_filter, List.map_eq_nil_iff, List.filter_eq_nil_iff]
  intro x _ hx
  rw [Bool.and_eq_true, fold_is hn] at hx
  have e := beq_iff_eq.1 hx.1
  have h2 := hx.2
  unfold repB at h2
  rw [e] at h2
  rcases h with rfl | rfl <;> simp at h2
theorem coep_plain (l : List Hd.Hdr) : coepL (plain l) true = ⟨(coepL l true).value, (coepL l true).to, 0, []⟩ := by
  unfold coepL
  rw [if_pos rfl, if_pos rfl, word_of (vals_plain low_E (by decide) (by decide)), word_none (vals_plain' low_ER (.inr rfl))]
  rfl
theorem coop_plain (l : List Hd.Hdr) : coopL (plain l) true = ⟨(coopL l true).value, (coopL l true).to, 0, []⟩ := by
  have e := coep_plain l
  unfold coopL
  rw [if_pos rfl, if_pos rfl, e, word_of (vals_plain low_O (by decide) (by decide)), word_none (vals_plain' low_OR (.inl rfl)), coopW_nil]

/-! ### other lines -/
theorem coop_vals {l l' : List Hd.Hdr} (h1 : Hd.vals l nO = Hd.vals l' nO) (h2 : Hd.vals l nOR = Hd.vals l' nOR) (h3 : Hd.vals l nE = Hd.vals l' nE) (h4 : Hd.vals l nER = Hd.vals l' nER) :
    coopL l true = coopL l' true ∧ coepL l true = coepL l' true := by
  have e : coepL l true = coepL l' true := by
    unfold coepL; rw [word_of h3, word_of h4]
  refine ⟨?_, e⟩
  unfold coopL; rw [e, word_of h1, word_of h2]
theorem vals_more {l : List Hd.Hdr} {h : Hd.Hdr} {n : List UInt8} (hn : Oct.lower n = n) (k : Nat) (hh : Oct.lower h.name ≠ n) : Hd.vals (l.take k ++ [h] ++ l.drop k) n = Hd.vals l n := by
  have := Hd.vals_other (l := l) (h := h) (n := n) k (by rw [fold_is hn]; simpa using hh)
  rwa [hn] at this
theorem coop_more {l : List Hd.Hdr} {h : Hd.Hdr} (k : Nat) (h1 : Oct.lower h.name ≠ nO) (h2 : Oct.lower h.name ≠ nE) (h3 : Oct.lower h.name ≠ nOR) (h4 : Oct.lower h.name ≠ nER) :
    coopL (l.take k ++ [h] ++ l.drop k) true = coopL l true ∧ coepL (l.take k ++ [h] ++ l.drop k) true = coepL l true :=
  coop_vals (vals_more low_O k h1) (vals_more low_OR k h3) (vals_more low_E k h2) (vals_more low_ER k h4)

/-! ### the strongest -/
def bare (l : List Hd.Hdr) : List Hd.Hdr := l.filter fun h => !Hd.foldB h.name nE
theorem vals_bare (l : List Hd.Hdr) : Hd.vals (bare l) nE = [] := by
  unfold Hd.vals bare
  rw [List.filter_filter, List.map_eq_nil_iff, List.filter_eq_nil_iff]
  intro x _ hx
  rw [Bool.and_eq_true] at hx
  rw [hx.1] at hx
  exact absurd hx.2 (by decide)
theorem vals_with (l : List Hd.Hdr) (v : List UInt8) {n : List UInt8} (h : Hd.foldB nE n = false) : Hd.vals (l ++ [⟨nE, v⟩]) n = Hd.vals l n := by
  rw [Hd.vals_app, Hd.vals_one, h]; simp
theorem coopW_plus (w : List UInt8) (p : Bool) : coopW w p = if coopW w false = 2 ∧ p = true then 3 else coopW w false := by
  unfold coopW
  by_cases h : w = wSame
  · cases p <;> simp [h]
  · by_cases h2 : w = wPop
    · subst h2; cases p <;> decide
    · simp [h, h2]
theorem coopW_ne (w : List UInt8) : coopW w false ≠ 3 := by
  unfold coopW
  split
  · decide
  · split <;> decide
theorem bare_value (l : List Hd.Hdr) : (coopL (bare l) true).value = coopW (word (bare l) nO).1 false := by
  have e : (coepL (bare l) true).value = 0 := by unfold coepL; rw [if_pos rfl, word_none (vals_bare l)]; exact coepW_nil
  unfold coopL
  rw [if_pos rfl, e]
  rfl
theorem plus_only (l : List Hd.Hdr) (v : List UInt8) :
    (coopL (bare l ++ [⟨nE, v⟩]) true).value = (if (coopL (bare l) true).value = 2 ∧ isoB (coepL (bare l ++ [⟨nE, v⟩]) true).value = true then 3 else (coopL (bare l) true).value)
      ∧ (coopL (bare l) true).value ≠ 3 ∧ (coopL (bare l) true).to = (coopL (bare l ++ [⟨nE, v⟩]) true).to := by
  have hw : word (bare l ++ [⟨nE, v⟩]) nO = word (bare l) nO := word_of (vals_with (bare l) v (by decide))
  refine ⟨?_, ?_, ?_⟩
  · rw [bare_value, ← coopW_plus]
    show coopW (word (bare l ++ [⟨nE, v⟩]) nO).1 _ = _
    rw [hw]
  · rw [bare_value]; exact coopW_ne _
  · show (word (bare l) nO).2 = (word (bare l ++ [⟨nE, v⟩]) nO).2
    rw [hw]
end Co
end Go.Proofs.YtgddmihojladfaaGreatDoor
