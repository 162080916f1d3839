/- URLs, as plain functions on lists of bytes (what package urlp says); no program is named here. -/
import Derived.Test.YtehjnidggnfbfaaGreatDoorHostAll
import Derived.Test.YtehjnidggnfbfaaGreatDoorOctAll
namespace Go.Proofs.YtehjnidggnfbfaaGreatDoor
namespace Urp
open Oct

def outerB (b : UInt8) : Bool := decide (b.toNat ≤ 32)
def trimU (l : List UInt8) : List UInt8 := ((l.dropWhile outerB).reverse.dropWhile outerB).reverse
/-- What stands ahead of the first byte c, and behind it. -/
def bef (c : UInt8) (l : List UInt8) : List UInt8 := l.takeWhile fun b => b != c
def aft (c : UInt8) (l : List UInt8) : List UInt8 := (l.dropWhile fun b => b != c).drop 1
def hasB (c : UInt8) (l : List UInt8) : Bool := l.any fun b => b == c
def lowI (c : Int) : Bool := decide (97 ≤ c) && decide (c ≤ 122)
def schI (c : Int) : Bool := (lowI c || digitI c) || (c == 43 || (c == 45 || c == 46))
def schemeB (l : List UInt8) : Bool := allB schI l && (!l.isEmpty && lowI (l.headD 0).toNat)
def visI (c : Int) : Bool := decide (32 < c) && decide (c ≤ 126)
def visB (l : List UInt8) : Bool := allB visI l
def sHttp : List UInt8 := [104, 116, 116, 112]
def sHttps : List UInt8 := [104, 116, 116, 112, 115]
def sAbout : List UInt8 := [97, 98, 111, 117, 116]
def sData : List UInt8 := [100, 97, 116, 97]
def sBlob : List UInt8 := [98, 108, 111, 98]
def sBlank : List UInt8 := [98, 108, 97, 110, 107]
def sSrcdoc : List UInt8 := [115, 114, 99, 100, 111, 99]
def sNull : List UInt8 := [110, 117, 108, 108, 47]
def netB (s : List UInt8) : Bool := s == sHttp || s == sHttps
def knownB (s : List UInt8) : Bool := netB s || (s == sAbout || (s == sData || s == sBlob))
def begB (p l : List UInt8) : Bool := p.isPrefixOf l

structure URL where
  scheme : List UInt8
  host : Hst.Host
  port : Int
  path : List UInt8
  hasq : Bool
  query : List UInt8
  rest : List UInt8
def zeroU : URL := ⟨[], Hst.none_, 0, [], false, [], []⟩

def own (s : List UInt8) : Int := if s == sHttps then 443 else 80
def portOf (s p : List UInt8) : Option Int :=
  if p.isEmpty then some (-1) else if numOk p 65535 then (if val p = own s then some (-1) else some (val p)) else none

def dot1 : List UInt8 := [46]
def dot2 : List UInt8 := [46, 46]
/-- One segment more; is it the last one? -/
def stepC (last : Bool) (k : List (List UInt8)) (x : List UInt8) : List (List UInt8) :=
  if x = dot2 then (if last then k.dropLast ++ [[]] else k.dropLast)
  else if x = dot1 then (if last then k ++ [[]] else k)
  else k ++ [x]
/-- What remains of the segments, where some have been kept. -/
def walk (k : List (List UInt8)) : List (List UInt8) → List (List UInt8)
  | [] => k
  | x :: r => walk (stepC r.isEmpty k x) r
def segs (p : List UInt8) : List (List UInt8) := split (fun x => x == 47) p
def pathOf (p : List UInt8) : List UInt8 := 47 :: join 47 (walk [] (segs p))

def web (s rest : List UInt8) : Except Int URL :=
  if begB [47, 47] rest then
    if hasB 64 (bef 47 (bef 63 (rest.drop 2))) then .error 30
    else match Hst.parse (bef 58 (bef 47 (bef 63 (rest.drop 2)))) with
      | none => .error 20
      | some h => match portOf s (aft 58 (bef 47 (bef 63 (rest.drop 2)))) with
        | none => .error 32
        | some p => .ok ⟨s, h, p, pathOf (aft 47 (bef 63 (rest.drop 2))), hasB 63 (rest.drop 2), aft 63 (rest.drop 2), []⟩
  else .error 30

/-- The scheme of a text without what stands at its ends, and what follows. -/
def cutS (t : List UInt8) : Except Int (List UInt8 × List UInt8) :=
  if decide (2000 < t.length) || (!hasB 58 t || !schemeB (lower (bef 58 t))) then .error 30
  else if knownB (lower (bef 58 t)) then .ok (lower (bef 58 t), aft 58 t) else .error 31
/-- The URL of the net that a text is. -/
def netU (l : List UInt8) : Option URL :=
  match cutS (trimU l) with
  | .error _ => none
  | .ok (s, a) => if visB (bef 35 a) && netB s then (web s (bef 35 a)).toOption else none
def restB (s rest : List UInt8) : Bool :=
  if s = sAbout then rest == sBlank || rest == sSrcdoc
  else if s = sBlob then (netU rest).isSome || begB sNull rest
  else true
def parse (l : List UInt8) : Except Int URL :=
  match cutS (trimU l) with
  | .error e => .error e
  | .ok (s, a) =>
    if visB (bef 35 a) then
      if netB s then web s (bef 35 a)
      else if restB s (bef 35 a) then .ok ⟨s, Hst.none_, -1, [], false, [], bef 35 a⟩ else .error 30
    else .error 30
def innerU (u : URL) : Option URL := if u.scheme = sBlob then netU u.rest else none

/-! ### small laws -/
theorem web_scheme {s r : List UInt8} {u : URL} (h : web s r = .ok u) : u.scheme = s := by
  unfold web at h
  repeat' split at h
  all_goals first | (cases h; done) | (cases h; rfl)
theorem netU_parse (l : List UInt8) : netU l = match parse l with | .ok u => if netB u.scheme then some u else none | .error _ => none := by
  unfold netU parse
  cases hc : cutS (trimU l) with
  | error e => rfl
  | ok x =>
    obtain ⟨s, a⟩ := x
    simp only
    cases hv : visB (bef 35 a) with
    | false => simp
    | true =>
      cases hn : netB s with
      | true =>
        simp only [Bool.and_true, if_true]
        cases hw : web s (bef 35 a) with
        | error e => rfl
        | ok u => simp [web_scheme hw, hn, Except.toOption]
      | false =>
        simp only [Bool.and_false, Bool.false_eq_true, if_false, if_true]
        cases restB s (bef 35 a) <;> simp [hn]
theorem dropWhile_len (p : UInt8 → Bool) (l : List UInt8) : (l.dropWhile p).length ≤ l.length := (List.dropWhile_suffix (p := p) (l := l)).length_le
theorem trimU_len (l : List UInt8) : (trimU l).length ≤ l.length := by
  unfold trimU
  have h1 := dropWhile_len outerB l
  have h2 := dropWhile_len outerB (l.dropWhile outerB).reverse
  simp only [List.length_reverse] at h2 ⊢
  omega
theorem bef_len (c : UInt8) (l : List UInt8) : (bef c l).length ≤ l.length := (List.takeWhile_prefix (p := fun b => b != c) (l := l)).length_le
theorem aft_len (c : UInt8) (l : List UInt8) : (aft c l).length ≤ l.length := by
  unfold aft
  have := dropWhile_len (fun b => b != c) l
  rw [List.length_drop]; omega
theorem aft_lt {c : UInt8} {l : List UInt8} (h : hasB c l = true) : (aft c l).length < l.length := by
  unfold aft
  have h1 := dropWhile_len (fun b => b != c) l
  rw [List.length_drop]
  cases l with
  | nil => simp [hasB] at h
  | cons b l => simp only [List.length_cons] at h1 ⊢; omega
theorem cutS_ok {t : List UInt8} {s a : List UInt8} (h : cutS t = .ok (s, a)) : decide (2000 < t.length) = false ∧ hasB 58 t = true ∧ schemeB s = true ∧ knownB s = true ∧ s = lower (bef 58 t) ∧ a = aft 58 t := by
  unfold cutS at h
  split at h
  · cases h
  · rename_i hx
    split at h
    · rename_i hk
      cases h
      simp only [Bool.or_eq_true, not_or, Bool.not_eq_true, Bool.not_eq_false'] at hx
      exact ⟨hx.1, hx.2.1, hx.2.2, hk, rfl, rfl⟩
    · cases h
theorem cut_index (c : UInt8) : ∀ l : List UInt8, (Lib.indexByte l c = -1 ∧ hasB c l = false ∧ bef c l = l ∧ aft c l = []) ∨ ∃ i : Nat, Lib.indexByte l c = i ∧ i < l.length ∧ hasB c l = true ∧ bef c l = l.take i ∧ aft c l = l.drop (i + 1)
  | [] => .inl ⟨rfl, rfl, rfl, rfl⟩
  | b :: l => by
    by_cases hb : (b == c) = true
    · refine .inr ⟨0, ?_, by simp, by simp [hasB, hb], ?_, ?_⟩
      · unfold Lib.indexByte; simp [hb]
      · simp [bef, bne, hb]
      · simp [aft, bne, hb]
    · have hb' : (b == c) = false := by simpa using hb
      have e1 : bef c (b :: l) = b :: bef c l := by simp [bef, bne, hb']
      have e2 : aft c (b :: l) = aft c l := by simp [aft, bne, hb']
      have e3 : hasB c (b :: l) = hasB c l := by simp [hasB, hb']
      rcases cut_index c l with ⟨h1, h2, h3, h4⟩ | ⟨i, h1, h2, h3, h4, h5⟩
      · refine .inl ⟨?_, by rw [e3, h2], by rw [e1, h3], by rw [e2, h4]⟩
        unfold Lib.indexByte; simp [hb', h1]
      · refine .inr ⟨i + 1, ?_, by simp; omega, by rw [e3, h3], by rw [e1, h4]; rfl, by rw [e2, h5]; rfl⟩
        unfold Lib.indexByte
        simp [hb', h1]
end Urp
end Go.Proofs.YtehjnidggnfbfaaGreatDoor
