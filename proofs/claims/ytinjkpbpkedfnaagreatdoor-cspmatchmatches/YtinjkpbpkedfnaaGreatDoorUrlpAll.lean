/- Our texts of one layer, joined: plain functions and their laws, and the contracts of the functions of that layer. -/
import Derived.Test.YtinjkpbpkedfnaaGreatDoorHostAll
import Derived.Test.YtinjkpbpkedfnaaGreatDoorOctAll
import Derived.Lib.TrimUEq
import Derived.Shelf.GgClosure.StringsTrimFunc
import Derived.Test.YtinjkpbpkedfnaaGreatDoorBytes
import Derived.BigQuiet
import Derived.Maps.Own
import Derived.WalkMore
import Derived.Deep.LoopGhost
import Derived.Deep.RegionHeld3
import Derived.Lib.ItoaLen

/- URLs, as plain functions on lists of bytes (what package urlp says); no program is named here. -/
namespace Go.Proofs.YtinjkpbpkedfnaaGreatDoor
namespace Urp
open Oct

def outerB (b : UInt8) : Bool := decide (b.toNat ≤ 32)
def trimU (l : List UInt8) : List UInt8 := ((l.dropWhile outerB).reverse.dropWhile outerB).reverse
/-- What stands ahead of the first byte c, and behind it. -/
def bef (c : UInt8) (l : List UInt8) : List UInt8 := l.takeWhile fun b => b != c
def aft (c : UInt8) (l : List UInt8) : List UInt8 := (l.dropWhile fun b => b != c).drop 1
def hasB (c : UInt8) (l : List UInt8) : Bool := l.any fun b => b == c
def lowI (c : Int) : Bool := decide (97 ≤ c) && decide (c ≤ 122)
def schI (c : Int) : Bool := (lowI c || digitI c) || (c == 43 || (c == 45 || c == 46))
def schemeB (l : List UInt8) : Bool := allB schI l && (!l.isEmpty && lowI (l.headD 0).toNat)
def visI (c : Int) : Bool := decide (32 < c) && decide (c ≤ 126)
def visB (l : List UInt8) : Bool := allB visI l
def sHttp : List UInt8 := [104, 116, 116, 112]
def sHttps : List UInt8 := [104, 116, 116, 112, 115]
def sAbout : List UInt8 := [97, 98, 111, 117, 116]
def sData : List UInt8 := [100, 97, 116, 97]
def sBlob : List UInt8 := [98, 108, 111, 98]
def sBlank : List UInt8 := [98, 108, 97, 110, 107]
def sSrcdoc : List UInt8 := [115, 114, 99, 100, 111, 99]
def sNull : List UInt8 := [110, 117, 108, 108, 47]
def netB (s : List UInt8) : Bool := s == sHttp || s == sHttps
def knownB (s : List UInt8) : Bool := netB s || (s == sAbout || (s == sData || s == sBlob))
def begB (p l : List UInt8) : Bool := p.isPrefixOf l

structure URL where
  scheme : List UInt8
  host : Hst.Host
  port : Int
  path : List UInt8
  hasq : Bool
  query : List UInt8
  rest : List UInt8
def zeroU : URL := ⟨[], Hst.none_, 0, [], false, [], []⟩

def own (s : List UInt8) : Int := if s == sHttps then 443 else 80
def portOf (s p : List UInt8) : Option Int :=
  if p.isEmpty then some (-1) else if numOk p 65535 then (if val p = own s then some (-1) else some (val p)) else none

def dot1 : List UInt8 := [46]
def dot2 : List UInt8 := [46, 46]
/-- One segment more; is it the last one? -/
def stepC (last : Bool) (k : List (List UInt8)) (x : List UInt8) : List (List UInt8) :=
  if x = dot2 then (if last then k.dropLast ++ [[]] else k.dropLast)
  else if x = dot1 then (if last then k ++ [[]] else k)
  else k ++ [x]
/-- What remains of the segments, where some have been kept. -/
def walk (k : List (List UInt8)) : List (List UInt8) → List (List UInt8)
  | [] => k
  | x :: r => walk (stepC r.isEmpty k x) r
def segs (p : List UInt8) : List (List UInt8) := split (fun x => x == 47) p
def pathOf (p : List UInt8) : List UInt8 := 47 :: join 47 (walk [] (segs p))

def web (s rest : List UInt8) : Except Int URL :=
  if begB [47, 47] rest then
    if hasB 64 (bef 47 (bef 63 (rest.drop 2))) then .error 30
    else match Hst.parse (bef 58 (bef 47 (bef 63 (rest.drop 2)))) with
      | none => .error 20
      | some h => match portOf s (aft 58 (bef 47 (bef 63 (rest.drop 2)))) with
        | none => .error 32
        | some p => .ok ⟨s, h, p, pathOf (aft 47 (bef 63 (rest.drop 2))), hasB 63 (rest.drop 2), aft 63 (rest.drop 2), []⟩
  else .error 30

/-- The scheme of a text without what stands at its ends, and what follows. -/
def cutS (t : List UInt8) : Except Int (List UInt8 × List UInt8) :=
  if decide (2000 < t.length) || (!hasB 58 t || !schemeB (lower (bef 58 t))) then .error 30
  else if knownB (lower (bef 58 t)) then .ok (lower (bef 58 t), aft 58 t) else .error 31
/-- The URL of the net that a text is. -/
def netU (l : List UInt8) : Option URL :=
  match cutS (trimU l) with
  | .error _ => none
  | .ok (s, a) => if visB (bef 35 a) && netB s then (web s (bef 35 a)).toOption else none
def restB (s rest : List UInt8) : Bool :=
  if s = sAbout then rest == sBlank || rest == sSrcdoc
  else if s = sBlob then (netU rest).isSome || begB sNull rest
  else true
def parse (l : List UInt8) : Except Int URL :=
  match cutS (trimU l) with
  | .error e => .error e
  | .ok (s, a) =>
    if visB (bef 35 a) then
      if netB s then web s (bef 35 a)
      else if restB s (bef 35 a) then .ok ⟨s, Hst.none_, -1, [], false, [], bef 35 a⟩ else .error 30
    else .error 30
def innerU (u : URL) : Option URL := if u.scheme = sBlob then netU u.rest else none

/-! ### small laws -/
theorem web_scheme {s r : List UInt8} {u : URL} (h : web s r = .ok u) : u.scheme = s := by
  unfold web at h
  repeat' split at h
  all_goals first | (cases h; done) | (cases h; rfl)
theorem netU_parse (l : List UInt8) : netU l = match parse l with | .ok u => if netB u.scheme then some u else none | .error _ => none := by
  unfold netU parse
  cases hc : cutS (trimU l) with
  | error e => rfl
  | ok x =>
    obtain ⟨s, a⟩ := x
    simp only
    cases hv : visB (bef 35 a) with
    | false => simp
    | true =>
      cases hn : netB s with
      | true =>
        simp only [Bool.and_true, if_true]
        cases hw : web s (bef 35 a) with
        | error e => rfl
        | ok u => simp [web_scheme hw, hn, Except.toOption]
      | false =>
        simp only [Bool.and_false, Bool.false_eq_true, if_false, if_true]
        cases restB s (bef 35 a) <;> simp [hn]
theorem dropWhile_len (p : UInt8 → Bool) (l : List UInt8) : (l.dropWhile p).length ≤ l.length := (List.dropWhile_suffix (p := p) (l := l)).length_le
theorem trimU_len (l : List UInt8) : (trimU l).length ≤ l.length := by
  unfold trimU
  have h1 := dropWhile_len outerB l
  have h2 := dropWhile_len outerB (l.dropWhile outerB).reverse
  simp only [List.length_reverse] at h2 ⊢
  omega
theorem bef_len (c : UInt8) (l : List UInt8) : (bef c l).length ≤ l.length := (List.takeWhile_prefix (p := fun b => b != c) (l := l)).length_le
theorem aft_len (c : UInt8) (l : List UInt8) : (aft c l).length ≤ l.length := by
  unfold aft
  have := dropWhile_len (fun b => b != c) l
  rw [List.length_drop]; omega
theorem aft_lt {c : UInt8} {l : List UInt8} (h : hasB c l = true) : (aft c l).length < l.length := by
  unfold aft
  have h1 := dropWhile_len (fun b => b != c) l
  rw [List.length_drop]
  cases l with
  | nil => simp [hasB] at h
  | cons b l => simp only [List.length_cons] at h1 ⊢; omega
theorem cutS_ok {t : List UInt8} {s a : List UInt8} (h : cutS t = .ok (s, a)) : decide (2000 < t.length) = false ∧ hasB 58 t = true ∧ schemeB s = true ∧ knownB s = true ∧ s = lower (bef 58 t) ∧ a = aft 58 t := by
  unfold cutS at h
  split at h
  · cases h
  · rename_i hx
    split at h
    · rename_i hk
      cases h
      simp only [Bool.or_eq_true, not_or, Bool.not_eq_true, Bool.not_eq_false'] at hx
      exact ⟨hx.1, hx.2.1, hx.2.2, hk, rfl, rfl⟩
    · cases h
theorem cut_index (c : UInt8) : ∀ l : List UInt8, (Lib.indexByte l c = -1 ∧ hasB c l = false ∧ bef c l = l ∧ aft c l = []) ∨ ∃ i : Nat, Lib.indexByte l c = i ∧ i < l.length ∧ hasB c l = true ∧ bef c l = l.take i ∧ aft c l = l.drop (i + 1)
  | [] => .inl ⟨rfl, rfl, rfl, rfl⟩
  | b :: l => by
    by_cases hb : (b == c) = true
    · refine .inr ⟨0, ?_, by simp, by simp [hasB, hb], ?_, ?_⟩
      · unfold Lib.indexByte; simp [hb]
      · simp [bef, bne, hb]
      · simp [aft, bne, hb]
    · have hb' : (b == c) = false := by simpa using hb
      have e1 : bef c (b :: l) = b :: bef c l := by simp [bef, bne, hb']
      have e2 : aft c (b :: l) = aft c l := by simp [aft, bne, hb']
      have e3 : hasB c (b :: l) = hasB c l := by simp [hasB, hb']
      rcases cut_index c l with ⟨h1, h2, h3, h4⟩ | ⟨i, h1, h2, h3, h4, h5⟩
      · refine .inl ⟨?_, by rw [e3, h2], by rw [e1, h3], by rw [e2, h4]⟩
        unfold Lib.indexByte; simp [hb', h1]
      · refine .inr ⟨i + 1, ?_, by simp; omega, by rw [e3, h3], by rw [e1, h4]; rfl, by rw [e2, h5]; rfl⟩
        unfold Lib.indexByte
        simp [hb', h1]
end Urp
end Go.Proofs.YtinjkpbpkedfnaaGreatDoor

/- What the library's trimming of the bytes up to 32 comes to: plain bytes, valid as UTF-8 or not. No function of the program is walked here. -/

namespace Go.Proofs.YtinjkpbpkedfnaaGreatDoor
namespace Urp
open Go.Lib

def outR (r : Nat) : Bool := decide (r ≤ 32)
set_option maxRecDepth 100000 in
theorem decodeN_big (n b0 b1 b2 b3 : Nat) (h : 128 ≤ b0) : 32 < (decodeN n b0 b1 b2 b3).1 := by
  unfold decodeN
  repeat' split
  all_goals first | (exfalso; omega) | (simp only; omega)
theorem getD_get (l : List UInt8) (i : Nat) (h : i < l.length) : l.getD i 0 = l[i] := by simp [List.getD, h]
theorem left_eq (s : ByteArray) : ∀ (f pos : Nat), s.size ≤ pos + f →
    (s.data.toList.drop pos).dropWhile outerB = if idxFuncFrom outR false s f pos = -1 then [] else s.data.toList.drop (idxFuncFrom outR false s f pos).toNat
  | 0, pos, h => by
    rw [List.drop_of_length_le (by rw [← size_eq]; omega)]; rfl
  | f + 1, pos, h => by
    unfold idxFuncFrom
    by_cases hp : pos < s.size
    · have hpl : pos < s.data.toList.length := by rw [← size_eq]; exact hp
      rw [if_pos hp, decode_N]
      have hg := getD_get s.data.toList pos hpl
      rw [List.drop_eq_getElem_cons hpl, ← hg]
      generalize hb : s.data.toList.getD pos 0 = b
      by_cases ha : b.toNat < 128
      · rw [decodeN_ascii _ _ _ _ _ ha]
        simp only
        by_cases ho : b.toNat ≤ 32
        · have e : outR b.toNat = true := by simpa [outR] using ho
          simp only [e, Bool.true_eq_false, if_false]
          rw [List.dropWhile_cons_of_pos (by simpa [outerB] using ho)]
          exact left_eq s f (pos + 1) (by omega)
        · have e : outR b.toNat = false := by simpa [outR] using ho
          rw [e, if_pos rfl, List.dropWhile_cons_of_neg (by simpa [outerB] using ho), if_neg (by omega), Int.toNat_natCast, ← hb, hg, ← List.drop_eq_getElem_cons hpl]
      · have hbig := decodeN_big (s.data.toList.length - pos) b.toNat (s.data.toList.getD (pos + 1) 0).toNat (s.data.toList.getD (pos + 2) 0).toNat (s.data.toList.getD (pos + 3) 0).toNat (by omega)
        have e : outR (decodeN (s.data.toList.length - pos) b.toNat (s.data.toList.getD (pos + 1) 0).toNat (s.data.toList.getD (pos + 2) 0).toNat (s.data.toList.getD (pos + 3) 0).toNat).1 = false := by simpa [outR] using hbig
        rw [e, if_pos rfl, List.dropWhile_cons_of_neg (by simp [outerB]; omega), if_neg (by omega), Int.toNat_natCast, ← hb, hg, ← List.drop_eq_getElem_cons hpl]
    · rw [if_neg hp, List.drop_of_length_le (by rw [← size_eq]; omega)]; rfl
theorem trimLeft_eq (s : ByteArray) : (trimLeftF outR s).data.toList = s.data.toList.dropWhile outerB := by
  have h := left_eq s s.size 0 (by omega)
  rw [List.drop_zero] at h
  rw [h]
  unfold trimLeftF idxFunc
  split
  · rfl
  · rw [extract_data, List.take_of_length_le (by rw [List.length_drop, ← size_eq]; exact Nat.le_refl _)]

theorem last_big (l : List UInt8) (i : Nat) (hi : 0 < i) (hil : i ≤ l.length) (h : 128 ≤ (l.getD (i - 1) 0).toNat) : 32 < (decodeLastL (l.take i)).1 := by
  rcases last_cases l i hi hil with ⟨ha, _⟩ | ⟨_, hd⟩ | ⟨_, st, hst, hd, hsum⟩
  · omega
  · rw [hd]; decide
  · rw [hd, decodeL_N]
    rw [decodeL_N] at hsum
    refine decodeN_big _ _ _ _ _ ?_
    rw [getD_dropU, Nat.add_zero, getD_takeU l i st hst] at hsum ⊢
    rcases Nat.lt_or_ge (l.getD st 0).toNat 128 with hlt | hge
    · rw [decodeN_ascii _ _ _ _ _ hlt] at hsum
      have : st = i - 1 := by simp only at hsum; omega
      subst this; omega
    · exact hge
theorem rev_take (l : List UInt8) (i : Nat) (hi : 0 < i) (hil : i ≤ l.length) : (l.take i).reverse = l.getD (i - 1) 0 :: (l.take (i - 1)).reverse := by
  have h : i - 1 < l.length := by omega
  have e := List.take_succ_eq_append_getElem h
  rw [show i - 1 + 1 = i by omega] at e
  rw [e, getD_get l (i - 1) h]
  simp
theorem right_eq (s : ByteArray) : ∀ (f i : Nat), i ≤ f → i ≤ s.data.toList.length → OpenAt s.data.toList i →
    ((s.data.toList.take i).reverse.dropWhile outerB).reverse = s.data.toList.take (if 0 ≤ lastIdxFuncFrom outR false s f i then (lastIdxFuncFrom outR false s f i).toNat + (decodeL (s.data.toList.drop (lastIdxFuncFrom outR false s f i).toNat)).2 else 0)
  | 0, i, hf, _, _ => by
    obtain rfl : i = 0 := by omega
    simp [lastIdxFuncFrom]
  | f + 1, i, hf, hil, ho => by
    by_cases hi : 0 < i
    · have hw := decodeLastL_width (s.data.toList.take i) (by rw [List.length_take]; omega)
      rw [List.length_take, Nat.min_eq_left hil] at hw
      have hfw := fw_width _ i hi hil ho
      have hstop : ∀ (_ : outR (decodeLastL (s.data.toList.take i)).1 = false) (_ : outerB (s.data.toList.getD (i - 1) 0) = false),
          ((s.data.toList.take i).reverse.dropWhile outerB).reverse = s.data.toList.take (if 0 ≤ lastIdxFuncFrom outR false s (f + 1) i then (lastIdxFuncFrom outR false s (f + 1) i).toNat + (decodeL (s.data.toList.drop (lastIdxFuncFrom outR false s (f + 1) i).toNat)).2 else 0) := by
        intro h1 h2
        unfold lastIdxFuncFrom
        rw [if_pos hi, if_pos h1, if_pos (by omega), Int.toNat_natCast, hfw, Nat.sub_add_cancel hw.2, rev_take _ i hi hil, List.dropWhile_cons_of_neg (by rw [h2]; simp), ← rev_take _ i hi hil, List.reverse_reverse]
      by_cases hb : (s.data.toList.getD (i - 1) 0).toNat < 128
      · have hd : decodeLastL (s.data.toList.take i) = ((s.data.toList.getD (i - 1) 0).toNat, 1) := by
          rcases last_cases _ i hi hil with ⟨_, hd⟩ | ⟨ha, _⟩ | ⟨ha, _⟩
          · exact hd
          · omega
          · omega
        by_cases h32 : (s.data.toList.getD (i - 1) 0).toNat ≤ 32
        · have e : outR (s.data.toList.getD (i - 1) 0).toNat = true := by simpa [outR] using h32
          unfold lastIdxFuncFrom
          rw [if_pos hi, hd]
          simp only [e, Bool.true_eq_false, if_false]
          rw [rev_take _ i hi hil, List.dropWhile_cons_of_pos (by simpa [outerB] using h32)]
          exact right_eq s f (i - 1) (by omega) (by omega) (.inr (by omega))
        · exact hstop (by rw [hd]; simpa [outR] using h32) (by simpa [outerB] using h32)
      · exact hstop (by have := last_big _ i hi hil (by omega); simpa [outR] using this) (by unfold outerB; exact decide_eq_false (by omega))
    · obtain rfl : i = 0 := by omega
      rw [lastIdxFuncFrom_zero]
      simp
theorem lastIdx_lt (s : ByteArray) : ∀ (f i : Nat), i ≤ s.size → lastIdxFuncFrom outR false s f i = -1 ∨ (0 ≤ lastIdxFuncFrom outR false s f i ∧ lastIdxFuncFrom outR false s f i < i)
  | 0, _, _ => .inl rfl
  | f + 1, i, hi => by
    unfold lastIdxFuncFrom
    split
    · have hw := decodeLastL_width (s.data.toList.take i) (by rw [List.length_take, ← size_eq]; omega)
      rw [List.length_take, ← size_eq, Nat.min_eq_left hi] at hw
      split
      · exact .inr ⟨by omega, by omega⟩
      · rcases lastIdx_lt s f (i - (decodeLastL (s.data.toList.take i)).2) (by omega) with h | h
        · exact .inl h
        · exact .inr ⟨h.1, by omega⟩
    · exact .inl rfl
theorem trimRight_eq (s : ByteArray) : (trimRightF outR s).data.toList = (s.data.toList.reverse.dropWhile outerB).reverse := by
  have h := right_eq s s.size s.size (Nat.le_refl _) (by rw [← size_eq]; exact Nat.le_refl _) (.inl (size_eq s))
  rw [List.take_of_length_le (by rw [← size_eq]; exact Nat.le_refl _)] at h
  rw [h]
  unfold trimRightF rightEndF lastIdxFunc
  rw [extract_data, List.drop_zero, Nat.sub_zero]
  congr 1
  split
  · rename_i h0
    congr 2
    rcases lastIdx_lt s s.size s.size (Nat.le_refl _) with hm | hlt
    · omega
    · have hx : s.extract (lastIdxFuncFrom outR false s s.size s.size).toNat s.size = ⟨(s.data.toList.drop (lastIdxFuncFrom outR false s s.size s.size).toNat).toArray⟩ := by
        rw [extract_eq, List.take_of_length_le (by rw [List.length_drop, ← size_eq]; exact Nat.le_refl _)]
      have hxs : (⟨(s.data.toList.drop (lastIdxFuncFrom outR false s s.size s.size).toNat).toArray⟩ : ByteArray).size ≠ 0 := by
        rw [size_eq]
        simp only [List.length_drop]
        rw [← size_eq]
        omega
      rw [hx]
      unfold decodeGoB decodeL
      rw [if_neg hxs]
  · rfl
theorem trimF_eq (s : ByteArray) : trimF outR s = ⟨(trimU s.data.toList).toArray⟩ := by
  have h : (trimF outR s).data.toList = trimU s.data.toList := by
    unfold trimF trimU
    rw [trimRight_eq, trimLeft_eq]
  rw [← h]
end Urp
end Go.Proofs.YtinjkpbpkedfnaaGreatDoor

/- The contracts of the library's cutting of texts at a byte, and of urlp's functions of one text. -/


namespace Go.Proofs.YtinjkpbpkedfnaaGreatDoor
open Go.RowKit

theorem slite_index (s : ByteArray) (c : UInt8) (w : World) (i : Int) (h : Lib.indexByte s.data.toList c = i) : Calls Tryz.prog 107 #[.string s, .string ⟨#[c]⟩] w fun e w' => e = .returned (.int .i64 i) ∧ w = w' := by
  subst h
  exact (Tryz.stringslite_Index_one s c w).mono (by rintro e w' ⟨rfl, rfl⟩; exact ⟨rfl, rfl⟩)

set_option maxHeartbeats 1000000 in
theorem slite_cut (s : ByteArray) (c : UInt8) (w : World) (hs : s.size ≤ maxLen) : Calls Tryz.prog 82 #[.string s, .string ⟨#[c]⟩] w fun e w' => e = .returned (.tuple #[.string (bA (Urp.bef c s.data.toList)), .string (bA (Urp.aft c s.data.toList)), .bool (Urp.hasB c s.data.toList)]) ∧ ∃ n, w' = w.drewN n := by
  unfold maxLen at hs
  rcases Urp.cut_index c s.data.toList with ⟨h1, h2, h3, h4⟩ | ⟨i, h1, h2, h3, h4, h5⟩
  · rw [h2, h3, h4]
    have H1 := Lib.hid h1
    clear h1 h2 h3 h4
    go_enter Tryz.func82, Tryz.ntmps82
    go_wp2_with fail
    refine (slite_index s c w (-1) H1.out).mono ?_
    rintro e w1 ⟨rfl, rfl⟩
    go_wp2_with fail
    go_ret3
    exact ⟨rfl, 0, rfl⟩
  · rw [h3, h4, h5]
    have hi : i < s.size := by simpa using h2
    have e1 : s.extract 0 i = bA (s.data.toList.take i) := by rw [Lib.extract_eq]; simp
    have e2 : s.extract (i + 1) s.size = bA (s.data.toList.drop (i + 1)) := by
      rw [Lib.extract_eq, List.take_of_length_le (by simp)]
    rw [← e1, ← e2]
    have H1 := Lib.hid h1
    clear h1 h2 h3 h4 h5 e1 e2
    go_enter Tryz.func82, Tryz.ntmps82
    go_wp2_with fail
    refine (slite_index s c w i H1.out).mono ?_
    rintro e w1 ⟨rfl, rfl⟩
    go_wp2_with fail
    go_quiet (fail)
    go_wp2_with fail
    go_ret3
    exact ⟨rfl, _, rfl⟩

theorem cut_any (s : ByteArray) (c : UInt8) (w : World) (hs : s.size ≤ maxLen) : Calls Tryz.prog 50 #[.string s, .string ⟨#[c]⟩] w fun e w' => e = .returned (.tuple #[.string (bA (Urp.bef c s.data.toList)), .string (bA (Urp.aft c s.data.toList)), .bool (Urp.hasB c s.data.toList)]) ∧ Below w.heap.size w w' := by
  go_enter Tryz.func50, Tryz.ntmps50
  go_wp2_with fail
  refine (slite_cut s c w hs).mono ?_
  rintro e w1 ⟨rfl, n, rfl⟩
  go_wp2_with fail
  go_ret3
  exact ⟨rfl, ⟨rfl, rfl, rfl, Nat.le_refl _, fun _ _ => rfl⟩⟩
theorem hasPrefix_eq (l p : List UInt8) : Lib.hasPrefix l p = Urp.begB p l := rfl
theorem cutPrefix_any (s : ByteArray) (p : ByteArray) (w : World) : Calls Tryz.prog 62 #[.string s, .string p] w fun e w' => e = .returned (.tuple #[.string (bA (if Urp.begB p.data.toList s.data.toList then s.data.toList.drop p.size else s.data.toList)), .bool (Urp.begB p.data.toList s.data.toList)]) ∧ w = w' :=
  (Tryz.strings_CutPrefix s p w).mono (by
    rintro e w' ⟨rfl, rfl⟩
    refine ⟨?_, rfl⟩
    rw [hasPrefix_eq, Lib.trimPrefix, hasPrefix_eq]
    rfl)
theorem contains_any (s : ByteArray) (c : UInt8) (w : World) : Calls Tryz.prog 83 #[.string s, .string ⟨#[c]⟩] w fun e w' => e = .returned (.bool (Urp.hasB c s.data.toList)) ∧ w = w' :=
  (Tryz.strings_Contains_one s c w).mono (by
    rintro e w' ⟨rfl, rfl⟩
    refine ⟨?_, rfl⟩
    rcases Urp.cut_index c s.data.toList with ⟨h1, h2, _⟩ | ⟨i, h1, _, h3, _⟩
    · rw [h1, h2]; rfl
    · rw [h1, h3, decide_eq_true (by omega)])
theorem prefix_any (s p : ByteArray) (w : World) : Calls Tryz.prog 87 #[.string s, .string p] w fun e w' => e = .returned (.bool (Urp.begB p.data.toList s.data.toList)) ∧ w = w' :=
  (Tryz.strings_HasPrefix s p w).mono (by
    rintro e w' ⟨rfl, rfl⟩
    exact ⟨by rw [hasPrefix_eq], rfl⟩)

/-- The two tables of utf8 are what they are. -/
def Tab8 (w : World) : Prop := Lib.Utf8Tabs 1 2 w
theorem Tab8.below {w w' : World} (h : Tab8 w) (hb : Below w.heap.size w w') : Tab8 w' := Utf8Tabs_below h hb
theorem outer_pred (w : World) : PredAt Tryz.prog 49 #[] encR Urp.outR w := fun W r _ => by
  unfold FnGives
  have hr : decide ((r : Int) ≤ 32) = Urp.outR r := by unfold Urp.outR; rw [Bool.eq_iff_iff]; simp; omega
  have HR := Lib.hid hr
  clear hr
  go_enter Tryz.func49, Tryz.ntmps49
  go_wp2
  all_goals
    go_ret
    exact ⟨by rw [← HR.out]; first | rfl | simp_all, 0, rfl⟩
theorem trimU_any (s : ByteArray) (w : World) (hs : s.size ≤ maxLen) (hT : Tab8 w) : Calls Tryz.prog 48 #[.string s, .func (.func 49) #[] #[]] w fun e w' => e = .returned (.string (bA (Urp.trimU s.data.toList))) ∧ Below w.heap.size w w' := by
  have h := Tryz.strings_TrimFunc 49 #[] (enters_of Tryz.func49 (by kernel_rfl) rfl) Urp.outR s w (by unfold maxLen at hs; omega) hT (outer_pred w)
  rw [Urp.trimF_eq] at h
  exact h

set_option maxHeartbeats 400000 in
theorem isLetter_any (c : Int) (w : World) : Calls Tryz.prog 103 #[.int .u8 c] w fun e w' => e = .returned (.bool (Urp.lowI c)) ∧ w = w' := by
  go_enter Tryz.func103, Tryz.ntmps103
  go_wp2
  all_goals (go_ret; refine ⟨?_, rfl⟩; simp_all [Urp.lowI] <;> omega)

theorem vis_miss (s : ByteArray) (k : Nat) (h : k < s.size) (hc : Urp.visI s[k].toNat = false) : false = Urp.visB s.data.toList := by
  unfold Urp.visB; rw [Oct.allB_miss _ s k h hc]
theorem vis_end (s : ByteArray) (k : Nat) (h : s.size ≤ k) (hi : Oct.allB Urp.visI (s.data.toList.take k) = true) : true = Urp.visB s.data.toList := by
  rw [Oct.take_all s k h] at hi; exact hi.symm
set_option maxHeartbeats 1000000 in
theorem isVisible_any (s : ByteArray) (w : World) (hs : s.size ≤ maxLen) : Calls Tryz.prog 51 #[.string s] w fun e w' => e = .returned (.bool (Urp.visB s.data.toList)) ∧ w = w' := by
  unfold maxLen at hs
  go_enter Tryz.func51, Tryz.ntmps51
  go_wp2
  go_loop [6] (fun i => ∃ k : Nat, k ≤ s.size ∧ i = .int .i64 k ∧ Hid (Oct.allB Urp.visI (s.data.toList.take k) = true)) (fun i => s.size - (intOf i).toNat)
  case atStart => exact ⟨0, Nat.zero_le _, rfl, rfl⟩
  case round =>
    obtain ⟨k, hk, rfl, hin⟩ := hrel
    by_cases hlt : k < s.size
    · cases hl : Urp.visI s[k].toNat with
      | true =>
        have h1 : (32 : Int) < s[k].toNat ∧ (s[k].toNat : Int) ≤ 126 := by simp [Urp.visI] at hl; omega
        obtain ⟨h1, h2⟩ := h1
        go_wp2
        go_round
        case rel => exact ⟨k + 1, by omega, by go_num, Oct.allB_next _ s k hlt hin hl⟩
        case measure => simp [intOf]; omega
      | false =>
        have hx : (s[k].toNat : Int) ≤ 32 ∨ 126 < (s[k].toNat : Int) := by simp [Urp.visI] at hl; omega
        rcases hx with hx | hx
        · go_wp2
          go_ret
          exact ⟨Oct.ret_bool (vis_miss s k hlt hl), rfl⟩
        · have hx2 : 32 < (s[k].toNat : Int) := by omega
          go_wp2
          go_ret
          exact ⟨Oct.ret_bool (vis_miss s k hlt hl), rfl⟩
    · go_wp2
      go_ret
      exact ⟨Oct.ret_bool (vis_end s k (by omega) hin), rfl⟩

theorem sch_miss (s : ByteArray) (k : Nat) (h : k < s.size) (hc : Urp.schI s[k].toNat = false) : false = Urp.schemeB s.data.toList := by
  unfold Urp.schemeB; rw [Oct.allB_miss _ s k h hc]; rfl
theorem sch_nil (s : ByteArray) (h : s.toList.isEmpty = true) : false = Urp.schemeB s.data.toList := by
  rw [Lib.toList_data] at h
  unfold Urp.schemeB
  rw [h]; simp
theorem sch_end (s : ByteArray) (k : Nat) (h : s.size ≤ k) (hi : Oct.allB Urp.schI (s.data.toList.take k) = true) (h0 : s.toList.isEmpty = false) (hp : 0 < s.size) : (!s.toList.isEmpty && Urp.lowI s[0].toNat) = Urp.schemeB s.data.toList := by
  rw [Oct.take_all s k h] at hi
  rw [Lib.toList_data] at h0 ⊢
  unfold Urp.schemeB
  rw [hi, h0, Oct.head_at s hp]; rfl
theorem sch_yes {c : Int} (h : Urp.schI c = true) : Urp.lowI c = true ∨ (Urp.lowI c = false ∧ ((48 ≤ c ∧ c ≤ 57) ∨ (c < 48 ∧ (c != 43) = false) ∨ (c < 48 ∧ (c != 43) = true ∧ (c != 45) = false) ∨ (c < 48 ∧ (c != 43) = true ∧ (c != 45) = true ∧ (c != 46) = false))) := by
  unfold Urp.schI at h
  cases hl : Urp.lowI c <;> simp [hl, Oct.digitI] at h ⊢
  omega
theorem sch_no {c : Int} (h : Urp.schI c = false) : Urp.lowI c = false ∧ (c < 48 ∨ 57 < c) ∧ (c != 43) = true ∧ (c != 45) = true ∧ (c != 46) = true := by
  unfold Urp.schI at h
  cases hl : Urp.lowI c <;> simp [hl, Oct.digitI] at h ⊢
  omega
set_option maxHeartbeats 2000000 in
theorem isScheme_any (s : ByteArray) (w : World) (hs : s.size ≤ maxLen) : Calls Tryz.prog 79 #[.string s] w fun e w' => e = .returned (.bool (Urp.schemeB s.data.toList)) ∧ w = w' := by
  unfold maxLen at hs
  go_enter Tryz.func79, Tryz.ntmps79
  go_wp2
  go_loop [7] (fun i => ∃ k : Nat, k ≤ s.size ∧ i = .int .i64 k ∧ Hid (Oct.allB Urp.schI (s.data.toList.take k) = true)) (fun i => s.size - (intOf i).toNat)
  case atStart => exact ⟨0, Nat.zero_le _, rfl, rfl⟩
  case round =>
    obtain ⟨k, hk, rfl, hin⟩ := hrel
    by_cases hlt : k < s.size
    · cases hl : Urp.schI s[k].toNat with
      | true =>
        rcases sch_yes hl with hd | ⟨hd, ⟨h1, h2⟩ | ⟨h1, h2⟩ | ⟨h1, h2, h3⟩ | ⟨h1, h2, h3, h4⟩⟩
        all_goals
          go_wp2_with (go_at_call 103; refine (isLetter_any _ _).mono ?_; rintro e w' ⟨rfl, rfl⟩)
          go_round
          case rel => exact ⟨k + 1, by omega, by go_num, Oct.allB_next _ s k hlt hin hl⟩
          case measure => simp [intOf]; omega
      | false =>
        obtain ⟨hd, hr, h3, h4, h5⟩ := sch_no hl
        rcases hr with hr | hr
        · go_wp2_with (go_at_call 103; refine (isLetter_any _ _).mono ?_; rintro e w' ⟨rfl, rfl⟩)
          go_ret
          exact ⟨Oct.ret_bool (sch_miss s k hlt hl), rfl⟩
        · have hr2 : 48 ≤ (s[k].toNat : Int) := by omega
          go_wp2_with (go_at_call 103; refine (isLetter_any _ _).mono ?_; rintro e w' ⟨rfl, rfl⟩)
          go_ret
          exact ⟨Oct.ret_bool (sch_miss s k hlt hl), rfl⟩
    · cases he : s.toList.isEmpty with
      | true =>
        have he' := empty_list he
        have HE := Lib.hid he
        clear he
        go_wp2
        go_ret
        exact ⟨Oct.ret_bool (sch_nil s HE.out), rfl⟩
      | false =>
        have he' := empty_no he
        have hp : 0 < s.size := by
          rcases Nat.eq_zero_or_pos s.size with h | h
          · rw [Lib.toList_data] at he
            have : s.data.toList = [] := List.length_eq_zero_iff.1 (by simpa using h)
            rw [this] at he; cases he
          · exact h
        have HE := Lib.hid he
        clear he
        go_wp2_with (go_at_call 103; refine (isLetter_any _ _).mono ?_; rintro e w' ⟨rfl, rfl⟩)
        go_ret
        exact ⟨Oct.ret_bool (sch_end s k (by omega) hin HE.out hp), rfl⟩
end Go.Proofs.YtinjkpbpkedfnaaGreatDoor

/- Laws of a path's segments: how many bytes remain, and that none remains that is points. No function of the program is walked here. -/

namespace Go.Proofs.YtinjkpbpkedfnaaGreatDoor
namespace Urp
open Oct

/-- The bytes of texts, each with one more. -/
def wt (ks : List (List UInt8)) : Nat := (ks.map fun k => k.length + 1).sum
theorem wt_nil : wt [] = 0 := rfl
theorem wt_cons (x : List UInt8) (r : List (List UInt8)) : wt (x :: r) = x.length + 1 + wt r := by simp [wt]
theorem wt_append (a b : List (List UInt8)) : wt (a ++ b) = wt a + wt b := by simp [wt]
theorem wt_dropLast (a : List (List UInt8)) : wt a.dropLast ≤ wt a := by
  rcases List.eq_nil_or_concat a with rfl | ⟨b, x, rfl⟩
  · simp
  · rw [List.concat_eq_append, List.dropLast_concat, wt_append]; omega
theorem wt_step (last : Bool) (k : List (List UInt8)) (x : List UInt8) : wt (stepC last k x) ≤ wt k + (x.length + 1) := by
  have h := wt_dropLast k
  have e : wt [([] : List UInt8)] = 1 := rfl
  unfold stepC
  repeat' split
  all_goals first | rw [wt_append, e] | rw [wt_append, wt_cons, wt_nil] | skip
  all_goals omega
theorem wt_walk : ∀ (ps k : List (List UInt8)), wt (walk k ps) ≤ wt k + wt ps
  | [], k => by simp [walk, wt_nil]
  | x :: r, k => by
    have h1 := wt_walk r (stepC r.isEmpty k x)
    have h2 := wt_step r.isEmpty k x
    rw [wt_cons]
    show wt (walk (stepC r.isEmpty k x) r) ≤ _
    omega
theorem join_wt : ∀ ks : List (List UInt8), ks ≠ [] → (join 47 ks).length + 1 = wt ks
  | [], h => absurd rfl h
  | [p], _ => by simp [join, wt]
  | p :: q :: r, _ => by
    have := join_wt (q :: r) (by simp)
    rw [wt_cons, ← this]
    simp [join]; omega
theorem wt_segs (p : List UInt8) : wt (segs p) = p.length + 1 := by
  have h := join_wt (segs p) (Hst.split_ne _ p)
  have e : join 47 (segs p) = p := join_split 47 p
  rw [e] at h; exact h.symm
theorem step_ne (k : List (List UInt8)) (x : List UInt8) : stepC true k x ≠ [] := by
  unfold stepC
  repeat' split
  all_goals first | (simp; done) | (rename_i h; exact absurd rfl h)
theorem walk_ne : ∀ (ps k : List (List UInt8)), ps ≠ [] → walk k ps ≠ []
  | [], _, h => absurd rfl h
  | [x], k, _ => by show walk (stepC true k x) [] ≠ []; exact step_ne k x
  | x :: y :: r, k, _ => by show walk (stepC false k x) (y :: r) ≠ []; exact walk_ne (y :: r) _ (by simp)
theorem walk_segs_ne (p : List UInt8) : walk [] (segs p) ≠ [] := walk_ne _ _ (Hst.split_ne _ p)
theorem join_path_len (p : List UInt8) : (join 47 (walk [] (segs p))).length ≤ p.length := by
  have h1 := join_wt _ (walk_segs_ne p)
  have h2 := wt_walk (segs p) []
  rw [wt_segs, wt_nil] at h2
  omega
/-- What a round does. -/
theorem walk_at (ps k : List (List UInt8)) (i : Nat) (h : i < ps.length) : walk k (ps.drop i) = walk (stepC (decide (i + 1 = ps.length)) k ps[i]) (ps.drop (i + 1)) := by
  rw [List.drop_eq_getElem_cons h]
  show walk (stepC (ps.drop (i + 1)).isEmpty k ps[i]) (ps.drop (i + 1)) = _
  have e : (ps.drop (i + 1)).isEmpty = decide (i + 1 = ps.length) := by
    rw [Bool.eq_iff_iff, List.isEmpty_iff, List.drop_eq_nil_iff, decide_eq_true_eq]
    omega
  rw [e]
theorem walk_end (ps k : List (List UInt8)) (i : Nat) (h : ps.length ≤ i) : walk k (ps.drop i) = k := by
  rw [List.drop_of_length_le h]; rfl
theorem step_dd_last (k : List (List UInt8)) : stepC true k dot2 = k.dropLast ++ [[]] := rfl
theorem step_dd (k : List (List UInt8)) : stepC false k dot2 = k.dropLast := rfl
theorem step_d_last (k : List (List UInt8)) : stepC true k dot1 = k ++ [[]] := rfl
theorem step_d (k : List (List UInt8)) : stepC false k dot1 = k := rfl
theorem step_x (b : Bool) (k : List (List UInt8)) (x : List UInt8) (h1 : ¬ x = dot2) (h2 : ¬ x = dot1) : stepC b k x = k ++ [x] := by unfold stepC; rw [if_neg h1, if_neg h2]
end Urp
end Go.Proofs.YtinjkpbpkedfnaaGreatDoor

/- URLs as values and in memory; the contracts of urlp.Net and of cutScheme. -/

namespace Go.Proofs.YtinjkpbpkedfnaaGreatDoor
open Go.RowKit

def uCells (u : Urp.URL) : Array Value := #[.string (bA u.scheme), .string (bA u.host.name), .bool u.host.v4, .int .u32 u.host.addr, .int .i64 u.port, .string (bA u.path), .bool u.hasq, .string (bA u.query), .string (bA u.rest)]
/-- A URL as a value. -/
def urlV (u : Urp.URL) : Value := .agg (uCells u)
def getU (r : Except Int Urp.URL) : Urp.URL := match r with | .ok u => u | .error _ => Urp.zeroU
def errU (r : Except Int Urp.URL) : Int := match r with | .ok _ => 0 | .error e => e
/-- What Parse answers: the URL, and its error's number. -/
def resV (r : Except Int Urp.URL) : Value := .tuple #[urlV (getU r), .int .i64 (errU r)]
/-- What Inner answers. -/
def inV (o : Option Urp.URL) : Value := .tuple #[urlV (o.getD Urp.zeroU), .bool o.isSome]
def cutV (r : Except Int (List UInt8 × List UInt8)) : Value := match r with
  | .ok (s, a) => .tuple #[.string (bA s), .string (bA a), .int .i64 0]
  | .error e => .tuple #[.string ⟨#[]⟩, .string ⟨#[]⟩, .int .i64 e]

/-- A block that holds a URL. -/
def UBox (W : World) (B : Nat) (u : Urp.URL) : Prop := W.heap[B]? = some (.cells (uCells u) 43 (0, 0))
theorem UBox.new (W : World) (u : Urp.URL) : UBox (W.alloc (.cells (uCells u) 43)) W.heap.size u := World.alloc_heap_new W _
theorem UBox.lt {W : World} {B : Nat} {u : Urp.URL} (h : UBox W B u) : B < W.heap.size := (Array.getElem?_eq_some_iff.1 h).1
theorem UBox.below {W W' : World} {B C : Nat} {u : Urp.URL} (h : UBox W B u) (hb : Below C W W') (hC : B < C) : UBox W' B u := (hb.block B hC).trans h
theorem UBox.keep {W W' : World} {B : Nat} {u : Urp.URL} (h : UBox W B u) (hb : Below W.heap.size W W') : UBox W' B u := h.below hb h.lt
theorem UBox.alloc {W : World} {B : Nat} {u : Urp.URL} (h : UBox W B u) (o : Obj) : UBox (W.alloc o) B u := by
  have hl := h.lt
  have h' : W.heap[B]? = _ := h
  unfold UBox
  show (W.heap.push o)[B]? = _
  rw [Array.getElem?_push_lt hl, ← Array.getElem?_eq_getElem hl, h']
theorem UBox.c {W : World} {B : Nat} {u : Urp.URL} (h : UBox W B u) (i : Nat) : W.cell? ⟨B, i, none⟩ = (uCells u)[i]? := by simp [World.cell?, show W.heap[B]? = _ from h]
theorem UBox.fr {W : World} {B : Nat} {u : Urp.URL} (h : UBox W B u) (i : Nat) : W.frozen? ⟨B, i, none⟩ = false := by simp [World.frozen?, show W.heap[B]? = _ from h]
theorem UBox.c0 {W : World} {B : Nat} {u : Urp.URL} (h : UBox W B u) : W.cell? ⟨B, 0, none⟩ = some (.string (bA u.scheme)) := h.c 0
theorem UBox.c1 {W : World} {B : Nat} {u : Urp.URL} (h : UBox W B u) : W.cell? ⟨B, 1, none⟩ = some (.string (bA u.host.name)) := h.c 1
theorem UBox.c2 {W : World} {B : Nat} {u : Urp.URL} (h : UBox W B u) : W.cell? ⟨B, 2, none⟩ = some (.bool u.host.v4) := h.c 2
theorem UBox.c3 {W : World} {B : Nat} {u : Urp.URL} (h : UBox W B u) : W.cell? ⟨B, 3, none⟩ = some (.int .u32 u.host.addr) := h.c 3
theorem UBox.c4 {W : World} {B : Nat} {u : Urp.URL} (h : UBox W B u) : W.cell? ⟨B, 4, none⟩ = some (.int .i64 u.port) := h.c 4
theorem UBox.c5 {W : World} {B : Nat} {u : Urp.URL} (h : UBox W B u) : W.cell? ⟨B, 5, none⟩ = some (.string (bA u.path)) := h.c 5
theorem UBox.c6 {W : World} {B : Nat} {u : Urp.URL} (h : UBox W B u) : W.cell? ⟨B, 6, none⟩ = some (.bool u.hasq) := h.c 6
theorem UBox.c7 {W : World} {B : Nat} {u : Urp.URL} (h : UBox W B u) : W.cell? ⟨B, 7, none⟩ = some (.string (bA u.query)) := h.c 7
theorem UBox.c8 {W : World} {B : Nat} {u : Urp.URL} (h : UBox W B u) : W.cell? ⟨B, 8, none⟩ = some (.string (bA u.rest)) := h.c 8
/-- The nine cells are written anew. -/
def set9 (W : World) (B : Nat) (u : Urp.URL) : World :=
  ((((((((W.setCell ⟨B, 0, none⟩ (.string (bA u.scheme))).setCell ⟨B, 1, none⟩ (.string (bA u.host.name))).setCell ⟨B, 2, none⟩ (.bool u.host.v4)).setCell ⟨B, 3, none⟩ (.int .u32 u.host.addr)).setCell ⟨B, 4, none⟩ (.int .i64 u.port)).setCell ⟨B, 5, none⟩ (.string (bA u.path))).setCell ⟨B, 6, none⟩ (.bool u.hasq)).setCell ⟨B, 7, none⟩ (.string (bA u.query))).setCell ⟨B, 8, none⟩ (.string (bA u.rest))
theorem UBox.set {W : World} {B : Nat} {u : Urp.URL} (h : UBox W B u) (v : Urp.URL) : UBox (set9 W B v) B v := by
  have h' : W.heap[B]? = _ := h
  unfold UBox set9
  simp [World.setCell, Array.getElem?_modify, h', uCells]
theorem UBox.other {W : World} {B C : Nat} {u : Urp.URL} (h : UBox W B u) (v : Urp.URL) (hne : C ≠ B) : UBox (set9 W C v) B u := by
  have h' : W.heap[B]? = _ := h
  unfold UBox set9
  simp [World.setCell, Array.getElem?_modify, h', hne]
theorem below_set9 {W W' : World} {C B : Nat} (h : Below C W W') (hC : C ≤ B) (u : Urp.URL) : Below C W (set9 W' B u) :=
  ((((((((h.setCell (p := ⟨B, 0, none⟩) hC _).setCell (p := ⟨B, 1, none⟩) hC _).setCell (p := ⟨B, 2, none⟩) hC _).setCell (p := ⟨B, 3, none⟩) hC _).setCell (p := ⟨B, 4, none⟩) hC _).setCell (p := ⟨B, 5, none⟩) hC _).setCell (p := ⟨B, 6, none⟩) hC _).setCell (p := ⟨B, 7, none⟩) hC _).setCell (p := ⟨B, 8, none⟩) hC _
theorem size_set9 (W : World) (B : Nat) (u : Urp.URL) : (set9 W B u).heap.size = W.heap.size := by simp [set9, World.setCell]

theorem netV_any (sc hn : ByteArray) (hb : Bool) (ha po : Int) (pa : ByteArray) (hq : Bool) (qu re : ByteArray) (w : World) : Calls Tryz.prog 24 #[.agg #[.string sc, .string hn, .bool hb, .int .u32 ha, .int .i64 po, .string pa, .bool hq, .string qu, .string re]] w fun e w' => e = .returned (.bool (Urp.netB sc.data.toList)) ∧ Below w.heap.size w w' := by
  go_enter Tryz.func24, Tryz.ntmps24
  go_wp2
  · go_ret
    rename_i h
    rw [Lib.toList_data] at h
    refine ⟨Oct.ret_bool ?_, (Below.refl _ _).alloc (Nat.le_refl _) _⟩
    unfold Urp.netB; rw [h]; rfl
  · go_ret
    refine ⟨Oct.ret_bool ?_, (Below.refl _ _).alloc (Nat.le_refl _) _⟩
    rw [Lib.toList_data]; rfl
theorem net_any (u : Urp.URL) (w : World) : Calls Tryz.prog 24 #[urlV u] w fun e w' => e = .returned (.bool (Urp.netB u.scheme)) ∧ Below w.heap.size w w' :=
  netV_any (bA u.scheme) (bA u.host.name) u.host.v4 u.host.addr u.port (bA u.path) u.hasq (bA u.query) (bA u.rest) w

theorem cutS_err {t : List UInt8} (h : (decide (2000 < t.length) || (!Urp.hasB 58 t || !Urp.schemeB (Oct.lower (Urp.bef 58 t)))) = true) : cutV (Urp.cutS t) = .tuple #[.string ⟨#[]⟩, .string ⟨#[]⟩, .int .i64 30] := by
  unfold Urp.cutS; rw [if_pos h]; rfl
theorem cutS_known {t : List UInt8} (h : (decide (2000 < t.length) || (!Urp.hasB 58 t || !Urp.schemeB (Oct.lower (Urp.bef 58 t)))) = false) (hk : Urp.knownB (Oct.lower (Urp.bef 58 t)) = true) : cutV (Urp.cutS t) = .tuple #[.string (bA (Oct.lower (Urp.bef 58 t))), .string (bA (Urp.aft 58 t)), .int .i64 0] := by
  unfold Urp.cutS; rw [if_neg (by rw [h]; simp), if_pos hk]; rfl
theorem cutS_not {t : List UInt8} (h : (decide (2000 < t.length) || (!Urp.hasB 58 t || !Urp.schemeB (Oct.lower (Urp.bef 58 t)))) = false) (hk : Urp.knownB (Oct.lower (Urp.bef 58 t)) = false) : cutV (Urp.cutS t) = .tuple #[.string ⟨#[]⟩, .string ⟨#[]⟩, .int .i64 31] := by
  unfold Urp.cutS; rw [if_neg (by rw [h]; simp), if_neg (by rw [hk]; simp)]; rfl
theorem below_on {w w1 w2 : World} (h1 : Below w.heap.size w w1) (h2 : Below w1.heap.size w1 w2) : Below w.heap.size w w2 := h1.trans (h2.mono h1.size)

set_option maxHeartbeats 1000000 in
theorem cutScheme_any (t : ByteArray) (w : World) (hs : t.size ≤ maxLen) : Calls Tryz.prog 47 #[.string t] w fun e w' => e = .returned (cutV (Urp.cutS t.data.toList)) ∧ Below w.heap.size w w' := by
  have hbl : (bA (Urp.bef 58 t.data.toList)).size ≤ maxLen := by
    have := Urp.bef_len 58 t.data.toList
    rw [bA_size]; have e : t.data.toList.length = t.size := by simp
    omega
  obtain ⟨n, hn⟩ : ∃ n : ByteArray, n = bA (Oct.lower (bA (Urp.bef 58 t.data.toList)).data.toList) := ⟨_, rfl⟩
  have hnl : Oct.lower (Urp.bef 58 t.data.toList) = n.data.toList := by rw [hn]
  have hns : n.size ≤ maxLen := by rw [hn]; exact lower_size _ hbl
  have hlow : ∀ W : World, Calls Tryz.prog 27 #[.string (bA (Urp.bef 58 t.data.toList))] W fun e w' => e = .returned (.string n) ∧ Below W.heap.size W w' := fun W => by rw [hn]; exact lower_any _ W hbl
  obtain ⟨x, hx⟩ : ∃ x, (decide (2000 < t.data.toList.length) || (!Urp.hasB 58 t.data.toList || !Urp.schemeB (Oct.lower (Urp.bef 58 t.data.toList)))) = x := ⟨_, rfl⟩
  have HX := Lib.hid hx
  have HL := Lib.hid hlow
  have HN := Lib.hid hnl
  rw [hnl] at hx
  have hlen : t.data.toList.length = t.size := by simp
  rw [hlen] at hx
  clear hn hlow hnl hlen
  by_cases hbig : 2000 < t.size
  · have hbig' : (2000 : Int) < (t.size : Int) := by omega
    obtain rfl : x = true := by rw [← hx, decide_eq_true hbig]; rfl
    have HR := Lib.hid (cutS_err HX.out)
    clear hx hbig
    go_enter Tryz.func47, Tryz.ntmps47
    go_wp2_with fail
    refine (cut_any t 58 w hs).mono ?_
    rintro e w1 ⟨rfl, hb1⟩
    go_wp2_with fail
    refine (HL.out _).mono ?_
    rintro e w2 ⟨rfl, hb2⟩
    go_wp2_with fail
    go_ret3
    exact ⟨by rw [HR.out]; rfl, below_on hb1 hb2⟩
  have hsm : (t.size : Int) ≤ 2000 := by omega
  rw [decide_eq_false hbig, Bool.false_or] at hx
  clear hbig
  cases hh : Urp.hasB 58 t.data.toList with
  | false =>
    obtain rfl : x = true := by rw [← hx, hh]; rfl
    have HR := Lib.hid (cutS_err HX.out)
    have HH := Lib.hid hh
    clear hx hh
    go_enter Tryz.func47, Tryz.ntmps47
    go_wp2_with fail
    refine (cut_any t 58 w hs).mono ?_
    rintro e w1 ⟨rfl, hb1⟩
    rw [HH.out]
    go_wp2_with fail
    refine (HL.out _).mono ?_
    rintro e w2 ⟨rfl, hb2⟩
    go_wp2_with fail
    go_ret3
    exact ⟨by rw [HR.out]; rfl, below_on hb1 hb2⟩
  | true =>
    rw [hh] at hx
    have HH := Lib.hid hh
    clear hh
    cases hc : Urp.schemeB n.data.toList with
    | false =>
      obtain rfl : x = true := by rw [← hx, hc]; rfl
      have HR := Lib.hid (cutS_err HX.out)
      have HC := Lib.hid hc
      clear hx hc
      go_enter Tryz.func47, Tryz.ntmps47
      go_wp2_with fail
      refine (cut_any t 58 w hs).mono ?_
      rintro e w1 ⟨rfl, hb1⟩
      rw [HH.out]
      go_wp2_with fail
      refine (HL.out _).mono ?_
      rintro e w2 ⟨rfl, hb2⟩
      go_wp2_with fail
      refine (isScheme_any n w2 hns).mono ?_
      rintro e w3 ⟨rfl, rfl⟩
      rw [HC.out]
      go_wp2_with fail
      go_ret3
      exact ⟨by rw [HR.out]; rfl, below_on hb1 hb2⟩
    | true =>
      obtain rfl : x = false := by rw [← hx, hc]; rfl
      have HC := Lib.hid hc
      clear hx hc
      go_enter Tryz.func47, Tryz.ntmps47
      go_wp2_with fail
      refine (cut_any t 58 w hs).mono ?_
      rintro e w1 ⟨rfl, hb1⟩
      rw [HH.out]
      go_wp2_with fail
      refine (HL.out _).mono ?_
      rintro e w2 ⟨rfl, hb2⟩
      go_wp2_with fail
      refine (isScheme_any n w2 hns).mono ?_
      rintro e w3 ⟨rfl, rfl⟩
      rw [HC.out]
      go_wp2
      all_goals
        go_ret3
        refine ⟨?_, below_on hb1 hb2⟩
        first
          | (exfalso; simp_all only [Bool.false_eq_true]; done)
          | (have hk : Urp.knownB (Oct.lower (Urp.bef 58 t.data.toList)) = true := by
               rw [HN.out, ← Lib.toList_data]; unfold Urp.knownB Urp.netB Urp.sHttp Urp.sHttps Urp.sAbout Urp.sData Urp.sBlob; simp only [*, Bool.true_or, Bool.or_true]
             rw [cutS_known HX.out hk, HN.out]; rfl)
          | (have hk : Urp.knownB (Oct.lower (Urp.bef 58 t.data.toList)) = false := by
               rw [HN.out, ← Lib.toList_data]; unfold Urp.knownB Urp.netB Urp.sHttp Urp.sHttps Urp.sAbout Urp.sData Urp.sBlob; simp only [*, Bool.or_false]
             rw [cutS_not HX.out hk]; rfl)
end Go.Proofs.YtinjkpbpkedfnaaGreatDoor

/- The contracts of urlp.Inner and isRest, out of Parse's own at the text within. -/

namespace Go.Proofs.YtinjkpbpkedfnaaGreatDoor
open Go.RowKit

set_option maxHeartbeats 1000000 in
theorem load_url {w : World} {B : Nat} {x : Urp.URL} (h : UBox w B x) : (loadVar 43 ⟨B, 0, none⟩).run Tryz.prog w = .ok (urlV x) w := by
  have c0 := h.c0; have c1 := h.c1; have c2 := h.c2; have c3 := h.c3; have c4 := h.c4; have c5 := h.c5; have c6 := h.c6; have c7 := h.c7; have c8 := h.c8
  simp [go_sem, c0, c1, c2, c3, c4, c5, c6, c7, c8, urlV, uCells]
theorem results_url {fn : Func} {t u : Tmp} (h : fn.results = #[.cell t 43, .tmp u]) (tmps : Array Value) (w : World) {B : Nat} {x : Urp.URL} (hp : tmps[t]?.getD undef = .pointer (some ⟨B, 0, none⟩)) (hb : UBox w B x) :
    (results fn tmps).run Tryz.prog w = .ok (.tuple #[urlV x, tmps.getD u undef]) w := by
  have hl := load_url hb
  simp [results, h, hp, hl, asAddr]

def ParsesAt (l : List UInt8) : Prop := ∀ W : World, Tab8 W → Calls Tryz.prog 22 #[.string (bA l)] W fun e w' => e = .returned (resV (Urp.parse l)) ∧ Below W.heap.size W w'

theorem netU_no {l : List UInt8} (h : Urp.netB (getU (Urp.parse l)).scheme = false) : Urp.netU l = none := by
  rw [Urp.netU_parse]
  cases hr : Urp.parse l with
  | error e => rfl
  | ok y =>
    rw [hr] at h
    have : Urp.netB y.scheme = false := h
    simp only [this, Bool.false_eq_true, if_false]
theorem netU_yes {l : List UInt8} (h : Urp.netB (getU (Urp.parse l)).scheme = true) : Urp.netU l = some (getU (Urp.parse l)) := by
  rw [Urp.netU_parse]
  cases hr : Urp.parse l with
  | error e => rw [hr] at h; cases h
  | ok y =>
    rw [hr] at h
    have : Urp.netB y.scheme = true := h
    simp only [this, if_true]; rfl
set_option maxHeartbeats 1000000 in
theorem inner_of (u : Urp.URL) (w : World) (hT : Tab8 w) (hP : ParsesAt u.rest) : Calls Tryz.prog 54 #[urlV u] w fun e w' => e = .returned (inV (Urp.innerU u)) ∧ Below w.heap.size w w' := by
  have hb0 : Below w.heap.size w ((w.alloc (.cells (uCells u) 43)).alloc (.cells (uCells Urp.zeroU) 43)) := ((Below.refl _ w).alloc (Nat.le_refl _) _).alloc (by simp) _
  have q0 : UBox ((w.alloc (.cells (uCells u) 43)).alloc (.cells (uCells Urp.zeroU) 43)) (w.heap.size + 1) Urp.zeroU := by
    have := UBox.new (w.alloc (.cells (uCells u) 43)) Urp.zeroU
    simpa using this
  by_cases hs : u.scheme = Urp.sBlob
  · have hs' : (u.scheme == [98, 108, 111, 98]) = true := beq_iff_eq.2 hs
    have hin : Urp.innerU u = Urp.netU u.rest := by unfold Urp.innerU; rw [if_pos hs]
    rw [hin]
    obtain ⟨o, ho⟩ : ∃ o, Urp.netU u.rest = o := ⟨_, rfl⟩
    rw [ho]
    have HO := Lib.hid ho
    have HP := Lib.hid hP
    clear hs hin hP ho
    have HB := Lib.hid hb0
    unfold urlV
    unfold uCells at q0 hb0 ⊢
    have hT0 := hT.below hb0
    go_enter Tryz.func54, Tryz.ntmps54
    go_wp2_with fail
    refine (HP.out _ hT0).mono ?_
    rintro e w1 ⟨rfl, hb1⟩
    have q1 := UBox.keep q0 hb1
    have hbw1 := below_on hb0 hb1
    clear hb0 q0 hb1 hT0
    unfold resV urlV uCells
    obtain ⟨x, hx⟩ : ∃ x, getU (Urp.parse u.rest) = x := ⟨_, rfl⟩
    obtain ⟨e, he⟩ : ∃ e, errU (Urp.parse u.rest) = e := ⟨_, rfl⟩
    rw [hx, he]
    have HX := Lib.hid hx
    clear hx he
    go_wp2_with fail
    refine (netV_any _ _ _ _ _ _ _ _ _ _).mono ?_
    rintro e2 w2 ⟨rfl, hb2⟩
    have hq : ∀ o : Obj, UBox (w1.alloc o) (w.heap.size + 1) Urp.zeroU := fun o => q1.alloc o
    have q2 := (hq _).keep hb2
    have qx := (UBox.new w1 x).keep hb2
    have hbw2 := below_on (hbw1.alloc hbw1.size _) hb2
    clear hb2 hq q1
    have c0 := qx.c0; have c1 := qx.c1; have c2 := qx.c2; have c3 := qx.c3; have c4 := qx.c4; have c5 := qx.c5; have c6 := qx.c6; have c7 := qx.c7; have c8 := qx.c8
    have d0 := q2.c0; have d1 := q2.c1; have d2 := q2.c2; have d3 := q2.c3; have d4 := q2.c4; have d5 := q2.c5; have d6 := q2.c6; have d7 := q2.c7; have d8 := q2.c8
    have f := q2.fr
    cases hn : Urp.netB (bA x.scheme).data.toList with
    | false =>
      have HN := Lib.hid hn
      clear hn
      go_wp2_with fail
      refine bodyPost_ret (results_url rfl _ _ rfl (q2.set Urp.zeroU)) rfl ⟨?_, below_set9 hbw2 (by omega) Urp.zeroU⟩
      rw [← HO.out, netU_no (by rw [HX.out]; exact HN.out)]; rfl
    | true =>
      have HN := Lib.hid hn
      clear hn
      go_wp2_with fail
      refine bodyPost_ret (results_url rfl _ _ rfl (q2.set x)) rfl ⟨?_, below_set9 hbw2 (by omega) x⟩
      rw [← HO.out, netU_yes (by rw [HX.out]; exact HN.out), HX.out]; rfl
  · have hs' : (u.scheme == [98, 108, 111, 98]) = false := beq_eq_false_iff_ne.2 hs
    have hin : Urp.innerU u = none := by unfold Urp.innerU; rw [if_neg hs]
    rw [hin]
    have HB := Lib.hid hb0
    have HQ := Lib.hid q0
    clear hs hin hb0 q0
    unfold urlV uCells
    go_enter Tryz.func54, Tryz.ntmps54
    go_wp2_with fail
    exact bodyPost_ret (results_url rfl _ _ rfl HQ.out) rfl ⟨rfl, HB.out⟩

theorem restB_about (rest : List UInt8) : Urp.restB Urp.sAbout rest = (rest == Urp.sBlank || rest == Urp.sSrcdoc) := by unfold Urp.restB; rw [if_pos rfl]
theorem restB_blob (rest : List UInt8) : Urp.restB Urp.sBlob rest = ((Urp.netU rest).isSome || Urp.begB Urp.sNull rest) := by unfold Urp.restB; rw [if_neg (by decide), if_pos rfl]
theorem restB_else (s rest : List UInt8) (h1 : ¬ s = Urp.sAbout) (h2 : ¬ s = Urp.sBlob) : Urp.restB s rest = true := by unfold Urp.restB; rw [if_neg h1, if_neg h2]
set_option maxHeartbeats 1000000 in
theorem isRest_of (s rest : List UInt8) (w : World) (hT : Tab8 w) (hP : ParsesAt rest) : Calls Tryz.prog 53 #[.string (bA s), .string (bA rest)] w fun e w' => e = .returned (.bool (Urp.restB s rest)) ∧ Below w.heap.size w w' := by
  by_cases h1 : s = Urp.sAbout
  · subst h1
    rw [restB_about]
    have h1' : (bA Urp.sAbout).toList = [97, 98, 111, 117, 116] := by rw [Lib.toList_data]; rfl
    go_enter Tryz.func53, Tryz.ntmps53
    go_wp2
    all_goals
      go_ret
      refine ⟨Oct.ret_bool ?_, Below.refl _ _⟩
      first
        | rfl
        | (rename_i h; rw [h]; rfl)
  · have h1' : (s == [97, 98, 111, 117, 116]) = false := beq_eq_false_iff_ne.2 h1
    by_cases h2 : s = Urp.sBlob
    · have h2' : (s == [98, 108, 111, 98]) = true := beq_iff_eq.2 h2
      have hin := inner_of ⟨s, Hst.none_, 0, [], false, [], rest⟩ w hT hP
      have hi2 : Urp.innerU ⟨s, Hst.none_, 0, [], false, [], rest⟩ = Urp.netU rest := by unfold Urp.innerU; rw [if_pos h2]
      rw [hi2] at hin
      unfold urlV uCells inV at hin
      have hre : Urp.restB s rest = ((Urp.netU rest).isSome || Urp.begB Urp.sNull rest) := by rw [h2]; exact restB_blob rest
      rw [hre]
      clear h1 h2 hi2 hre
      unfold urlV uCells at hin
      obtain ⟨x, hx⟩ : ∃ x, (Urp.netU rest).getD Urp.zeroU = x := ⟨_, rfl⟩
      rw [hx] at hin
      clear hx
      cases hs : (Urp.netU rest).isSome with
      | true =>
        rw [hs] at hin
        have HI := Lib.hid hin
        clear hin hs
        go_enter Tryz.func53, Tryz.ntmps53
        go_wp2_with fail
        refine HI.out.mono ?_
        rintro e w1 ⟨rfl, hb1⟩
        go_wp2_with fail
        go_ret
        exact ⟨rfl, hb1.alloc hb1.size _⟩
      | false =>
        rw [hs] at hin
        have HI := Lib.hid hin
        clear hin hs
        go_enter Tryz.func53, Tryz.ntmps53
        go_wp2_with fail
        refine HI.out.mono ?_
        rintro e w1 ⟨rfl, hb1⟩
        go_wp2_with fail
        refine (prefix_any _ _ _).mono ?_
        rintro e2 w2 ⟨rfl, rfl⟩
        go_wp2_with fail
        go_ret
        exact ⟨rfl, hb1.alloc hb1.size _⟩
    · have h2' : (s == [98, 108, 111, 98]) = false := beq_eq_false_iff_ne.2 h2
      rw [restB_else s rest h1 h2]
      clear h1 h2
      go_enter Tryz.func53, Tryz.ntmps53
      go_wp2_with fail
      go_ret
      exact ⟨rfl, Below.refl _ _⟩
end Go.Proofs.YtinjkpbpkedfnaaGreatDoor

/- The contract of urlp's parsePort. -/
namespace Go.Proofs.YtinjkpbpkedfnaaGreatDoor
open Go.RowKit
open Go.Maps Go.WideMaps

def portV (o : Option Int) : Value := match o with | some p => .tuple #[.int .i64 p, .int .i64 0] | none => .tuple #[.int .i64 0, .int .i64 32]
theorem lawS : Keyed Tryz.prog 9 := string_keyed Tryz.underlying9
theorem zeroI (w : World) : (zeroValue 3).run Tryz.prog w = .ok (.int .i64 0) w := by kernel_rfl
def dMap : DataW Unit := ((DataW.map []).put (.string Urp.sHttp) (.lit (.int .i64 80))).put (.string Urp.sHttps) (.lit (.int .i64 443))
theorem map_made (w : World) : ∃ w1 w2 : World, (Instr.mapUpdate 92 (.map (some w.heap.size)) (.string ⟨#[104, 116, 116, 112]⟩) (.int .i64 80)).run Tryz.prog (w.alloc (.map #[] 0)) = .ok () w1 ∧
    (Instr.mapUpdate 92 (.map (some w.heap.size)) (.string ⟨#[104, 116, 116, 112, 115]⟩) (.int .i64 443)).run Tryz.prog w1 = .ok () w2 ∧ w2.ownsMap Tryz.prog 9 (plainElem Tryz.prog 3) w.heap.size 2 dMap ∧ Below w.heap.size w w2 := by
  obtain ⟨w1, r1, o1, g1⟩ := (World.ownsMap_made (H := Unit) w Tryz.prog 9 (plainElem Tryz.prog 3)).update lawS Tryz.underlying92 (by unfold maxLen; omega) (key := .string ⟨#[104, 116, 116, 112]⟩) (val := .int .i64 80) (keyOf_string_mk Tryz.underlying9 (by decide)) (plainElem_int Tryz.underlying3 (by decide))
  obtain ⟨w2, r2, o2, g2⟩ := o1.update lawS Tryz.underlying92 (by unfold maxLen; omega) (key := .string ⟨#[104, 116, 116, 112, 115]⟩) (val := .int .i64 443) (keyOf_string_mk Tryz.underlying9 (by decide)) (plainElem_int Tryz.underlying3 (by decide))
  have hb0 : Below w.heap.size w (w.alloc (.map #[] 0)) := (Below.refl _ w).alloc (Nat.le_refl _) _
  have hb1 := hb0.grown g1 (by simp) (fun j hj => by cases hj; exact Nat.le_refl _)
  have hb2 := hb1.grown g2 hb1.size (fun j hj => by cases hj; exact Nat.le_refl _)
  exact ⟨w1, w2, r1, r2, o2, hb2⟩
theorem look_own {w : World} {B : Nat} (h : w.ownsMap Tryz.prog 9 (plainElem Tryz.prog 3) B 2 dMap) (s : List UInt8) (hs : Urp.netB s = true) :
    (Instr.lookup 92 (.map (some B)) (.string (bA s)) false).run Tryz.prog w = .ok (.int .i64 (Urp.own s)) w := by
  have h2 : s = Urp.sHttp ∨ s = Urp.sHttps := by
    unfold Urp.netB at hs
    rw [Bool.or_eq_true, beq_iff_eq, beq_iff_eq] at hs
    exact hs
  have hl : (bA s).size ≤ maxLen := by
    rcases h2 with rfl | rfl <;> decide
  obtain ⟨c, hr, hat, _⟩ := h.lookup_int lawS Tryz.underlying92 Tryz.underlying3 (zeroI w) (key := .string (bA s)) (keyOf_string_mk Tryz.underlying9 hl)
  rw [hr]
  rcases h2 with rfl | rfl
  · have e : dMap.atKey (.string (bA Urp.sHttp).data.toList) (.lit (.int .i64 0)) = .lit (.int .i64 80) := by rfl
    rw [e] at hat
    rw [← (Lit.int.inj (DataW.lit.inj hat)).2]; rfl
  · have e : dMap.atKey (.string (bA Urp.sHttps).data.toList) (.lit (.int .i64 0)) = .lit (.int .i64 443) := by rfl
    rw [e] at hat
    rw [← (Lit.int.inj (DataW.lit.inj hat)).2]; rfl
theorem own_bd (s : List UInt8) : 0 ≤ Urp.own s ∧ Urp.own s ≤ 443 := by unfold Urp.own; split <;> decide
theorem numV_ok {p : List UInt8} {m : Int} (h : Oct.numOk p m = true) : Oct.numV p m = Oct.val p := by unfold Oct.numV; rw [if_pos h]

set_option maxHeartbeats 1000000 in
theorem parsePort_any (s p : List UInt8) (w : World) (hs : Urp.netB s = true) (hp : p.length ≤ 4000) : Calls Tryz.prog 85 #[.string (bA s), .string (bA p)] w fun e w' => e = .returned (portV (Urp.portOf s p)) ∧ Below w.heap.size w w' := by
  have hnum := fun W => number_any (bA p) 65535 W (by rw [bA_size]; unfold maxLen; omega) (by omega) (by omega)
  have hmm := @run_makeMap Tryz.prog
  obtain ⟨o, ho⟩ : ∃ o, Urp.portOf s p = o := ⟨_, rfl⟩
  rw [ho]
  unfold Urp.portOf at ho
  cases he : p.isEmpty with
  | true =>
    rw [he, if_pos rfl] at ho
    subst ho
    go_enter Tryz.func85, Tryz.ntmps85
    go_wp2_with fail
    go_ret2
    exact ⟨rfl, Below.refl _ _⟩
  | false =>
    rw [he, if_neg (by simp)] at ho
    cases hk : Oct.numOk p 65535 with
    | false =>
      rw [hk, if_neg (by simp)] at ho
      subst ho
      have hnum' : ∀ W, Calls Tryz.prog 96 #[.string (bA p), .int .i64 65535] W fun e w' => e = .returned (.tuple #[.int .i64 (Oct.numV p 65535), .bool false]) ∧ W = w' := fun W => by rw [← hk]; exact hnum W
      have HN := Lib.hid hnum'
      clear hnum hnum' hk
      go_enter Tryz.func85, Tryz.ntmps85
      go_wp2_with fail
      refine (HN.out _).mono ?_
      rintro e w1 ⟨rfl, rfl⟩
      go_wp2_with fail
      go_ret2
      exact ⟨rfl, Below.refl _ _⟩
    | true =>
      rw [hk, if_pos rfl] at ho
      have hnum' : ∀ W, Calls Tryz.prog 96 #[.string (bA p), .int .i64 65535] W fun e w' => e = .returned (.tuple #[.int .i64 (Oct.val p), .bool true]) ∧ W = w' := fun W => by rw [← numV_ok hk, ← hk]; exact hnum W
      have HN := Lib.hid hnum'
      clear hnum hnum' hk
      obtain ⟨w1, w2, r1, r2, o2, hb⟩ := map_made w
      have hlk := look_own o2 s hs
      obtain ⟨x, hx⟩ : ∃ x, Oct.val p = x := ⟨_, rfl⟩
      obtain ⟨y, hy⟩ : ∃ y, Urp.own s = y := ⟨_, rfl⟩
      rw [hx, hy] at ho
      rw [hy] at hlk
      have HX := Lib.hid hx
      have HB := Lib.hid hb
      clear hx hy o2 hb hs
      by_cases hxy : x = y
      · rw [if_pos hxy] at ho
        subst ho
        have hb : (x == y) = true := beq_iff_eq.2 hxy
        clear hxy
        go_enter Tryz.func85, Tryz.ntmps85
        go_wp2_with fail
        refine (HN.out _).mono ?_
        rintro e w3 ⟨rfl, rfl⟩
        rw [HX.out]
        go_wp2_with fail
        go_ret2
        exact ⟨rfl, HB.out⟩
      · rw [if_neg hxy] at ho
        subst ho
        have hb : (x == y) = false := beq_eq_false_iff_ne.2 hxy
        clear hxy
        go_enter Tryz.func85, Tryz.ntmps85
        go_wp2_with fail
        refine (HN.out _).mono ?_
        rintro e w3 ⟨rfl, rfl⟩
        rw [HX.out]
        go_wp2_with fail
        go_ret2
        exact ⟨rfl, HB.out⟩
end Go.Proofs.YtinjkpbpkedfnaaGreatDoor

/- The contract of urlp's resolve. -/

namespace Go.Proofs.YtinjkpbpkedfnaaGreatDoor
open Go.RowKit

theorem join_lib2 (c : UInt8) (ps : List (List UInt8)) : Lib.join ps [c] = Oct.join c ps := by
  induction ps with
  | nil => rfl
  | cons p r ih =>
    cases r with
    | nil => rw [Lib.join_one]; rfl
    | cons q r =>
      rw [Lib.join_cons]
      rw [Lib.join_cons] at ih
      show _ = p ++ c :: Oct.join c (q :: r)
      rw [← ih]
      simp [Lib.joinTail]
theorem join_count2 (c : UInt8) : ∀ ps : List (List UInt8), ps.length ≤ (Oct.join c ps).length + 1
  | [] => by simp
  | [p] => by simp
  | p :: q :: r => by
    have := join_count2 c (q :: r)
    simp only [Oct.join, List.length_append, List.length_cons] at this ⊢
    omega
/-- strings.Join with a byte between, of texts that lie somewhere. -/
theorem join_with (c : UInt8) (g o cap : Nat) (ps : List (List UInt8)) (w : World) (hcells : ∀ i (h : i < ps.length), w.cell? ⟨g, o + i, none⟩ = some (Oct.strV ps[i])) (hg : g < w.heap.size) (hcap : ps.length ≤ cap) (hlen : (Oct.join c ps).length ≤ 1048576) :
    Calls Tryz.prog 74 #[.slice (some ⟨g, o, none⟩) ps.length cap, .string ⟨#[c]⟩] w fun e w' => e = .returned (.string ⟨(Oct.join c ps).toArray⟩) ∧ Below w.heap.size w w' := by
  have hm : (ps.map fun p => (⟨p.toArray⟩ : ByteArray)).map (·.data.toList) = ps := by
    rw [List.map_map]
    exact List.map_id' ps
  have hjo : Lib.join ((ps.map fun p => (⟨p.toArray⟩ : ByteArray)).map (·.data.toList)) (⟨#[c]⟩ : ByteArray).data.toList = Oct.join c ps := by rw [hm]; exact join_lib2 c ps
  have hpl : ps.length ≤ (Oct.join c ps).length + 1 := join_count2 c ps
  have h := Tryz.strings_Join g o cap (ps.map fun p => (⟨p.toArray⟩ : ByteArray)) ⟨#[c]⟩ w (fun j x hx => by
    rw [List.getElem?_map] at hx
    by_cases hj : j < ps.length
    · rw [List.getElem?_eq_getElem hj] at hx
      simp only [Option.map_some, Option.some.injEq] at hx
      rw [hcells j hj, ← hx]; rfl
    · rw [List.getElem?_eq_none (by omega)] at hx; cases hx) hg (by simp; omega) (by simpa using hcap) (by rw [hjo]; omega)
  rw [hjo, List.length_map] at h
  exact h
theorem owns_pop {w : World} {base g cap : Nat} {ks : List (List UInt8)} (h : w.ownsRow base 9 1 (.slice (some ⟨g, 0, none⟩) ks.length cap) ks.length (ks.map Oct.strV)) :
    w.ownsRow base 9 1 (.slice (some ⟨g, 0, none⟩) (ks.length - 1) cap) ks.dropLast.length (ks.dropLast.map Oct.strV) := by
  obtain ⟨_, ⟨h1, _⟩ | ⟨g', cap', cur, hv, hb, hg, h3, h4, h5, h6⟩⟩ := h
  · cases h1
  · injection hv with e1 e2 e3
    injection e1 with e1
    injection e1 with e1
    subst e1; subst e3
    refine ⟨by simp, .inr ⟨g, cap, cur, by rw [List.length_dropLast], hb, hg, by rw [List.length_dropLast]; omega, h4, h5, ?_⟩⟩
    rw [List.length_dropLast]
    have : cur.toList.take ((ks.length - 1) * 1) = (cur.toList.take (ks.length * 1)).take (ks.length - 1) := by
      rw [List.take_take]; congr 1; omega
    rw [this, h6, ← List.map_take, List.dropLast_eq_take]

/-- What a round of resolve keeps. -/
structure RvInv (w1 wr : World) (ps fin ks : List (List UInt8)) (k : Nat) (v : Value) : Prop where
  bel : Below w1.heap.size w1 wr
  own : wr.ownsRow w1.heap.size 9 1 v ks.length (ks.map Oct.strV)
  le : ks.length ≤ k
  go : Urp.walk ks (ps.drop k) = fin
theorem RvInv.keep {w1 wr : World} {ps fin ks : List (List UInt8)} {k : Nat} {v : Value} (h : RvInv w1 wr ps fin ks k v) (hk : k < ps.length) (hs : Urp.stepC (decide (k + 1 = ps.length)) ks ps[k] = ks) : RvInv w1 wr ps fin ks (k + 1) v :=
  ⟨h.bel, h.own, by have := h.le; omega, by rw [← h.go, Urp.walk_at ps ks k hk, hs]⟩

theorem rv_push {w1 wr w2 : World} {ps fin ks ks' : List (List UInt8)} {k : Nat} {v' vp : Value} {o : Obj} {x : List UInt8} (hbel : Below w1.heap.size w1 wr) (hk : k < ps.length) (hgo : Urp.walk ks (ps.drop k) = fin)
    (hst : Urp.stepC (decide (k + 1 = ps.length)) ks ps[k] = ks' ++ [x]) (hle : ks'.length ≤ k) (hownp : wr.ownsRow w1.heap.size 9 1 vp ks'.length (ks'.map Oct.strV))
    (hown' : w2.ownsRow w1.heap.size 9 1 v' (ks'.length + 1) (ks'.map Oct.strV ++ [.string (bA x)])) (hg : (wr.alloc o).grownBy w2 vp.ownBlock) : RvInv w1 w2 ps fin (ks' ++ [x]) (k + 1) v' :=
  ⟨(hbel.alloc hbel.size _).grown hg (by simp; have := hbel.size; omega) (fun g hg => (hownp.lt g hg).1), by simpa [Oct.strV] using hown', by simp; omega, by rw [← hgo, Urp.walk_at ps ks k hk, hst]⟩
theorem rv_pop {w1 wr : World} {ps fin ks : List (List UInt8)} {k : Nat} {vp : Value} (hbel : Below w1.heap.size w1 wr) (hk : k < ps.length) (hgo : Urp.walk ks (ps.drop k) = fin)
    (hst : Urp.stepC (decide (k + 1 = ps.length)) ks ps[k] = ks.dropLast) (hle : ks.length ≤ k) (hownp : wr.ownsRow w1.heap.size 9 1 vp ks.dropLast.length (ks.dropLast.map Oct.strV)) : RvInv w1 wr ps fin ks.dropLast (k + 1) vp :=
  ⟨hbel, hownp, by simp; omega, by rw [← hgo, Urp.walk_at ps ks k hk, hst]⟩
/-- The shape of what has been kept, and of it without the last one. -/
theorem owns_pops {w : World} {base : Nat} {v : Value} {ks : List (List UInt8)} (h : w.ownsRow base 9 1 v ks.length (ks.map Oct.strV)) :
    (v = .slice none 0 0 ∧ ks = [] ∧ w.ownsRow base 9 1 (.slice none 0 0) ks.dropLast.length (ks.dropLast.map Oct.strV)) ∨
    (∃ g cap, v = .slice (some ⟨g, 0, none⟩) 0 cap ∧ ks = [] ∧ w.ownsRow base 9 1 (.slice (some ⟨g, 0, none⟩) 0 cap) ks.dropLast.length (ks.dropLast.map Oct.strV)) ∨
    (∃ g cap m, v = .slice (some ⟨g, 0, none⟩) (m + 1) cap ∧ ks.length = m + 1 ∧ m + 1 ≤ cap ∧ w.ownsRow base 9 1 (.slice (some ⟨g, 0, none⟩) m cap) ks.dropLast.length (ks.dropLast.map Oct.strV)) := by
  rcases owns_view2 h with ⟨rfl, rfl⟩ | ⟨g, cap, rfl, hc, _⟩
  · exact .inl ⟨rfl, rfl, World.ownsRow_nil _ _ _ _⟩
  · have hp := owns_pop h
    rcases Nat.eq_zero_or_pos ks.length with h0 | h0
    · obtain rfl := List.length_eq_zero_iff.1 h0
      exact .inr (.inl ⟨g, cap, rfl, rfl, hp⟩)
    · obtain ⟨m, hm⟩ : ∃ m, ks.length = m + 1 := ⟨ks.length - 1, by omega⟩
      rw [hm] at hp hc ⊢
      exact .inr (.inr ⟨g, cap, m, rfl, rfl, hc, hp⟩)
theorem one_cell (w : World) (v : Value) (t : TypeId) : ∀ (j : Nat) (u : Value), [v][j]? = some u → (w.alloc (.cells #[v] t)).cell? ((⟨w.heap.size, 0, none⟩ : Addr).add j) = some u := by
  intro j u hj
  match j, hj with
  | 0, hj => simp at hj; subst hj; simp [Addr.add]
theorem one_ok (l : List UInt8) : ∀ u ∈ [Value.string (bA l)], u.oneCell' = true := by
  intro u hu
  rw [List.mem_singleton] at hu
  rw [hu]; rfl
theorem pop_slice (g cap n m : Nat) (hm : m ≤ cap) : ∃ vp, vp = Value.slice (some ⟨g, 0, none⟩) m cap ∧ ∀ W : World, (Instr.slice 34 (.slice (some ⟨g, 0, none⟩) n cap) none (some (.int .i64 (m : Int))) none).run Tryz.prog W = .ok vp W := by
  refine ⟨_, rfl, fun W => ?_⟩
  have h1 : (m : Int) ≤ (cap : Int) := by omega
  simp [go_sem, h1]
theorem dec_t {a b : Nat} (h : a = b) : decide (a = b) = true := decide_eq_true h
theorem dec_f {a b : Nat} (h : ¬ a = b) : decide (a = b) = false := decide_eq_false h

set_option maxHeartbeats 4000000 in
set_option maxRecDepth 100000 in
theorem resolve_any (p : List UInt8) (w : World) (hp : p.length ≤ 4000) : Calls Tryz.prog 86 #[.string (bA p)] w fun e w' => e = .returned (.string (bA (Urp.pathOf p))) ∧ Below w.heap.size w w' := by
  have hsp : Calls Tryz.prog 112 #[.string (bA p), .int .u8 47] w (RetTexts w (Urp.segs p)) := split_any (bA p) 47 w (by rw [bA_size]; omega)
  have hjl := Urp.join_path_len p
  have hne := Urp.walk_segs_ne p
  have hsl : (Urp.segs p).length ≤ 4001 := by have := Oct.split_len (fun x => x == 47) p; unfold Urp.segs; omega
  have hs0 : 0 < (Urp.segs p).length := Oct.split_pos _ p
  unfold Urp.pathOf
  obtain ⟨ps, hps⟩ : ∃ ps, Urp.segs p = ps := ⟨_, rfl⟩
  rw [hps] at hsp hjl hne hsl hs0 ⊢
  have HSP := Lib.hid hsp
  have HJL := Lib.hid hjl
  have HNE := Lib.hid hne
  clear hps hsp hjl hne
  obtain ⟨i0, hi, hz0, hz1, hz2⟩ := info_parts info_string
  have HI := Lib.hid hi; have HZ0 := Lib.hid hz0; have HZ1 := Lib.hid hz1; have HZ2 := Lib.hid hz2
  clear hi hz0 hz1 hz2
  go_enter Tryz.func86, Tryz.ntmps86
  go_wp2_with fail
  go_step3
  go_wp2_with fail
  refine HSP.out.mono ?_
  rintro e w1 ⟨v1, rfl, hb1, hown1⟩
  rcases owns_view2 hown1 with ⟨rfl, h0⟩ | ⟨g, cap, rfl, hcap, hg, _, hcells⟩
  · exfalso; rw [h0] at hs0; simp at hs0
  have HCE := Lib.hid hcells
  clear hown1 hcells
  go_wp2_with fail
  go_step3
  go_wp2_with fail
  go_loopw [4, 11] (fun v i wr => ∃ (k : Nat) (ks : List (List UInt8)), k ≤ ps.length ∧ i = .int .i64 k ∧ RvInv w1 wr ps (Urp.walk [] ps) ks k v) (fun _ i _ => ps.length - (intOf i).toNat)
  case atStart => exact ⟨0, [], by omega, rfl, Below.refl _ _, World.ownsRow_nil _ _ _ _, by simp, rfl⟩
  case round =>
    obtain ⟨k, ks, hk, rfl, hin⟩ := hrel
    by_cases hlt : k < ps.length
    · obtain ⟨hbel, hown, hle, hgo⟩ := hin
      have hsz := hbel.size
      have hce : wr.cell? ⟨g, k, none⟩ = some (.string (bA ps[k])) := by
        rw [hbel.cell (p := ⟨g, k, none⟩) hg]; exact HCE.out k hlt
      obtain ⟨x, hx⟩ : ∃ x, ps[k] = x := ⟨_, rfl⟩
      rw [hx] at hce
      have HX := Lib.hid hx
      have HGO := Lib.hid hgo
      clear hx hgo
      by_cases hd2 : x = [46, 46]
      · have hd2' : (x == [46, 46]) = true := beq_iff_eq.2 hd2
        have hmx : max (0 : Int) (-1) = 0 := by decide
        have hmy : ∀ m : Nat, max (0 : Int) (m : Int) = m := by intro m; omega
        obtain ⟨kd, hkd⟩ : ∃ kd, ks.dropLast = kd := ⟨_, rfl⟩
        have hkl : kd.length ≤ k := by rw [← hkd, List.length_dropLast]; omega
        by_cases hl : k + 1 = ps.length
        · have hl' : ¬ (k : Int) < (ps.length : Int) - 1 := by omega
          have hst : Urp.stepC (decide (k + 1 = ps.length)) ks ps[k] = kd ++ [[]] := by rw [HX.out, dec_t hl, hd2, ← hkd]; rfl
          have HST := Lib.hid hst
          have hps := owns_pops hown
          rw [hkd] at hps
          clear hst hkd hd2
          rcases hps with ⟨rfl, _, hp⟩ | ⟨g2, cap2, rfl, _, hp⟩ | ⟨g2, cap2, m, rfl, hm, hc2, hp⟩
          · clear hown
            go_wp2_with (at_builtin; refine wpList_append_own _ rfl _ _ 34 rfl w1.heap.size 9 i0 (.string ⟨#[]⟩) 1 16 Tryz.underlying34 HI.out HZ0.out HZ1.out HZ2.out rfl (by decide) _ _ _ rfl (hp.alloc _) ⟨wr.heap.size, 0, none⟩ 1 1 [.string (bA ([] : List UInt8))] rfl rfl ?_ ?_ ?_ ?_ ?_ ?_)
            all_goals first
              | exact one_cell _ _ _
              | exact one_ok _
              | rfl
              | (unfold maxLen; omega)
              | omega
              | (simp; done)
              | (simp; omega)
              | (intro v' w2 hown' hgrow _
                 have hD := rv_push (ks := ks) (ks' := kd) (x := ([] : List UInt8)) hbel hlt HGO.out HST.out hkl hp hown' hgrow
                 clear hown' hgrow
                 go_wp2_with fail
                 go_roundw
                 case rel => exact ⟨k + 1, _, by omega, by go_num, hD⟩
                 case measure => simp [intOf]; omega)
          · clear hown
            obtain ⟨vp, hvp, hpo⟩ := pop_slice g2 cap2 0 0 (Nat.zero_le _)
            rw [← hvp] at hp
            have hpo2 : ∀ W : World, (Instr.slice 34 (.slice (some ⟨g2, 0, none⟩) 0 cap2) none (some (.int .i64 0)) none).run Tryz.prog W = .ok vp W := hpo
            clear hvp hpo
            go_wp2_with (at_builtin; refine wpList_append_own _ rfl _ _ 34 rfl w1.heap.size 9 i0 (.string ⟨#[]⟩) 1 16 Tryz.underlying34 HI.out HZ0.out HZ1.out HZ2.out rfl (by decide) _ _ _ rfl (hp.alloc _) ⟨wr.heap.size, 0, none⟩ 1 1 [.string (bA ([] : List UInt8))] rfl rfl ?_ ?_ ?_ ?_ ?_ ?_)
            all_goals first
              | exact one_cell _ _ _
              | exact one_ok _
              | rfl
              | (unfold maxLen; omega)
              | omega
              | (simp; done)
              | (simp; omega)
              | (intro v' w2 hown' hgrow _
                 have hD := rv_push (ks := ks) (ks' := kd) (x := ([] : List UInt8)) hbel hlt HGO.out HST.out hkl hp hown' hgrow
                 clear hown' hgrow
                 go_wp2_with fail
                 go_roundw
                 case rel => exact ⟨k + 1, _, by omega, by go_num, hD⟩
                 case measure => simp [intOf]; omega)
          · clear hown
            obtain ⟨vp, hvp, hpo⟩ := pop_slice g2 cap2 (m + 1) m (by omega)
            rw [← hvp] at hp
            clear hvp
            go_wp2_with (at_builtin; refine wpList_append_own _ rfl _ _ 34 rfl w1.heap.size 9 i0 (.string ⟨#[]⟩) 1 16 Tryz.underlying34 HI.out HZ0.out HZ1.out HZ2.out rfl (by decide) _ _ _ rfl (hp.alloc _) ⟨wr.heap.size, 0, none⟩ 1 1 [.string (bA ([] : List UInt8))] rfl rfl ?_ ?_ ?_ ?_ ?_ ?_)
            all_goals first
              | exact one_cell _ _ _
              | exact one_ok _
              | rfl
              | (unfold maxLen; omega)
              | omega
              | (simp; done)
              | (simp; omega)
              | (intro v' w2 hown' hgrow _
                 have hD := rv_push (ks := ks) (ks' := kd) (x := ([] : List UInt8)) hbel hlt HGO.out HST.out hkl hp hown' hgrow
                 clear hown' hgrow
                 go_wp2_with fail
                 go_roundw
                 case rel => exact ⟨k + 1, _, by omega, by go_num, hD⟩
                 case measure => simp [intOf]; omega)
        · have hl' : (k : Int) < (ps.length : Int) - 1 := by omega
          have hst : Urp.stepC (decide (k + 1 = ps.length)) ks ps[k] = ks.dropLast := by rw [HX.out, dec_f hl, hd2]; rfl
          have HST := Lib.hid hst
          clear hst hkl hkd
          rcases owns_pops hown with ⟨rfl, _, hp⟩ | ⟨g2, cap2, rfl, _, hp⟩ | ⟨g2, cap2, m, rfl, hm, hc2, hp⟩
          all_goals
            clear hd2 hown
            have hD := rv_pop hbel hlt HGO.out HST.out hle hp
            go_wp2_with fail
            go_roundw
            case rel => exact ⟨k + 1, _, by omega, by go_num, hD⟩
            case measure => simp [intOf]; omega
      · have hd2' : (x == [46, 46]) = false := beq_eq_false_iff_ne.2 hd2
        by_cases hd1 : x = [46]
        · have hd1' : (x == [46]) = true := beq_iff_eq.2 hd1
          by_cases hl : k + 1 = ps.length
          · have hl' : ¬ (k : Int) < (ps.length : Int) - 1 := by omega
            have hst : Urp.stepC (decide (k + 1 = ps.length)) ks ps[k] = ks ++ [[]] := by rw [HX.out, dec_t hl, hd1]; rfl
            have HST := Lib.hid hst
            clear hst hd1 hd2
            go_wp2_with (at_builtin; refine wpList_append_own _ rfl _ _ 34 rfl w1.heap.size 9 i0 (.string ⟨#[]⟩) 1 16 Tryz.underlying34 HI.out HZ0.out HZ1.out HZ2.out rfl (by decide) _ _ _ rfl (hown.alloc _) ⟨wr.heap.size, 0, none⟩ 1 1 [.string (bA ([] : List UInt8))] rfl rfl ?_ ?_ ?_ ?_ ?_ ?_)
            all_goals first
              | exact one_cell _ _ _
              | exact one_ok _
              | rfl
              | (unfold maxLen; omega)
              | omega
              | (simp; done)
              | (simp; omega)
              | (intro v' w2 hown' hgrow _
                 have hD := rv_push (ks := ks) (ks' := ks) (x := ([] : List UInt8)) hbel hlt HGO.out HST.out hle hown hown' hgrow
                 clear hown' hgrow
                 go_wp2_with fail
                 go_roundw
                 case rel => exact ⟨k + 1, _, by omega, by go_num, hD⟩
                 case measure => simp [intOf]; omega)
          · have hl' : (k : Int) < (ps.length : Int) - 1 := by omega
            have hst : Urp.stepC (decide (k + 1 = ps.length)) ks ps[k] = ks := by rw [HX.out, dec_f hl, hd1]; rfl
            have hD := RvInv.keep ⟨hbel, hown, hle, HGO.out⟩ hlt hst
            clear hst hd1 hd2
            go_wp2_with fail
            go_roundw
            case rel => exact ⟨k + 1, _, by omega, by go_num, hD⟩
            case measure => simp [intOf]; omega
        · have hd1' : (x == [46]) = false := beq_eq_false_iff_ne.2 hd1
          have hst : Urp.stepC (decide (k + 1 = ps.length)) ks ps[k] = ks ++ [x] := by rw [HX.out]; exact Urp.step_x _ ks x hd2 hd1
          have HST := Lib.hid hst
          clear hst hd1 hd2
          go_wp2_with (at_builtin; refine wpList_append_own _ rfl _ _ 34 rfl w1.heap.size 9 i0 (.string ⟨#[]⟩) 1 16 Tryz.underlying34 HI.out HZ0.out HZ1.out HZ2.out rfl (by decide) _ _ _ rfl (hown.alloc _) ⟨wr.heap.size, 0, none⟩ 1 1 [.string (bA x)] rfl rfl ?_ ?_ ?_ ?_ ?_ ?_)
          all_goals first
            | exact one_cell _ _ _
            | exact one_ok _
            | rfl
            | (unfold maxLen; omega)
            | omega
            | (simp; done)
            | (simp; omega)
            | (intro v' w2 hown' hgrow _
               have hD := rv_push (ks := ks) (ks' := ks) (x := x) hbel hlt HGO.out HST.out hle hown hown' hgrow
               clear hown' hgrow
               go_wp2_with fail
               go_roundw
               case rel => exact ⟨k + 1, _, by omega, by go_num, hD⟩
               case measure => simp [intOf]; omega)
    · obtain rfl : k = ps.length := by omega
      obtain ⟨hbel, hown, hle, hgo⟩ := hin
      rw [Urp.walk_end ps ks ps.length (Nat.le_refl _)] at hgo
      have HNE' : ks ≠ [] := by rw [hgo]; exact HNE.out
      have hjl : (Oct.join 47 ks).length ≤ p.length := by rw [hgo]; exact HJL.out
      have HGO := Lib.hid hgo
      rcases owns_view2 hown with ⟨rfl, h0⟩ | ⟨g2, cap2, rfl, hcap2, hg2, _, hcells2⟩
      · exact absurd h0 HNE'
      have hcall := join_with 47 g2 0 cap2 ks wr (fun i h => by rw [Nat.zero_add]; exact hcells2 i h) hg2 hcap2 (by omega)
      have HJ := Lib.hid hcall
      clear hcells2 hcall hown hgo HNE'
      go_wp2_with fail
      refine HJ.out.mono ?_
      rintro e w2 ⟨rfl, hb2⟩
      go_wp2_with fail
      rw [Exit.noGoto_ret]
      go_ret
      exact ⟨by rw [← HGO.out]; rfl, below_on (below_on hb1 hbel) hb2⟩
end Go.Proofs.YtinjkpbpkedfnaaGreatDoor

/- The contract of urlp's parseNet. -/

namespace Go.Proofs.YtinjkpbpkedfnaaGreatDoor
open Go.RowKit

theorem UBox.s4 {W : World} {B : Nat} {u : Urp.URL} (h : UBox W B u) (x : Int) : UBox (W.setCell ⟨B, 4, none⟩ (.int .i64 x)) B { u with port := x } := by
  have h' : W.heap[B]? = _ := h
  unfold UBox
  simp [World.setCell, Array.getElem?_modify, h', uCells]
theorem UBox.s5 {W : World} {B : Nat} {u : Urp.URL} (h : UBox W B u) (x : List UInt8) : UBox (W.setCell ⟨B, 5, none⟩ (.string (bA x))) B { u with path := x } := by
  have h' : W.heap[B]? = _ := h
  unfold UBox
  simp [World.setCell, Array.getElem?_modify, h', uCells]
theorem UBox.s6 {W : World} {B : Nat} {u : Urp.URL} (h : UBox W B u) (x : Bool) : UBox (W.setCell ⟨B, 6, none⟩ (.bool x)) B { u with hasq := x } := by
  have h' : W.heap[B]? = _ := h
  unfold UBox
  simp [World.setCell, Array.getElem?_modify, h', uCells]
theorem UBox.s7 {W : World} {B : Nat} {u : Urp.URL} (h : UBox W B u) (x : List UInt8) : UBox (W.setCell ⟨B, 7, none⟩ (.string (bA x))) B { u with query := x } := by
  have h' : W.heap[B]? = _ := h
  unfold UBox
  simp [World.setCell, Array.getElem?_modify, h', uCells]
theorem UBox.s8 {W : World} {B : Nat} {u : Urp.URL} (h : UBox W B u) (x : List UInt8) : UBox (W.setCell ⟨B, 8, none⟩ (.string (bA x))) B { u with rest := x } := by
  have h' : W.heap[B]? = _ := h
  unfold UBox
  simp [World.setCell, Array.getElem?_modify, h', uCells]
theorem UBox.sh {W : World} {B : Nat} {u : Urp.URL} (h : UBox W B u) (x : Hst.Host) : UBox (((W.setCell ⟨B, 1, none⟩ (.string (bA x.name))).setCell ⟨B, 2, none⟩ (.bool x.v4)).setCell ⟨B, 3, none⟩ (.int .u32 x.addr)) B { u with host := x } := by
  have h' : W.heap[B]? = _ := h
  unfold UBox
  simp [World.setCell, Array.getElem?_modify, h', uCells]
theorem UBox.ne {W : World} {B : Nat} {u : Urp.URL} (h : UBox W B u) (C i : Nat) (v : Value) (hne : C ≠ B) : UBox (W.setCell ⟨C, i, none⟩ v) B u := by
  have h' : W.heap[B]? = _ := h
  unfold UBox
  simp [World.setCell, Array.getElem?_modify, h', hne]
theorem size_setCell (W : World) (a : Addr) (v : Value) : (W.setCell a v).heap.size = W.heap.size := by simp [World.setCell]

/-- Two URLs' blocks, one behind the other, at the end of what was there: the one that is filled in, and the result. -/
structure Two (w W : World) (u : Urp.URL) : Prop where
  bel : Below w.heap.size w W
  box : UBox W w.heap.size u
  res : UBox W (w.heap.size + 1) Urp.zeroU
theorem Two.new (w : World) (u : Urp.URL) : Two w ((w.alloc (.cells (uCells u) 43)).alloc (.cells (uCells Urp.zeroU) 43)) u :=
  ⟨((Below.refl _ w).alloc (Nat.le_refl _) _).alloc (by simp) _, (UBox.new w u).alloc _, by
    have := UBox.new (w.alloc (.cells (uCells u) 43)) Urp.zeroU
    simpa using this⟩
theorem Two.keep {w W W' : World} {u : Urp.URL} (h : Two w W u) (hb : Below W.heap.size W W') : Two w W' u := ⟨below_on h.bel hb, h.box.keep hb, h.res.keep hb⟩
theorem Two.s4 {w W : World} {u : Urp.URL} (h : Two w W u) (x : Int) : Two w (W.setCell ⟨w.heap.size, 4, none⟩ (.int .i64 x)) { u with port := x } := ⟨h.bel.setCell (Nat.le_refl _) _, h.box.s4 x, h.res.ne _ _ _ (by omega)⟩
theorem Two.s5 {w W : World} {u : Urp.URL} (h : Two w W u) (x : List UInt8) : Two w (W.setCell ⟨w.heap.size, 5, none⟩ (.string (bA x))) { u with path := x } := ⟨h.bel.setCell (Nat.le_refl _) _, h.box.s5 x, h.res.ne _ _ _ (by omega)⟩
theorem Two.s6 {w W : World} {u : Urp.URL} (h : Two w W u) (x : Bool) : Two w (W.setCell ⟨w.heap.size, 6, none⟩ (.bool x)) { u with hasq := x } := ⟨h.bel.setCell (Nat.le_refl _) _, h.box.s6 x, h.res.ne _ _ _ (by omega)⟩
theorem Two.s7 {w W : World} {u : Urp.URL} (h : Two w W u) (x : List UInt8) : Two w (W.setCell ⟨w.heap.size, 7, none⟩ (.string (bA x))) { u with query := x } := ⟨h.bel.setCell (Nat.le_refl _) _, h.box.s7 x, h.res.ne _ _ _ (by omega)⟩
theorem Two.sh {w W : World} {u : Urp.URL} (h : Two w W u) (x : Hst.Host) : Two w (((W.setCell ⟨w.heap.size, 1, none⟩ (.string (bA x.name))).setCell ⟨w.heap.size, 2, none⟩ (.bool x.v4)).setCell ⟨w.heap.size, 3, none⟩ (.int .u32 x.addr)) { u with host := x } :=
  ⟨((h.bel.setCell (p := ⟨w.heap.size, 1, none⟩) (Nat.le_refl _) _).setCell (p := ⟨w.heap.size, 2, none⟩) (Nat.le_refl _) _).setCell (p := ⟨w.heap.size, 3, none⟩) (Nat.le_refl _) _, h.box.sh x, ((h.res.ne _ _ _ (by omega)).ne _ _ _ (by omega)).ne _ _ _ (by omega)⟩

theorem cut_at (l : List UInt8) (c : UInt8) (w : World) (hl : l.length ≤ 4000) : Calls Tryz.prog 50 #[.string (bA l), .string ⟨#[c]⟩] w fun e w' => e = .returned (.tuple #[.string (bA (Urp.bef c l)), .string (bA (Urp.aft c l)), .bool (Urp.hasB c l)]) ∧ Below w.heap.size w w' :=
  cut_any (bA l) c w (by rw [bA_size]; unfold maxLen; omega)

/-- The URL to be filled in. -/
def begun (s : List UInt8) : Urp.URL := ⟨s, Hst.none_, -1, [], false, [], []⟩
set_option maxHeartbeats 4000000 in
set_option maxRecDepth 100000 in
theorem parseNet_any (s rest : List UInt8) (w : World) (hs : Urp.netB s = true) (hl : rest.length ≤ 4000) : Calls Tryz.prog 52 #[urlV (begun s), .string (bA rest)] w fun e w' => e = .returned (resV (Urp.web s rest)) ∧ Below w.heap.size w w' := by
  have hT0 := Two.new w (begun s)
  have hpre := cutPrefix_any (bA rest) ⟨#[47, 47]⟩
  obtain ⟨res, hres⟩ : ∃ r, Urp.web s rest = r := ⟨_, rfl⟩
  rw [hres]
  unfold Urp.web at hres
  have hpe : Urp.begB (⟨#[47, 47]⟩ : ByteArray).data.toList (bA rest).data.toList = Urp.begB [47, 47] rest := rfl
  rw [hpe] at hpre
  cases hb : Urp.begB [47, 47] rest with
  | false =>
    rw [hb, if_neg (by simp)] at hres
    rw [hb] at hpre
    subst hres
    have HP := Lib.hid hpre
    have HT := Lib.hid hT0
    clear hb hpre hT0 hpe
    unfold urlV uCells begun
    go_enter Tryz.func52, Tryz.ntmps52
    go_wp2_with fail
    refine (HP.out _).mono ?_
    rintro e w1 ⟨rfl, rfl⟩
    go_wp2_with fail
    exact bodyPost_ret (results_url rfl _ _ rfl HT.out.res) rfl ⟨rfl, HT.out.bel⟩
  | true =>
    rw [hb, if_pos rfl] at hres
    rw [hb] at hpre
    have hpre2 : ∀ W : World, Calls Tryz.prog 62 #[.string (bA rest), .string ⟨#[47, 47]⟩] W fun e w' => e = .returned (.tuple #[.string (bA (rest.drop 2)), .bool true]) ∧ W = w' := hpre
    obtain ⟨r, hr⟩ : ∃ r, rest.drop 2 = r := ⟨_, rfl⟩
    have hrl : r.length ≤ 4000 := by rw [← hr, List.length_drop]; omega
    rw [hr] at hres hpre2
    have HP := Lib.hid hpre2
    clear hb hpre hpre2 hpe hr hl
    have hql : (Urp.bef 63 r).length ≤ 4000 := Nat.le_trans (Urp.bef_len 63 r) hrl
    have HC1 := Lib.hid (fun W => cut_at r 63 W hrl)
    obtain ⟨q, hq⟩ : ∃ q, Urp.bef 63 r = q := ⟨_, rfl⟩
    rw [hq] at hres hql HC1
    have hal : (Urp.bef 47 q).length ≤ 4000 := Nat.le_trans (Urp.bef_len 47 q) hql
    have HC2 := Lib.hid (fun W => cut_at q 47 W hql)
    obtain ⟨au, hau⟩ : ∃ au, Urp.bef 47 q = au := ⟨_, rfl⟩
    rw [hau] at hres hal HC2
    have hpl : (Urp.aft 47 q).length ≤ 4000 := Nat.le_trans (Urp.aft_len 47 q) hql
    obtain ⟨pa, hpa⟩ : ∃ pa, Urp.aft 47 q = pa := ⟨_, rfl⟩
    rw [hpa] at hres hpl HC2
    have HCN := Lib.hid (fun W => contains_any (bA au) 64 W)
    have HC3 := Lib.hid (fun W => cut_at au 58 W hal)
    have hnl : (bA (Urp.bef 58 au)).size ≤ maxLen := by rw [bA_size]; have := Urp.bef_len 58 au; unfold maxLen; omega
    have hol : (Urp.aft 58 au).length ≤ 4000 := Nat.le_trans (Urp.aft_len 58 au) hal
    have HH := Lib.hid (fun W => parse_any (bA (Urp.bef 58 au)) W hnl)
    have HPO := Lib.hid (fun W => parsePort_any s (Urp.aft 58 au) W hs hol)
    have HRE := Lib.hid (fun W => resolve_any pa W hpl)
    obtain ⟨qy, hqy⟩ : ∃ qy, Urp.aft 63 r = qy := ⟨_, rfl⟩
    obtain ⟨hq2, hhq⟩ : ∃ b, Urp.hasB 63 r = b := ⟨_, rfl⟩
    obtain ⟨sl, hsl⟩ : ∃ b, Urp.hasB 47 q = b := ⟨_, rfl⟩
    obtain ⟨co, hco⟩ : ∃ b, Urp.hasB 58 au = b := ⟨_, rfl⟩
    obtain ⟨nm, hnm⟩ : ∃ nm, Urp.bef 58 au = nm := ⟨_, rfl⟩
    obtain ⟨po, hpo⟩ : ∃ po, Urp.aft 58 au = po := ⟨_, rfl⟩
    rw [hqy, hhq] at hres HC1
    rw [hsl] at HC2
    rw [hco, hnm, hpo] at HC3
    rw [hnm] at hres HH
    rw [hpo] at hres HPO
    have HT := Lib.hid hT0
    clear hq hau hpa hqy hhq hsl hco hnm hpo hT0 hnl hol hal hql hpl hrl hs
    cases hat : Urp.hasB 64 au with
    | true =>
      rw [hat, if_pos rfl] at hres
      subst hres
      have HA := Lib.hid hat
      clear hat
      unfold urlV uCells begun
      go_enter Tryz.func52, Tryz.ntmps52
      go_wp2_with fail
      refine (HP.out _).mono ?_
      rintro e w1 ⟨rfl, rfl⟩
      go_wp2_with fail
      refine (HC1.out _).mono ?_
      rintro e w2 ⟨rfl, hb2⟩
      have t2 := HT.out.keep hb2
      clear hb2
      have c6 := t2.box.c6; have c7 := t2.box.c7; have f := t2.box.fr
      go_wp2_with fail
      refine (HC2.out _).mono ?_
      rintro e w3 ⟨rfl, hb3⟩
      have t3 := ((t2.s7 qy).s6 hq2).keep hb3
      clear hb3 c6 c7 f t2
      go_wp2_with fail
      refine (HCN.out _).mono ?_
      rintro e w4 ⟨rfl, rfl⟩
      have hae : Urp.hasB 64 (bA au).data.toList = Urp.hasB 64 au := rfl
      rw [hae, HA.out]
      clear hae
      have d0 := t3.res.c0; have d1 := t3.res.c1; have d2 := t3.res.c2; have d3 := t3.res.c3; have d4 := t3.res.c4; have d5 := t3.res.c5; have d6 := t3.res.c6; have d7 := t3.res.c7; have d8 := t3.res.c8
      have f := t3.res.fr
      go_wp2_with fail
      exact bodyPost_ret (results_url rfl _ _ rfl (t3.res.set Urp.zeroU)) rfl ⟨rfl, below_set9 t3.bel (by omega) Urp.zeroU⟩
    | false =>
      rw [hat, if_neg (by simp)] at hres
      have HA := Lib.hid hat
      clear hat
      cases hh : Hst.parse nm with
      | none =>
        rw [hh] at hres
        simp only at hres
        subst hres
        have HH2 : Hid (∀ W : World, Calls Tryz.prog 84 #[.string (bA nm)] W fun e w' => e = .returned (.tuple #[.agg #[.string ⟨#[]⟩, .bool false, .int .u32 0], .int .i64 20]) ∧ Below W.heap.size W w') := Lib.hid (fun W => by
          have h := HH.out W
          have e : (bA nm).data.toList = nm := rfl
          rw [e, hh] at h
          exact h)
        clear hh HH
        unfold urlV uCells begun
        go_enter Tryz.func52, Tryz.ntmps52
        go_wp2_with fail
        refine (HP.out _).mono ?_
        rintro e w1 ⟨rfl, rfl⟩
        go_wp2_with fail
        refine (HC1.out _).mono ?_
        rintro e w2 ⟨rfl, hb2⟩
        have t2 := HT.out.keep hb2
        clear hb2
        have c6 := t2.box.c6; have c7 := t2.box.c7; have f := t2.box.fr
        go_wp2_with fail
        refine (HC2.out _).mono ?_
        rintro e w3 ⟨rfl, hb3⟩
        have t3 := ((t2.s7 qy).s6 hq2).keep hb3
        clear hb3 c6 c7 f t2
        go_wp2_with fail
        refine (HCN.out _).mono ?_
        rintro e w4 ⟨rfl, rfl⟩
        have hae : Urp.hasB 64 (bA au).data.toList = Urp.hasB 64 au := rfl
        rw [hae, HA.out]
        clear hae
        go_wp2_with fail
        refine (HC3.out _).mono ?_
        rintro e w5 ⟨rfl, hb5⟩
        have t5 := t3.keep hb5
        clear hb5 t3
        go_wp2_with fail
        refine (HH2.out _).mono ?_
        rintro e w6 ⟨rfl, hb6⟩
        have t6 := t5.keep hb6
        clear hb6 t5
        have c1 := t6.box.c1; have c2 := t6.box.c2; have c3 := t6.box.c3; have fb := t6.box.fr
        have d0 := t6.res.c0; have d1 := t6.res.c1; have d2 := t6.res.c2; have d3 := t6.res.c3; have d4 := t6.res.c4; have d5 := t6.res.c5; have d6 := t6.res.c6; have d7 := t6.res.c7; have d8 := t6.res.c8
        have f := t6.res.fr
        go_wp2_with fail
        have t7 := t6.sh Hst.none_
        exact bodyPost_ret (results_url rfl _ _ rfl (t7.res.set Urp.zeroU)) rfl ⟨rfl, below_set9 t7.bel (by omega) Urp.zeroU⟩
      | some h =>
        rw [hh] at hres
        simp only at hres
        have HH2 : Hid (∀ W : World, Calls Tryz.prog 84 #[.string (bA nm)] W fun e w' => e = .returned (.tuple #[.agg #[.string (bA h.name), .bool h.v4, .int .u32 h.addr], .int .i64 0]) ∧ Below W.heap.size W w') := Lib.hid (fun W => by
          have h := HH.out W
          have e : (bA nm).data.toList = nm := rfl
          rw [e, hh] at h
          exact h)
        clear hh HH
        cases hp : Urp.portOf s po with
        | none =>
          rw [hp] at hres
          simp only at hres
          subst hres
          have HP2 : Hid (∀ W : World, Calls Tryz.prog 85 #[.string (bA s), .string (bA po)] W fun e w' => e = .returned (.tuple #[.int .i64 0, .int .i64 32]) ∧ Below W.heap.size W w') := Lib.hid (fun W => by
            have h := HPO.out W
            rw [hp] at h
            exact h)
          clear hp HPO
          unfold urlV uCells begun
          go_enter Tryz.func52, Tryz.ntmps52
          go_wp2_with fail
          refine (HP.out _).mono ?_
          rintro e w1 ⟨rfl, rfl⟩
          go_wp2_with fail
          refine (HC1.out _).mono ?_
          rintro e w2 ⟨rfl, hb2⟩
          have t2 := HT.out.keep hb2
          clear hb2
          have c6 := t2.box.c6; have c7 := t2.box.c7; have f := t2.box.fr
          go_wp2_with fail
          refine (HC2.out _).mono ?_
          rintro e w3 ⟨rfl, hb3⟩
          have t3 := ((t2.s7 qy).s6 hq2).keep hb3
          clear hb3 c6 c7 f t2
          go_wp2_with fail
          refine (HCN.out _).mono ?_
          rintro e w4 ⟨rfl, rfl⟩
          have hae : Urp.hasB 64 (bA au).data.toList = Urp.hasB 64 au := rfl
          rw [hae, HA.out]
          clear hae
          go_wp2_with fail
          refine (HC3.out _).mono ?_
          rintro e w5 ⟨rfl, hb5⟩
          have t5 := t3.keep hb5
          clear hb5 t3
          go_wp2_with fail
          refine (HH2.out _).mono ?_
          rintro e w6 ⟨rfl, hb6⟩
          have t6 := t5.keep hb6
          clear hb6 t5
          have c1 := t6.box.c1; have c2 := t6.box.c2; have c3 := t6.box.c3; have fb := t6.box.fr
          have c0 := t6.box.c0
          go_wp2_with fail
          refine (HP2.out _).mono ?_
          rintro e w8 ⟨rfl, hb8⟩
          have t8 := (t6.sh h).keep hb8
          clear hb8 t6 c0 c1 c2 c3 fb
          have c4 := t8.box.c4; have fb := t8.box.fr
          have d0 := t8.res.c0; have d1 := t8.res.c1; have d2 := t8.res.c2; have d3 := t8.res.c3; have d4 := t8.res.c4; have d5 := t8.res.c5; have d6 := t8.res.c6; have d7 := t8.res.c7; have d8 := t8.res.c8
          have f := t8.res.fr
          go_wp2_with fail
          have t9 := t8.s4 0
          exact bodyPost_ret (results_url rfl _ _ rfl (t9.res.set Urp.zeroU)) rfl ⟨rfl, below_set9 t9.bel (by omega) Urp.zeroU⟩
        | some pn =>
          rw [hp] at hres
          simp only at hres
          have HP2 : Hid (∀ W : World, Calls Tryz.prog 85 #[.string (bA s), .string (bA po)] W fun e w' => e = .returned (.tuple #[.int .i64 pn, .int .i64 0]) ∧ Below W.heap.size W w') := Lib.hid (fun W => by
            have h := HPO.out W
            rw [hp] at h
            exact h)
          clear hp HPO
          have HRS := Lib.hid hres
          clear hres
          unfold urlV uCells begun
          go_enter Tryz.func52, Tryz.ntmps52
          go_wp2_with fail
          refine (HP.out _).mono ?_
          rintro e w1 ⟨rfl, rfl⟩
          go_wp2_with fail
          refine (HC1.out _).mono ?_
          rintro e w2 ⟨rfl, hb2⟩
          have t2 := HT.out.keep hb2
          clear hb2
          have c6 := t2.box.c6; have c7 := t2.box.c7; have f := t2.box.fr
          go_wp2_with fail
          refine (HC2.out _).mono ?_
          rintro e w3 ⟨rfl, hb3⟩
          have t3 := ((t2.s7 qy).s6 hq2).keep hb3
          clear hb3 c6 c7 f t2
          go_wp2_with fail
          refine (HCN.out _).mono ?_
          rintro e w4 ⟨rfl, rfl⟩
          have hae : Urp.hasB 64 (bA au).data.toList = Urp.hasB 64 au := rfl
          rw [hae, HA.out]
          clear hae
          go_wp2_with fail
          refine (HC3.out _).mono ?_
          rintro e w5 ⟨rfl, hb5⟩
          have t5 := t3.keep hb5
          clear hb5 t3
          go_wp2_with fail
          refine (HH2.out _).mono ?_
          rintro e w6 ⟨rfl, hb6⟩
          have t6 := t5.keep hb6
          clear hb6 t5
          have c1 := t6.box.c1; have c2 := t6.box.c2; have c3 := t6.box.c3; have fb := t6.box.fr
          have c0 := t6.box.c0
          go_wp2_with fail
          refine (HP2.out _).mono ?_
          rintro e w8 ⟨rfl, hb8⟩
          have t8 := (t6.sh h).keep hb8
          clear hb8 t6 c0 c1 c2 c3 fb
          have c4 := t8.box.c4; have fb := t8.box.fr
          go_wp2_with fail
          refine (HRE.out _).mono ?_
          rintro e w9 ⟨rfl, hb9⟩
          have t9 := (t8.s4 pn).keep hb9
          clear hb9 t8 c4 fb
          obtain ⟨pp, hpp⟩ : ∃ pp, Urp.pathOf pa = pp := ⟨_, rfl⟩
          rw [hpp]
          have HPP := Lib.hid hpp
          clear hpp
          have k0 := t9.box.c0; have k1 := t9.box.c1; have k2 := t9.box.c2; have k3 := t9.box.c3; have k4 := t9.box.c4; have k5 := t9.box.c5; have k6 := t9.box.c6; have k7 := t9.box.c7; have k8 := t9.box.c8; have fb := t9.box.fr
          have d0 := t9.res.c0; have d1 := t9.res.c1; have d2 := t9.res.c2; have d3 := t9.res.c3; have d4 := t9.res.c4; have d5 := t9.res.c5; have d6 := t9.res.c6; have d7 := t9.res.c7; have d8 := t9.res.c8
          have f := t9.res.fr
          go_wp2_with fail
          have tx := t9.s5 pp
          exact bodyPost_ret (results_url rfl _ _ rfl (tx.res.set ⟨s, h, pn, pp, hq2, qy, []⟩)) rfl ⟨by rw [← HRS.out, HPP.out]; rfl, below_set9 tx.bel (by omega) ⟨s, h, pn, pp, hq2, qy, []⟩⟩
end Go.Proofs.YtinjkpbpkedfnaaGreatDoor

/- The contract of urlp.Parse (it calls itself at the text within a blob), and of Inner. -/

namespace Go.Proofs.YtinjkpbpkedfnaaGreatDoor
open Go.RowKit

/-- What Parse is, in steps. -/
theorem parse_err {l : List UInt8} {e : Int} (h : Urp.cutS (Urp.trimU l) = .error e) : Urp.parse l = .error e := by unfold Urp.parse; rw [h]
theorem parse_dim {l s a : List UInt8} (h : Urp.cutS (Urp.trimU l) = .ok (s, a)) (hv : Urp.visB (Urp.bef 35 a) = false) : Urp.parse l = .error 30 := by unfold Urp.parse; rw [h]; simp [hv]
theorem parse_net {l s a : List UInt8} (h : Urp.cutS (Urp.trimU l) = .ok (s, a)) (hv : Urp.visB (Urp.bef 35 a) = true) (hn : Urp.netB s = true) : Urp.parse l = Urp.web s (Urp.bef 35 a) := by unfold Urp.parse; rw [h]; simp [hv, hn]
theorem parse_bad {l s a : List UInt8} (h : Urp.cutS (Urp.trimU l) = .ok (s, a)) (hv : Urp.visB (Urp.bef 35 a) = true) (hn : Urp.netB s = false) (hr : Urp.restB s (Urp.bef 35 a) = false) : Urp.parse l = .error 30 := by unfold Urp.parse; rw [h]; simp [hv, hn, hr]
theorem parse_rest {l s a : List UInt8} (h : Urp.cutS (Urp.trimU l) = .ok (s, a)) (hv : Urp.visB (Urp.bef 35 a) = true) (hn : Urp.netB s = false) (hr : Urp.restB s (Urp.bef 35 a) = true) : Urp.parse l = .ok ⟨s, Hst.none_, -1, [], false, [], Urp.bef 35 a⟩ := by unfold Urp.parse; rw [h]; simp [hv, hn, hr]

set_option maxHeartbeats 4000000 in
set_option maxRecDepth 100000 in
theorem parse_step (l : List UInt8) (w : World) (hl : l.length ≤ 9223372036854775807) (hT : Tab8 w) (ih : ∀ l' : List UInt8, l'.length < l.length → ParsesAt l') : Calls Tryz.prog 22 #[.string (bA l)] w fun e w' => e = .returned (resV (Urp.parse l)) ∧ Below w.heap.size w w' := by
  have hb0 : Below w.heap.size w (w.alloc (.cells (uCells Urp.zeroU) 43)) := (Below.refl _ w).alloc (Nat.le_refl _) _
  have q0 := UBox.new w Urp.zeroU
  have htl := Urp.trimU_len l
  have HTR := Lib.hid (fun W h => trimU_any (bA l) W (by rw [bA_size]; unfold maxLen; omega) h)
  have HCU := Lib.hid (fun W => cutScheme_any (bA (Urp.trimU l)) W (by rw [bA_size]; unfold maxLen; omega))
  have hT0 := hT.below hb0
  have e0 : (bA l).data.toList = l := rfl
  have e1 : (bA (Urp.trimU l)).data.toList = Urp.trimU l := rfl
  rw [e0] at HTR
  rw [e1] at HCU
  clear e0 e1
  cases hc : Urp.cutS (Urp.trimU l) with
  | error er =>
    have HE := Lib.hid (parse_err hc)
    rw [hc] at HCU
    have her : (er != 0) = true := by
      unfold Urp.cutS at hc
      split at hc
      · cases hc; decide
      · split at hc
        · cases hc
        · cases hc; decide
    unfold cutV at HCU
    simp only at HCU
    have HB := Lib.hid hb0
    have HQ := Lib.hid q0
    have HT := Lib.hid hT0
    clear hc ih hb0 q0 hT0
    go_enter Tryz.func22, Tryz.ntmps22
    go_wp2_with fail
    refine (HTR.out _ HT.out).mono ?_
    rintro e w1 ⟨rfl, hb1⟩
    go_wp2_with fail
    refine (HCU.out _).mono ?_
    rintro e w2 ⟨rfl, hb2⟩
    have q2 := (HQ.out.keep hb1).keep hb2
    have hbw := below_on (below_on HB.out hb1) hb2
    have d0 := q2.c0; have d1 := q2.c1; have d2 := q2.c2; have d3 := q2.c3; have d4 := q2.c4; have d5 := q2.c5; have d6 := q2.c6; have d7 := q2.c7; have d8 := q2.c8
    have f := q2.fr
    go_wp2_with fail
    exact bodyPost_ret (results_url rfl _ _ rfl (q2.set Urp.zeroU)) rfl ⟨by rw [HE.out]; rfl, below_set9 hbw (Nat.le_refl _) Urp.zeroU⟩
  | ok x =>
    obtain ⟨s, a⟩ := x
    have hcol := (Urp.cutS_ok hc).2.1
    have hae := (Urp.cutS_ok hc).2.2.2.2.2
    have hal : a.length < l.length := by
      have := Urp.aft_lt hcol
      rw [← hae] at this; omega
    have h2k : a.length ≤ 2000 := by
      have h1 := of_decide_eq_false (Urp.cutS_ok hc).1
      have := Urp.aft_lt hcol
      rw [← hae] at this; omega
    have hr2k : (Urp.bef 35 a).length ≤ 2000 := Nat.le_trans (Urp.bef_len 35 a) h2k
    have hrl : (Urp.bef 35 a).length < l.length := Nat.lt_of_le_of_lt (Urp.bef_len 35 a) hal
    rw [hc] at HCU
    unfold cutV at HCU
    simp only at HCU
    have HCT := Lib.hid (fun W => cut_at a 35 W (by omega))
    obtain ⟨h35, hh35⟩ : ∃ b, Urp.hasB 35 a = b := ⟨_, rfl⟩
    obtain ⟨a35, ha35⟩ : ∃ b, Urp.aft 35 a = b := ⟨_, rfl⟩
    rw [hh35, ha35] at HCT
    have HC := Lib.hid hc
    obtain ⟨rest, hrest⟩ : ∃ r, Urp.bef 35 a = r := ⟨_, rfl⟩
    have HRS := Lib.hid hrest
    rw [hrest] at HCT hrl hr2k
    have HVI := Lib.hid (fun W => isVisible_any (bA rest) W (by rw [bA_size]; unfold maxLen; omega))
    have evi : (bA rest).data.toList = rest := rfl
    rw [evi] at HVI
    have HIH := Lib.hid (ih rest hrl)
    have HB := Lib.hid hb0
    have HQ := Lib.hid q0
    have HT := Lib.hid hT0
    clear hc ih hb0 q0 hT0 hh35 ha35 hrest evi hcol hae
    cases hv : Urp.visB rest with
    | false =>
      have HE := Lib.hid (parse_dim HC.out (by rw [HRS.out]; exact hv))
      rw [hv] at HVI
      clear hv
      go_enter Tryz.func22, Tryz.ntmps22
      go_wp2_with fail
      refine (HTR.out _ HT.out).mono ?_
      rintro e w1 ⟨rfl, hb1⟩
      go_wp2_with fail
      refine (HCU.out _).mono ?_
      rintro e w2 ⟨rfl, hb2⟩
      go_wp2_with fail
      refine (HCT.out _).mono ?_
      rintro e w3 ⟨rfl, hb3⟩
      go_wp2_with fail
      refine (HVI.out _).mono ?_
      rintro e w4 ⟨rfl, rfl⟩
      have q2 := ((HQ.out.keep hb1).keep hb2).keep hb3
      have hbw := below_on (below_on (below_on HB.out hb1) hb2) hb3
      have d0 := q2.c0; have d1 := q2.c1; have d2 := q2.c2; have d3 := q2.c3; have d4 := q2.c4; have d5 := q2.c5; have d6 := q2.c6; have d7 := q2.c7; have d8 := q2.c8
      have f := q2.fr
      go_wp2_with fail
      exact bodyPost_ret (results_url rfl _ _ rfl (q2.set Urp.zeroU)) rfl ⟨by rw [HE.out]; rfl, below_set9 hbw (Nat.le_refl _) Urp.zeroU⟩
    | true =>
      have HV := Lib.hid hv
      rw [hv] at HVI
      clear hv
      cases hn : Urp.netB s with
      | true =>
        have HE := Lib.hid (parse_net HC.out (by rw [HRS.out]; exact HV.out) hn)
        rw [HRS.out] at HE
        have HN := Lib.hid hn
        have HPN := Lib.hid (fun W => parseNet_any s rest W hn (by omega))
        clear hn
        obtain ⟨res, hres⟩ : ∃ r, Urp.web s rest = r := ⟨_, rfl⟩
        rw [hres] at HE HPN
        clear hres
        unfold resV urlV uCells begun at HPN
        obtain ⟨x, hx⟩ : ∃ x, getU res = x := ⟨_, rfl⟩
        obtain ⟨er, her⟩ : ∃ x, errU res = x := ⟨_, rfl⟩
        rw [hx, her] at HPN
        have HX := Lib.hid hx
        have HER := Lib.hid her
        clear hx her
        go_enter Tryz.func22, Tryz.ntmps22
        go_wp2_with fail
        refine (HTR.out _ HT.out).mono ?_
        rintro e w1 ⟨rfl, hb1⟩
        go_wp2_with fail
        refine (HCU.out _).mono ?_
        rintro e w2 ⟨rfl, hb2⟩
        go_wp2_with fail
        refine (HCT.out _).mono ?_
        rintro e w3 ⟨rfl, hb3⟩
        go_wp2_with fail
        refine (HVI.out _).mono ?_
        rintro e w4 ⟨rfl, rfl⟩
        have q3 := ((HQ.out.keep hb1).keep hb2).keep hb3
        have hbw := below_on (below_on (below_on HB.out hb1) hb2) hb3
        go_wp2_with fail
        refine (netV_any _ _ _ _ _ _ _ _ _ _).mono ?_
        rintro e w5 ⟨rfl, hb5⟩
        have q5 := (q3.alloc _).keep hb5
        have u5 := (UBox.new w3 (begun s)).keep hb5
        have hbw5 := below_on (hbw.alloc hbw.size _) hb5
        have en : Urp.netB (bA s).data.toList = Urp.netB s := rfl
        rw [en, HN.out]
        clear en hb5 hb1 hb2 hb3 q3 hbw
        have c0 := u5.c0; have c1 := u5.c1; have c2 := u5.c2; have c3 := u5.c3; have c4 := u5.c4; have c5 := u5.c5; have c6 := u5.c6; have c7 := u5.c7; have c8 := u5.c8
        unfold begun at c0 c1 c2 c3 c4 c5 c6 c7 c8
        go_wp2_with fail
        refine (HPN.out _).mono ?_
        rintro e w6 ⟨rfl, hb6⟩
        have q6 := q5.keep hb6
        have hbw6 := below_on hbw5 hb6
        clear hb6 q5 u5 c0 c1 c2 c3 c4 c5 c6 c7 c8 hbw5
        have d0 := q6.c0; have d1 := q6.c1; have d2 := q6.c2; have d3 := q6.c3; have d4 := q6.c4; have d5 := q6.c5; have d6 := q6.c6; have d7 := q6.c7; have d8 := q6.c8
        have f := q6.fr
        go_wp2_with fail
        exact bodyPost_ret (results_url rfl _ _ rfl (q6.set x)) rfl ⟨by rw [HE.out]; unfold resV; rw [HX.out, HER.out]; rfl, below_set9 hbw6 (Nat.le_refl _) x⟩
      | false =>
        have HN := Lib.hid hn
        have HR := Lib.hid (fun W h => isRest_of s rest W h HIH.out)
        clear hn
        cases hr : Urp.restB s rest with
        | false =>
          have HE := Lib.hid (parse_bad HC.out (by rw [HRS.out]; exact HV.out) HN.out (by rw [HRS.out]; exact hr))
          rw [hr] at HR
          clear hr
          go_enter Tryz.func22, Tryz.ntmps22
          go_wp2_with fail
          refine (HTR.out _ HT.out).mono ?_
          rintro e w1 ⟨rfl, hb1⟩
          go_wp2_with fail
          refine (HCU.out _).mono ?_
          rintro e w2 ⟨rfl, hb2⟩
          go_wp2_with fail
          refine (HCT.out _).mono ?_
          rintro e w3 ⟨rfl, hb3⟩
          go_wp2_with fail
          refine (HVI.out _).mono ?_
          rintro e w4 ⟨rfl, rfl⟩
          have q3 := ((HQ.out.keep hb1).keep hb2).keep hb3
          have hbw := below_on (below_on (below_on HB.out hb1) hb2) hb3
          go_wp2_with fail
          refine (netV_any _ _ _ _ _ _ _ _ _ _).mono ?_
          rintro e w5 ⟨rfl, hb5⟩
          have q5 := (q3.alloc _).keep hb5
          have hbw5 := below_on (hbw.alloc hbw.size _) hb5
          have en : Urp.netB (bA s).data.toList = Urp.netB s := rfl
          rw [en, HN.out]
          clear en hb5 hb1 hb2 hb3 q3 hbw
          have HT5 := Lib.hid (hT.below hbw5)
          go_wp2_with fail
          refine (HR.out _ HT5.out).mono ?_
          rintro e w6 ⟨rfl, hb6⟩
          have q6 := q5.keep hb6
          have hbw6 := below_on hbw5 hb6
          clear hb6 q5 hbw5
          have d0 := q6.c0; have d1 := q6.c1; have d2 := q6.c2; have d3 := q6.c3; have d4 := q6.c4; have d5 := q6.c5; have d6 := q6.c6; have d7 := q6.c7; have d8 := q6.c8
          have f := q6.fr
          go_wp2_with fail
          exact bodyPost_ret (results_url rfl _ _ rfl (q6.set Urp.zeroU)) rfl ⟨by rw [HE.out]; rfl, below_set9 hbw6 (Nat.le_refl _) Urp.zeroU⟩
        | true =>
          have HE := Lib.hid (parse_rest HC.out (by rw [HRS.out]; exact HV.out) HN.out (by rw [HRS.out]; exact hr))
          rw [HRS.out] at HE
          rw [hr] at HR
          clear hr
          go_enter Tryz.func22, Tryz.ntmps22
          go_wp2_with fail
          refine (HTR.out _ HT.out).mono ?_
          rintro e w1 ⟨rfl, hb1⟩
          go_wp2_with fail
          refine (HCU.out _).mono ?_
          rintro e w2 ⟨rfl, hb2⟩
          go_wp2_with fail
          refine (HCT.out _).mono ?_
          rintro e w3 ⟨rfl, hb3⟩
          go_wp2_with fail
          refine (HVI.out _).mono ?_
          rintro e w4 ⟨rfl, rfl⟩
          have q3 := ((HQ.out.keep hb1).keep hb2).keep hb3
          have hbw := below_on (below_on (below_on HB.out hb1) hb2) hb3
          have hne : w3.heap.size ≠ w.heap.size := by have := q3.lt; omega
          go_wp2_with fail
          refine (netV_any _ _ _ _ _ _ _ _ _ _).mono ?_
          rintro e w5 ⟨rfl, hb5⟩
          have q5 := (q3.alloc _).keep hb5
          have u5 := (UBox.new w3 (begun s)).keep hb5
          have hbw5 := below_on (hbw.alloc hbw.size _) hb5
          have hsz : w.heap.size ≤ w3.heap.size := hbw.size
          have en : Urp.netB (bA s).data.toList = Urp.netB s := rfl
          rw [en, HN.out]
          clear en hb5 hb1 hb2 hb3 q3 hbw
          have HT5 := Lib.hid (hT.below hbw5)
          go_wp2_with fail
          refine (HR.out _ HT5.out).mono ?_
          rintro e w6 ⟨rfl, hb6⟩
          have q6 := q5.keep hb6
          have u6 := u5.keep hb6
          have hbw6 := below_on hbw5 hb6
          clear hb6 q5 u5 hbw5
          have c0 := u6.c0; have c1 := u6.c1; have c2 := u6.c2; have c3 := u6.c3; have c4 := u6.c4; have c5 := u6.c5; have c6 := u6.c6; have c7 := u6.c7; have c8 := u6.c8
          unfold begun at c0 c1 c2 c3 c4 c5 c6 c7 c8
          have fu := u6.fr
          have d0 := q6.c0; have d1 := q6.c1; have d2 := q6.c2; have d3 := q6.c3; have d4 := q6.c4; have d5 := q6.c5; have d6 := q6.c6; have d7 := q6.c7; have d8 := q6.c8
          have f := q6.fr
          go_wp2_with fail
          have q7 := q6.ne w3.heap.size 8 (.string (bA rest)) hne
          exact bodyPost_ret (results_url rfl _ _ rfl (q7.set ⟨s, Hst.none_, -1, [], false, [], rest⟩)) rfl ⟨by rw [HE.out]; rfl, below_set9 (hbw6.setCell (p := ⟨w3.heap.size, 8, none⟩) hsz _) (Nat.le_refl _) ⟨s, Hst.none_, -1, [], false, [], rest⟩⟩
/-- Parse's contract at any text. -/
theorem uparse_all (l : List UInt8) (w : World) (hl : l.length ≤ 9223372036854775807) (hT : Tab8 w) : Calls Tryz.prog 22 #[.string (bA l)] w fun e w' => e = .returned (resV (Urp.parse l)) ∧ Below w.heap.size w w' := by
  have key : ∀ (n : Nat) (l : List UInt8), l.length < n → l.length ≤ 9223372036854775807 → ParsesAt l := by
    intro n
    induction n with
    | zero => intro l h; omega
    | succ n ih => exact fun l h hl W hW => parse_step l W hl hW (fun l' h' => ih l' (by omega) (by omega))
  exact key (l.length + 1) l (by omega) hl w hT
theorem uparse_any (l : List UInt8) (w : World) (hl : l.length ≤ 4000) (hT : Tab8 w) : Calls Tryz.prog 22 #[.string (bA l)] w fun e w' => e = .returned (resV (Urp.parse l)) ∧ Below w.heap.size w w' := uparse_all l w (by omega) hT
theorem inner_any (u : Urp.URL) (w : World) (hl : u.rest.length ≤ 4000) (hT : Tab8 w) : Calls Tryz.prog 54 #[urlV u] w fun e w' => e = .returned (inV (Urp.innerU u)) ∧ Below w.heap.size w w' :=
  inner_of u w hT (fun W hW => uparse_any u.rest W hl hW)
end Go.Proofs.YtinjkpbpkedfnaaGreatDoor

/- Laws of URLs: paths, ports, what stands at the ends. No function of the program is walked here. -/
namespace Go.Proofs.YtinjkpbpkedfnaaGreatDoor
namespace Urp
open Oct

/-! ### cutting at a byte -/
def No (c : UInt8) (l : List UInt8) : Prop := ∀ b ∈ l, b ≠ c
theorem has_app (c : UInt8) (x y : List UInt8) : hasB c (x ++ y) = (hasB c x || hasB c y) := by simp [hasB, List.any_append]
theorem no_has {c : UInt8} {l : List UInt8} (h : No c l) : hasB c l = false := by
  unfold hasB; rw [List.any_eq_false]; intro b hb; simpa using h b hb
theorem has_no {c : UInt8} {l : List UInt8} (h : hasB c l = false) : No c l := by
  unfold hasB at h; rw [List.any_eq_false] at h; intro b hb; simpa using h b hb
theorem bef_app {c : UInt8} {x : List UInt8} (h : No c x) (y : List UInt8) : bef c (x ++ y) = x ++ bef c y := by
  unfold bef; exact List.takeWhile_append_of_pos (fun b hb => by simpa using h b hb)
theorem aft_app {c : UInt8} {x : List UInt8} (h : No c x) (y : List UInt8) : aft c (x ++ y) = aft c y := by
  unfold aft; rw [List.dropWhile_append_of_pos (fun b hb => by simpa using h b hb)]
theorem bef_no {c : UInt8} {x : List UInt8} (h : No c x) : bef c x = x := by
  have := bef_app h []; simpa [bef] using this
theorem aft_no {c : UInt8} {x : List UInt8} (h : No c x) : aft c x = [] := by
  have := aft_app h []; simpa [aft] using this
theorem bef_hit (c : UInt8) (y : List UInt8) : bef c (c :: y) = [] := by simp [bef]
theorem aft_hit (c : UInt8) (y : List UInt8) : aft c (c :: y) = y := by simp [aft]
theorem has_hit (c : UInt8) (y : List UInt8) : hasB c (c :: y) = true := by simp [hasB]
theorem bef_app_has {c : UInt8} {x : List UInt8} (h : hasB c x = true) (y : List UInt8) : bef c (x ++ y) = bef c x ∧ aft c (x ++ y) = aft c x ++ y := by
  induction x with
  | nil => simp [hasB] at h
  | cons b x ih =>
    by_cases hb : b = c
    · subst hb; exact ⟨by rw [List.cons_append, bef_hit, bef_hit], by rw [List.cons_append, aft_hit, aft_hit]⟩
    · have h' : hasB c x = true := by
        have hbc : (b == c) = false := by simpa using hb
        simpa [hasB, hbc] using h
      have hbc : (b != c) = true := by simpa using hb
      obtain ⟨h1, h2⟩ := ih h'
      constructor
      · show bef c (b :: (x ++ y)) = bef c (b :: x)
        have e : ∀ z, bef c (b :: z) = b :: bef c z := fun z => by simp [bef, hb]
        rw [e, e, h1]
      · show aft c (b :: (x ++ y)) = aft c (b :: x) ++ y
        have e : ∀ z, aft c (b :: z) = aft c z := fun z => by simp [aft, hb]
        rw [e, e, h2]
theorem no_app {c : UInt8} {x y : List UInt8} (h1 : No c x) (h2 : No c y) : No c (x ++ y) := by
  intro b hb; rcases List.mem_append.1 hb with h | h
  · exact h1 b h
  · exact h2 b h
theorem no_bef (c : UInt8) (l : List UInt8) : No c (bef c l) := by
  induction l with
  | nil => intro b hb; simp [bef] at hb
  | cons a l ih =>
    intro b hb
    by_cases h : a = c
    · subst h; rw [bef_hit] at hb; cases hb
    · have e : bef c (a :: l) = a :: bef c l := by simp [bef, h]
      rw [e] at hb
      rcases List.mem_cons.1 hb with rfl | hb
      · exact h
      · exact ih b hb
theorem bef_sub (c : UInt8) (l : List UInt8) : ∀ b ∈ bef c l, b ∈ l := fun _ hb => (List.takeWhile_prefix (p := fun b => b != c) (l := l)).subset hb
theorem aft_sub (c : UInt8) (l : List UInt8) : ∀ b ∈ aft c l, b ∈ l := fun _ hb => (List.dropWhile_suffix (p := fun b => b != c) (l := l)).subset (List.mem_of_mem_drop hb)
/-- A text is what stands ahead of a byte, the byte, and what stands behind. -/
theorem cut_join {c : UInt8} {l : List UInt8} (h : hasB c l = true) : l = bef c l ++ c :: aft c l := by
  induction l with
  | nil => simp [hasB] at h
  | cons b x ih =>
    by_cases hb : b = c
    · subst hb; rw [bef_hit, aft_hit]; rfl
    · have hbc : (b == c) = false := by simpa using hb
      have h' : hasB c x = true := by simpa [hasB, hbc] using h
      have e1 : bef c (b :: x) = b :: bef c x := by simp [bef, hb]
      have e2 : aft c (b :: x) = aft c x := by simp [aft, hb]
      rw [e1, e2]
      simp only [List.cons_append]
      rw [← ih h']

/-! ### what stands at the ends -/
theorem dw_none {p : UInt8 → Bool} {l : List UInt8} (h : ∀ b ∈ l, p b = false) : l.dropWhile p = l := by
  cases l with
  | nil => rfl
  | cons b l => rw [List.dropWhile_cons_of_neg (by rw [h b (by simp)]; simp)]
theorem trimU_vis {l : List UInt8} (h : ∀ b ∈ l, outerB b = false) : trimU l = l := by
  unfold trimU
  rw [dw_none h, dw_none (fun b hb => h b (by simpa using hb)), List.reverse_reverse]
theorem trimU_left {a l : List UInt8} (h : ∀ b ∈ a, outerB b = true) : trimU (a ++ l) = trimU l := by
  unfold trimU; rw [List.dropWhile_append_of_pos h]
theorem dw_app_ne {p : UInt8 → Bool} (a b : List UInt8) (h : ∃ x ∈ a, p x = false) : (a ++ b).dropWhile p = a.dropWhile p ++ b := by
  induction a with
  | nil => obtain ⟨x, hx, _⟩ := h; cases hx
  | cons c a ih =>
    cases hc : p c with
    | false => rw [List.cons_append, List.dropWhile_cons_of_neg (by simp [hc]), List.dropWhile_cons_of_neg (by simp [hc])]; rfl
    | true =>
      rw [List.cons_append, List.dropWhile_cons_of_pos hc, List.dropWhile_cons_of_pos hc]
      apply ih
      obtain ⟨x, hx, hp⟩ := h
      rcases List.mem_cons.1 hx with rfl | hx
      · rw [hc] at hp; cases hp
      · exact ⟨x, hx, hp⟩
theorem dw_nil {p : UInt8 → Bool} {a : List UInt8} (h : ∀ x ∈ a, p x = true) : a.dropWhile p = [] := by
  have := List.dropWhile_append_of_pos (l₁ := a) (l₂ := []) h
  simpa using this
theorem trimU_right {l z : List UInt8} (h : ∀ b ∈ z, outerB b = true) : trimU (l ++ z) = trimU l := by
  unfold trimU
  by_cases hx : ∃ x ∈ l, outerB x = false
  · rw [dw_app_ne l z hx, List.reverse_append, List.dropWhile_append_of_pos (fun b hb => h b (by simpa using hb))]
  · have hall : ∀ x ∈ l, outerB x = true := fun x hm => by
      cases he : outerB x with
      | true => rfl
      | false => exact absurd ⟨x, hm, he⟩ hx
    rw [dw_nil hall, dw_nil (a := l ++ z) (fun x hm => (List.mem_append.1 hm).elim (hall x) (h x))]
/-- Without what stands at the end. -/
def endU (l : List UInt8) : List UInt8 := (l.reverse.dropWhile outerB).reverse
theorem endU_pre (l : List UInt8) : endU l <+: l := by
  have := List.dropWhile_suffix (p := outerB) (l := l.reverse)
  have := List.reverse_prefix.2 this
  simpa [endU] using this
theorem trimU_mid {x : List UInt8} (m : List UInt8) (hx : x ≠ []) (h : ∀ b ∈ x, outerB b = false) : trimU (x ++ m) = x ++ endU m := by
  have e1 : (x ++ m).dropWhile outerB = x ++ m := by
    cases x with
    | nil => exact absurd rfl hx
    | cons b x => rw [List.cons_append, List.dropWhile_cons_of_neg (by rw [h b (by simp)]; simp)]
  unfold trimU endU
  rw [e1, List.reverse_append]
  by_cases hm : ∃ y ∈ m.reverse, outerB y = false
  · rw [dw_app_ne _ _ hm, List.reverse_append, List.reverse_reverse]
  · have hall : ∀ y ∈ m.reverse, outerB y = true := fun y hy => by
      cases he : outerB y with
      | true => rfl
      | false => exact absurd ⟨y, hy, he⟩ hm
    rw [List.dropWhile_append_of_pos hall, dw_nil hall, dw_none (fun b hb => h b (by simpa using hb))]
    simp

/-! ### segments -/
theorem walk_mem : ∀ (ps k : List (List UInt8)), ∀ x ∈ walk k ps, x ∈ k ∨ x = [] ∨ (x ∈ ps ∧ x ≠ dot1 ∧ x ≠ dot2)
  | [], k, x, h => .inl h
  | p :: r, k, x, h => by
    have h' : x ∈ walk (stepC r.isEmpty k p) r := h
    rcases walk_mem r _ x h' with h1 | h1 | ⟨h1, h2, h3⟩
    · have hs : x ∈ k ∨ x = [] ∨ (x = p ∧ p ≠ dot1 ∧ p ≠ dot2) := by
        unfold stepC at h1
        have hd : ∀ y ∈ k.dropLast, y ∈ k := fun y hy => List.dropLast_subset k hy
        split at h1
        · split at h1
          · rcases List.mem_append.1 h1 with h1 | h1
            · exact .inl (hd x h1)
            · exact .inr (.inl (by simpa using h1))
          · exact .inl (hd x h1)
        · rename_i hn2
          split at h1
          · split at h1
            · rcases List.mem_append.1 h1 with h1 | h1
              · exact .inl h1
              · exact .inr (.inl (by simpa using h1))
            · exact .inl h1
          · rename_i hn1
            rcases List.mem_append.1 h1 with h1 | h1
            · exact .inl h1
            · exact .inr (.inr ⟨by simpa using h1, hn1, hn2⟩)
      rcases hs with h | h | ⟨rfl, ha, hb⟩
      · exact .inl h
      · exact .inr (.inl h)
      · exact .inr (.inr ⟨by simp, ha, hb⟩)
    · exact .inr (.inl h1)
    · exact .inr (.inr ⟨List.mem_cons_of_mem _ h1, h2, h3⟩)
theorem walk_id : ∀ (ps k : List (List UInt8)), (∀ x ∈ ps, x ≠ dot1 ∧ x ≠ dot2) → walk k ps = k ++ ps
  | [], k, _ => by simp [walk]
  | p :: r, k, h => by
    show walk (stepC r.isEmpty k p) r = _
    rw [step_x _ k p (h p (by simp)).2 (h p (by simp)).1, walk_id r _ (fun x hx => h x (List.mem_cons_of_mem _ hx))]
    simp
theorem segs_no (p : List UInt8) : ∀ q ∈ segs p, ∀ b ∈ q, ((b.toNat : Int) == 47) = false := split_none (fun x => x == 47) p
/-- What remains of a path's segments: none is points, none has a stroke. -/
theorem kept_good (p : List UInt8) : ∀ x ∈ walk [] (segs p), x ≠ dot1 ∧ x ≠ dot2 ∧ ∀ b ∈ x, ((b.toNat : Int) == 47) = false := by
  intro x hx
  rcases walk_mem (segs p) [] x hx with h | h | ⟨h1, h2, h3⟩
  · cases h
  · subst h; exact ⟨by decide, by decide, by simp⟩
  · exact ⟨h2, h3, segs_no p x h1⟩
theorem segs_join (ks : List (List UInt8)) (h0 : ks ≠ []) (h : ∀ q ∈ ks, ∀ b ∈ q, ((b.toNat : Int) == 47) = false) : segs (join 47 ks) = ks := Hst.split_join 47 ks h0 h
theorem segs_str (p : List UInt8) : segs (47 :: p) = [] :: segs p := by
  have := split_glue (fun x => x == 47) [] p 47 (by rfl)
  exact this
theorem path_segs (p : List UInt8) : segs (pathOf p) = [] :: walk [] (segs p) := by
  unfold pathOf
  rw [segs_str, segs_join _ (walk_segs_ne p) (fun q hq => (kept_good p q hq).2.2)]
/-- A path that was made so is made so again. -/
theorem path_again (p : List UInt8) : pathOf ((pathOf p).drop 1) = pathOf p := by
  have e : (pathOf p).drop 1 = join 47 (walk [] (segs p)) := rfl
  rw [e]
  unfold pathOf
  rw [segs_join _ (walk_segs_ne p) (fun q hq => (kept_good p q hq).2.2), walk_id _ _ (fun x hx => ⟨(kept_good p x hx).1, (kept_good p x hx).2.1⟩)]
  rfl
theorem join_mem (c : UInt8) (ks : List (List UInt8)) : ∀ b ∈ join c ks, b = c ∨ ∃ k ∈ ks, b ∈ k := by
  induction ks with
  | nil => intro b hb; simp [join] at hb
  | cons p r ih =>
    intro b hb
    cases r with
    | nil => exact .inr ⟨p, by simp, by simpa [join] using hb⟩
    | cons q r =>
      have hb' : b ∈ p ++ c :: join c (q :: r) := hb
      rcases List.mem_append.1 hb' with h | h
      · exact .inr ⟨p, by simp, h⟩
      · rcases List.mem_cons.1 h with h | h
        · exact .inl h
        · rcases ih b h with h | ⟨k, hk, h⟩
          · exact .inl h
          · exact .inr ⟨k, List.mem_cons_of_mem _ hk, h⟩
theorem segs_sub (p : List UInt8) : ∀ k ∈ segs p, ∀ b ∈ k, b ∈ p := by
  intro k hk b hb
  have e : join 47 (segs p) = p := join_split 47 p
  rw [← e]
  generalize segs p = ks at hk
  clear e
  induction ks with
  | nil => cases hk
  | cons q r ih =>
    rcases List.mem_cons.1 hk with rfl | hk
    · cases r with
      | nil => simpa [join] using hb
      | cons q r => show b ∈ k ++ 47 :: join 47 (q :: r); simp [hb]
    · cases r with
      | nil => cases hk
      | cons q2 r => show b ∈ q ++ 47 :: join 47 (q2 :: r); simp [ih hk]
theorem path_sub (p : List UInt8) : ∀ b ∈ pathOf p, b = 47 ∨ b ∈ p := by
  intro b hb
  unfold pathOf at hb
  rcases List.mem_cons.1 hb with h | h
  · exact .inl h
  · rcases join_mem 47 _ b h with h | ⟨k, hk, h⟩
    · exact .inl h
    · rcases walk_mem (segs p) [] k hk with h1 | h1 | ⟨h1, _, _⟩
      · cases h1
      · subst h1; cases h
      · exact .inr (segs_sub p k h1 b h)

/-! ### ports -/
theorem port_bd {s p : List UInt8} {x : Int} (h : portOf s p = some x) : x = -1 ∨ (0 ≤ x ∧ x ≤ 65535 ∧ x ≠ own s ∧ p = Lib.itoa x) := by
  unfold portOf at h
  split at h
  · simp only [Option.some.injEq] at h; exact .inl h.symm
  · split at h
    · rename_i hk
      have h3 := numOk_parts _ _ hk
      have h0 := val_nonneg _ h3.2.2.1
      split at h
      · simp only [Option.some.injEq] at h; exact .inl h.symm
      · rename_i hne
        simp only [Option.some.injEq] at h
        subst h
        refine .inr ⟨h0, h3.2.2.2, hne, ?_⟩
        unfold Lib.itoa
        rw [if_neg (by omega)]
        exact (dec_val (p.length - 1) p (by omega) h3.2.2.1 h3.2.1).symm
    · cases h
end Urp
end Go.Proofs.YtinjkpbpkedfnaaGreatDoor

/- The contract of urlp.Text. -/

namespace Go.Proofs.YtinjkpbpkedfnaaGreatDoor
open Go.RowKit

def portT (p : Int) : List UInt8 := if 0 ≤ p then 58 :: Lib.itoa p else []
def queryT (u : Urp.URL) : List UInt8 := if u.hasq then 63 :: u.query else []
/-- A URL as it is written. -/
def utextL (u : Urp.URL) : List UInt8 :=
  if Urp.netB u.scheme then u.scheme ++ [58, 47, 47] ++ textL u.host ++ portT u.port ++ u.path ++ queryT u
  else u.scheme ++ [58] ++ u.rest
/-- The parts of a URL are small enough. -/
structure SmallU (u : Urp.URL) : Prop where
  sc : u.scheme.length ≤ 4000
  hn : u.host.name.length ≤ 4000
  a0 : 0 ≤ u.host.addr
  a1 : u.host.addr ≤ 4294967295
  p0 : -9223372036854775808 ≤ u.port
  p1 : u.port ≤ 9223372036854775807
  pa : u.path.length ≤ 4000
  qu : u.query.length ≤ 4000
  re : u.rest.length ≤ 4000

/-- What the calls of Text ask of the world. -/
structure TxReady (w0 : World) (B : Nat) (u : Urp.URL) (W : World) : Prop where
  bel : Below w0.heap.size w0 W
  tab : Tab W
  box : UBox W B u
theorem TxReady.below {w0 : World} {B : Nat} {u : Urp.URL} {W W' : World} (hb : Below W.heap.size W W') (h : TxReady w0 B u W) : TxReady w0 B u W' := ⟨below_on h.bel hb, h.tab.below hb, h.box.keep hb⟩
theorem TxReady.drew {w0 : World} {B : Nat} {u : Urp.URL} {W : World} (h : TxReady w0 B u W) : TxReady w0 B u W.drew := ⟨h.bel.drew, h.tab, h.box⟩
theorem TxReady.all {w0 : World} {B : Nat} {u : Urp.URL} {W : World} (h : TxReady w0 B u W) :
    W.cell? ⟨B, 0, none⟩ = some (.string (bA u.scheme)) ∧ W.cell? ⟨B, 1, none⟩ = some (.string (bA u.host.name)) ∧ W.cell? ⟨B, 2, none⟩ = some (.bool u.host.v4) ∧ W.cell? ⟨B, 3, none⟩ = some (.int .u32 u.host.addr) ∧ TxReady w0 B u W := ⟨h.box.c0, h.box.c1, h.box.c2, h.box.c3, h⟩
theorem textL_len (h : Hst.Host) (hn : h.name.length ≤ 4000) (a0 : 0 ≤ h.addr) (a1 : h.addr ≤ 4294967295) : (textL h).length ≤ 4000 := by
  unfold textL
  split
  · have := quad_join h.addr a0 a1; omega
  · exact hn

end Go.Proofs.YtinjkpbpkedfnaaGreatDoor

/- Laws of URLs that are read: what they are made of, and that they are read from their text as themselves. No function of the program is walked here. -/
namespace Go.Proofs.YtinjkpbpkedfnaaGreatDoor
namespace Urp
open Oct

def hostC (b : UInt8) : Prop := Hst.labI b.toNat = true ∨ b = 46
def plainC (b : UInt8) : Prop := visI b.toNat = true ∧ b ≠ 35
theorem plain_out {b : UInt8} (h : plainC b) : outerB b = false := by
  have := h.1
  unfold visI at this
  unfold outerB
  rw [Bool.and_eq_true, decide_eq_true_eq, decide_eq_true_eq] at this
  exact decide_eq_false (by omega)
theorem host_plain {b : UInt8} (h : hostC b) : plainC b ∧ b ≠ 63 ∧ b ≠ 47 ∧ b ≠ 64 ∧ b ≠ 58 := by
  have key : ∀ n : Fin 256, (Hst.labI (UInt8.ofNat n).toNat = true ∨ UInt8.ofNat n = 46) → ((visI (UInt8.ofNat n).toNat = true ∧ UInt8.ofNat n ≠ 35) ∧ UInt8.ofNat n ≠ 63 ∧ UInt8.ofNat n ≠ 47 ∧ UInt8.ofNat n ≠ 64 ∧ UInt8.ofNat n ≠ 58) := by decide +kernel
  have := key ⟨b.toNat, b.toNat_lt⟩
  simp only [UInt8.ofNat_toNat] at this
  exact this h
theorem digit_host {b : UInt8} (h : digitI b.toNat = true) : hostC b := by
  left; unfold Hst.labI; rw [h]; simp

/-- A URL of the net whose parts are those of one that is read. -/
structure Good (u : URL) : Prop where
  net : netB u.scheme = true
  host : Hst.parse (textL u.host) = some u.host
  hch : ∀ b ∈ textL u.host, hostC b
  port : u.port = -1 ∨ (0 ≤ u.port ∧ u.port ≤ 65535 ∧ u.port ≠ own u.scheme)
  path : ∃ p, u.path = pathOf p
  pch : ∀ b ∈ u.path, plainC b ∧ b ≠ 63
  qch : ∀ b ∈ u.query, plainC b
  noq : u.hasq = false → u.query = []
  rest : u.rest = []

theorem read_chars {n : List UInt8} {h : Hst.Host} (hr : Hst.read n = some h) : ∀ b ∈ n, hostC b := by
  have hd := dom_len (read_dom hr)
  intro b hb
  have e : join 46 (Hst.parts n) = n := Hst.join_parts n
  rw [← e] at hb
  rcases join_mem 46 _ b hb with h1 | ⟨k, hk, h1⟩
  · exact .inr h1
  · left
    have hl := hd.2 k hk
    unfold Hst.labelB at hl
    rw [Bool.and_eq_true, Bool.and_eq_true] at hl
    have := hl.1.1
    unfold allB at this
    rw [List.all_eq_true] at this
    exact this b h1
theorem dec_good (u : Nat) : allB digitI (Lib.decDigits u) = true ∧ val (Lib.decDigits u) = (u : Int) ∧ (0 < u → (Lib.decDigits u).headD 0 ≠ 48) ∧ 0 < (Lib.decDigits u).length ∧ (u < 10 → (Lib.decDigits u).length = 1) := by
  induction u using Nat.strongRecOn with
  | ind u ih =>
    by_cases h : u < 10
    · have e : Lib.decDigits u = [UInt8.ofNat (48 + u)] := by rw [Lib.decDigits, dif_pos h]
      rw [e]
      have key : ∀ n : Fin 10, allB digitI [UInt8.ofNat (48 + n.val)] = true ∧ val [UInt8.ofNat (48 + n.val)] = (n.val : Int) ∧ (0 < n.val → ([UInt8.ofNat (48 + n.val)] : List UInt8).headD 0 ≠ 48) := by decide +kernel
      have k := key ⟨u, h⟩
      exact ⟨k.1, k.2.1, k.2.2, by simp, fun _ => by simp⟩
    · have e : Lib.decDigits u = Lib.decDigits (u / 10) ++ [UInt8.ofNat (48 + u % 10)] := by rw [Lib.decDigits, dif_neg h]
      obtain ⟨h1, h2, h3, h4, _⟩ := ih (u / 10) (by omega)
      have key : ∀ n : Fin 10, digitI (UInt8.ofNat (48 + n.val)).toNat = true ∧ ((UInt8.ofNat (48 + n.val)).toNat : Int) - 48 = (n.val : Int) := by decide +kernel
      have k := key ⟨u % 10, by omega⟩
      rw [e]
      refine ⟨?_, ?_, fun _ => ?_, by simp, fun hx => absurd hx h⟩
      · unfold allB at h1 ⊢
        rw [List.all_append, h1]
        simpa using k.1
      · rw [val_snoc, h2, k.2]
        show 10 * ((u / 10 : Nat) : Int) + ((u % 10 : Nat) : Int) = (u : Int)
        omega
      · have := h3 (by omega)
        cases hd : Lib.decDigits (u / 10) with
        | nil => rw [hd] at h4; simp at h4
        | cons a r => rw [hd] at this; simpa using this
theorem itoa_digits (x : Int) (h0 : 0 ≤ x) (h1 : x ≤ 65535) : numOk (Lib.itoa x) 65535 = true ∧ val (Lib.itoa x) = x ∧ allB digitI (Lib.itoa x) = true ∧ Lib.itoa x ≠ [] := by
  have e : Lib.itoa x = Lib.decDigits x.toNat := by unfold Lib.itoa; rw [if_neg (by omega)]
  obtain ⟨d1, d2, d3, d4, d5⟩ := dec_good x.toNat
  rw [e]
  have hv : val (Lib.decDigits x.toNat) = x := by rw [d2]; omega
  have hne : Lib.decDigits x.toNat ≠ [] := by intro h; rw [h] at d4; simp at d4
  refine ⟨?_, hv, d1, hne⟩
  unfold numOk
  rw [d1, hv, decide_eq_true h1]
  have h3 : (!(decide (1 < (Lib.decDigits x.toNat).length) && (Lib.decDigits x.toNat).headD 0 == 48)) = true := by
    by_cases hp : 0 < x.toNat
    · have := d3 hp
      have hb : ((Lib.decDigits x.toNat).headD 0 == 48) = false := beq_eq_false_iff_ne.2 this
      rw [hb]; simp
    · have := d5 (by omega)
      rw [this]; rfl
  rw [h3]
  cases hd : Lib.decDigits x.toNat with
  | nil => exact absurd hd hne
  | cons a r => rfl
theorem portOf_own (s : List UInt8) (x : Int) (h : x = -1 ∨ (0 ≤ x ∧ x ≤ 65535 ∧ x ≠ own s)) : portOf s (aft 58 (portT x)) = some x ∧ (∀ b ∈ aft 58 (portT x), hostC b) ∧ (portT x = [] ∧ aft 58 (portT x) = [] ∨ portT x = 58 :: aft 58 (portT x)) := by
  rcases h with rfl | ⟨h0, h1, h2⟩
  · exact ⟨rfl, (by intro b hb; cases hb), .inl ⟨rfl, rfl⟩⟩
  · have e : portT x = 58 :: Lib.itoa x := by unfold portT; rw [if_pos h0]
    obtain ⟨d1, d2, d3, d4⟩ := itoa_digits x h0 h1
    rw [e, aft_hit]
    refine ⟨?_, ?_, .inr rfl⟩
    · unfold portOf
      have : (Lib.itoa x).isEmpty = false := by cases hd : Lib.itoa x with
        | nil => exact absurd hd d4
        | cons a r => rfl
      rw [this, d1, d2]
      simp [h2]
    · intro b hb
      unfold allB at d3
      rw [List.all_eq_true] at d3
      exact digit_host (d3 b hb)

/-- What a URL of the net is read from, behind its scheme and the colon. -/
def afterC (u : URL) : List UInt8 := [47, 47] ++ (textL u.host ++ portT u.port ++ u.path ++ queryT u)
theorem utext_net {u : URL} (h : netB u.scheme = true) : utextL u = u.scheme ++ 58 :: afterC u := by
  unfold utextL afterC
  rw [h]
  simp
theorem web_text {u : URL} (g : Good u) : web u.scheme (afterC u) = .ok u := by
  obtain ⟨hp1, hp2, hp3⟩ := portOf_own u.scheme u.port g.port
  obtain ⟨p, hp⟩ := g.path
  -- the bytes that are not there
  have hh : ∀ c : UInt8, (c = 63 ∨ c = 47 ∨ c = 64 ∨ c = 58) → No c (textL u.host) := fun c hc b hb => by
    have := host_plain (g.hch b hb)
    rcases hc with rfl | rfl | rfl | rfl
    · exact this.2.1
    · exact this.2.2.1
    · exact this.2.2.2.1
    · exact this.2.2.2.2
  have hpt : ∀ c : UInt8, (c = 63 ∨ c = 47 ∨ c = 64) → No c (portT u.port) := fun c hc b hb => by
    rcases hp3 with ⟨h, _⟩ | h
    · rw [h] at hb; cases hb
    · rw [h] at hb
      rcases List.mem_cons.1 hb with rfl | hb
      · rcases hc with rfl | rfl | rfl <;> decide
      · have := host_plain (hp2 b hb)
        rcases hc with rfl | rfl | rfl
        · exact this.2.1
        · exact this.2.2.1
        · exact this.2.2.2.1
  have hpa : No 63 u.path := fun b hb => (g.pch b hb).2
  have e1 : begB [47, 47] (afterC u) = true := rfl
  have e2 : (afterC u).drop 2 = textL u.host ++ portT u.port ++ u.path ++ queryT u := rfl
  have hq : No 63 (textL u.host ++ portT u.port ++ u.path) := no_app (no_app (hh 63 (by simp)) (hpt 63 (by simp))) hpa
  have e3 : bef 63 (textL u.host ++ portT u.port ++ u.path ++ queryT u) = textL u.host ++ portT u.port ++ u.path := by
    rw [bef_app hq]
    unfold queryT
    cases u.hasq with
    | true => rw [if_pos rfl, bef_hit, List.append_nil]
    | false => simp [bef]
  have e4 : aft 63 (textL u.host ++ portT u.port ++ u.path ++ queryT u) = u.query := by
    rw [aft_app hq]
    unfold queryT
    cases hx : u.hasq with
    | true => rw [if_pos rfl, aft_hit]
    | false => rw [g.noq hx]; rfl
  have e5 : hasB 63 (textL u.host ++ portT u.port ++ u.path ++ queryT u) = u.hasq := by
    rw [has_app, no_has hq]
    unfold queryT
    cases u.hasq with
    | true => rw [if_pos rfl, has_hit]; rfl
    | false => rfl
  have hs47 : No 47 (textL u.host ++ portT u.port) := no_app (hh 47 (by simp)) (hpt 47 (by simp))
  have hpd : u.path = 47 :: u.path.drop 1 := by rw [hp]; rfl
  have e6 : bef 47 (textL u.host ++ portT u.port ++ u.path) = textL u.host ++ portT u.port := by rw [bef_app hs47, hpd, bef_hit, List.append_nil]
  have e7 : aft 47 (textL u.host ++ portT u.port ++ u.path) = u.path.drop 1 := by
    rw [aft_app hs47]
    conv => lhs; rw [hpd]
    rw [aft_hit]
  have e8 : hasB 64 (textL u.host ++ portT u.port) = false := no_has (no_app (hh 64 (by simp)) (hpt 64 (by simp)))
  have h58 := hh 58 (by simp)
  have e9 : bef 58 (textL u.host ++ portT u.port) = textL u.host := by
    rw [bef_app h58]
    rcases hp3 with ⟨h, _⟩ | h
    · rw [h]; simp [bef]
    · rw [h, bef_hit, List.append_nil]
  have e10 : aft 58 (textL u.host ++ portT u.port) = aft 58 (portT u.port) := aft_app h58 _
  have e11 : pathOf (u.path.drop 1) = u.path := by rw [hp]; exact path_again p
  unfold web
  rw [e1, if_pos rfl, e2, e3, e4, e5, e6, e7, e8, if_neg (by simp), e9, e10, g.host]
  simp only
  rw [hp1]
  simp only
  rw [e11]
  have hr := g.rest
  cases u
  simp only at hr
  rw [hr]
theorem after_plain {u : URL} (g : Good u) : ∀ b ∈ afterC u, plainC b := by
  obtain ⟨_, hp2, hp3⟩ := portOf_own u.scheme u.port g.port
  intro b hb
  unfold afterC at hb
  have k47 : plainC 47 := by unfold plainC; decide
  have k58 : plainC 58 := by unfold plainC; decide
  have k63 : plainC 63 := by unfold plainC; decide
  rcases List.mem_append.1 hb with hb | hb
  · have : b = 47 := by simpa using hb
    rw [this]; exact k47
  · rcases List.mem_append.1 hb with hb | hb
    · rcases List.mem_append.1 hb with hb | hb
      · rcases List.mem_append.1 hb with hb | hb
        · exact (host_plain (g.hch b hb)).1
        · rcases hp3 with ⟨h, _⟩ | h
          · rw [h] at hb; cases hb
          · rw [h] at hb
            rcases List.mem_cons.1 hb with rfl | hb
            · exact k58
            · exact (host_plain (hp2 b hb)).1
      · exact (g.pch b hb).1
    · unfold queryT at hb
      split at hb
      · rcases List.mem_cons.1 hb with rfl | hb
        · exact k63
        · exact g.qch b hb
      · cases hb
theorem vis_all {l : List UInt8} (h : ∀ b ∈ l, plainC b) : visB l = true := by
  unfold visB allB; rw [List.all_eq_true]; exact fun b hb => (h b hb).1
theorem no35 {l : List UInt8} (h : ∀ b ∈ l, plainC b) : No 35 l := fun b hb => (h b hb).2
theorem net_cases {s : List UInt8} (h : netB s = true) : s = sHttp ∨ s = sHttps := by
  unfold netB at h
  rw [Bool.or_eq_true, beq_iff_eq, beq_iff_eq] at h
  exact h
theorem cutS_of {s a : List UInt8} (hs : s = sHttp ∨ s = sHttps ∨ s = sAbout ∨ s = sData ∨ s = sBlob) (hl : (s ++ 58 :: a).length ≤ 2000) : cutS (s ++ 58 :: a) = .ok (s, a) := by
  have hno : No 58 s := by rcases hs with rfl | rfl | rfl | rfl | rfl <;> (unfold No; decide)
  have h1 : bef 58 (s ++ 58 :: a) = s := by rw [bef_app hno, bef_hit, List.append_nil]
  have h2 : aft 58 (s ++ 58 :: a) = a := by rw [aft_app hno, aft_hit]
  have h3 : hasB 58 (s ++ 58 :: a) = true := by rw [has_app, has_hit]; simp
  have h4 : lower s = s := by rcases hs with rfl | rfl | rfl | rfl | rfl <;> decide
  have h5 : schemeB s = true := by rcases hs with rfl | rfl | rfl | rfl | rfl <;> decide
  have h6 : knownB s = true := by rcases hs with rfl | rfl | rfl | rfl | rfl <;> decide
  unfold cutS
  rw [h1, h2, h3, h4, h5, h6, decide_eq_false (by omega)]
  rfl
theorem scheme_plain {s : List UInt8} (hs : s = sHttp ∨ s = sHttps ∨ s = sAbout ∨ s = sData ∨ s = sBlob) : ∀ b ∈ s, plainC b := by
  rcases hs with rfl | rfl | rfl | rfl | rfl <;> (unfold plainC; decide)
/-- A URL of the net is read from its text as itself. -/
theorem net_text {u : URL} (g : Good u) (hl : (utextL u).length ≤ 2000) : netU (utextL u) = some u ∧ ∀ b ∈ utextL u, plainC b := by
  have e := utext_net g.net
  have hs : u.scheme = sHttp ∨ u.scheme = sHttps ∨ u.scheme = sAbout ∨ u.scheme = sData ∨ u.scheme = sBlob := by
    rcases net_cases g.net with h | h
    · exact .inl h
    · exact .inr (.inl h)
  have hpl : ∀ b ∈ utextL u, plainC b := by
    intro b hb
    rw [e] at hb
    rcases List.mem_append.1 hb with hb | hb
    · exact scheme_plain hs b hb
    · rcases List.mem_cons.1 hb with rfl | hb
      · unfold plainC; decide
      · exact after_plain g b hb
  refine ⟨?_, hpl⟩
  have ha := after_plain g
  unfold netU
  rw [trimU_vis (fun b hb => plain_out (hpl b hb))]
  rw [e] at hl ⊢
  rw [cutS_of hs hl]
  simp only
  rw [bef_no (no35 ha), vis_all ha, g.net, web_text g]
  rfl
theorem parse_text {u : URL} (g : Good u) (hl : (utextL u).length ≤ 2000) : parse (utextL u) = .ok u := by
  have h := (net_text g hl).1
  rw [netU_parse] at h
  cases hp : parse (utextL u) with
  | error e => rw [hp] at h; cases h
  | ok y =>
    rw [hp] at h
    simp only at h
    split at h
    · simp only [Option.some.injEq] at h; rw [h]
    · cases h
/-- A blob of a URL of the net. -/
theorem parse_blob {t : List UInt8} {u : URL} (hu : netU t = some u) (ht : ∀ b ∈ t, plainC b) (hl : t.length ≤ 1995) : parse (sBlob ++ 58 :: t) = .ok ⟨sBlob, Hst.none_, -1, [], false, [], t⟩ := by
  have hs : sBlob = sHttp ∨ sBlob = sHttps ∨ sBlob = sAbout ∨ sBlob = sData ∨ sBlob = sBlob := .inr (.inr (.inr (.inr rfl)))
  have hpl : ∀ b ∈ sBlob ++ 58 :: t, plainC b := by
    intro b hb
    rcases List.mem_append.1 hb with hb | hb
    · exact scheme_plain hs b hb
    · rcases List.mem_cons.1 hb with rfl | hb
      · unfold plainC; decide
      · exact ht b hb
  have hc := cutS_of hs (a := t) (by simp [sBlob]; omega)
  unfold parse
  rw [trimU_vis (fun b hb => plain_out (hpl b hb)), hc]
  simp only
  have hn : netB sBlob = false := by decide
  have hr : restB sBlob t = true := by
    unfold restB
    rw [if_neg (by decide), if_pos rfl, hu]; rfl
  rw [bef_no (no35 ht), vis_all ht, hn, hr]
  rfl
end Urp
end Go.Proofs.YtinjkpbpkedfnaaGreatDoor

/- Laws of URLs that are read: their parts are good, their text is not much longer. No function of the program is walked here. -/

namespace Go.Proofs.YtinjkpbpkedfnaaGreatDoor
namespace Urp
open Oct

theorem vis_plain {l : List UInt8} (h : visB l = true) (hn : No 35 l) : ∀ b ∈ l, plainC b := by
  unfold visB allB at h
  rw [List.all_eq_true] at h
  exact fun b hb => ⟨h b hb, hn b hb⟩
theorem web_good {s rest : List UInt8} {u : URL} (h : web s rest = .ok u) (hn : netB s = true) (hv : ∀ b ∈ rest, plainC b) : Good u ∧ (afterC u).length ≤ rest.length + 1 := by
  unfold web at h
  split at h
  · rename_i hbeg
    split at h
    · cases h
    · split at h
      · cases h
      · rename_i hh hhost
        split at h
        · cases h
        · rename_i pn hport
          obtain ⟨r, hr⟩ : ∃ r, rest.drop 2 = r := ⟨_, rfl⟩
          have hrest : rest.length = r.length + 2 := by
            have := (List.isPrefixOf_iff_prefix.1 hbeg).length_le
            rw [← hr, List.length_drop]; simp at this; omega
          have hrv : ∀ b ∈ r, plainC b := fun b hb => hv b (by rw [← hr] at hb; exact List.mem_of_mem_drop hb)
          rw [hr] at h hhost hport
          obtain ⟨q, hq⟩ : ∃ q, bef 63 r = q := ⟨_, rfl⟩
          have hqv : ∀ b ∈ q, plainC b ∧ b ≠ 63 := fun b hb => by
            rw [← hq] at hb
            exact ⟨hrv b (bef_sub 63 r b hb), no_bef 63 r b hb⟩
          rw [hq] at h hhost hport
          obtain ⟨au, hau⟩ : ∃ au, bef 47 q = au := ⟨_, rfl⟩
          rw [hau] at hhost hport
          have hrd : Hst.read (lower (bef 58 au)) = some hh := hhost
          have ht : textL hh = lower (bef 58 au) := text_read hrd
          cases h
          have hpb := port_bd hport
          have hpath : ∀ b ∈ pathOf (aft 47 q), plainC b ∧ b ≠ 63 := by
            intro b hb
            rcases path_sub (aft 47 q) b hb with h1 | h1
            · rw [h1]; unfold plainC; decide
            · exact hqv b (aft_sub 47 q b h1)
          refine ⟨⟨hn, ?_, ?_, ?_, ⟨_, rfl⟩, hpath, ?_, ?_, rfl⟩, ?_⟩
          · show Hst.parse (textL hh) = some hh
            rw [ht, parse_lower]; exact hhost
          · intro b hb
            have hb' : b ∈ lower (bef 58 au) := by rw [← ht]; exact hb
            exact read_chars hrd b hb'
          · rcases hpb with h1 | ⟨h1, h2, h3, _⟩
            · exact .inl h1
            · exact .inr ⟨h1, h2, h3⟩
          · exact fun b hb => hrv b (aft_sub 63 r b hb)
          · intro hx
            exact aft_no (has_no hx)
          · -- how long it is
            have l1 : (textL hh).length + (portT pn).length ≤ au.length := by
              rw [ht, lower_length]
              rcases hpb with h1 | ⟨h1, _, _, h4⟩
              · have : portT pn = [] := by rw [h1]; rfl
                rw [this]
                have := bef_len 58 au
                simpa using this
              · have hpt : portT pn = 58 :: aft 58 au := by unfold portT; rw [if_pos h1, h4]
                have hc : hasB 58 au = true := by
                  cases hc : hasB 58 au with
                  | true => rfl
                  | false =>
                    rw [aft_no (has_no hc)] at h4
                    have hd := (dec_good pn.toNat).2.2.2.1
                    have e : Lib.itoa pn = Lib.decDigits pn.toNat := by unfold Lib.itoa; rw [if_neg (by omega)]
                    rw [← e, ← h4] at hd; simp at hd
                have e := congrArg List.length (cut_join hc)
                rw [List.length_append, List.length_cons] at e
                rw [hpt, List.length_cons]; omega
            have l2 : au.length + (pathOf (aft 47 q)).length ≤ q.length + 1 := by
              have hj := join_path_len (aft 47 q)
              have hp : (pathOf (aft 47 q)).length = (join 47 (walk [] (segs (aft 47 q)))).length + 1 := by unfold pathOf; simp
              cases hc : hasB 47 q with
              | true =>
                have e := congrArg List.length (cut_join hc)
                rw [List.length_append, List.length_cons, hau] at e
                omega
              | false =>
                have e1 : aft 47 q = [] := aft_no (has_no hc)
                have e2 : au = q := by rw [← hau]; exact bef_no (has_no hc)
                rw [e1] at hj hp ⊢
                rw [e2]
                simp at hj
                rw [hp, hj]; simp
            have l3 : q.length + (queryT ⟨s, hh, pn, pathOf (aft 47 q), hasB 63 r, aft 63 r, []⟩).length ≤ r.length := by
              unfold queryT
              cases hc : hasB 63 r with
              | true =>
                have e := congrArg List.length (cut_join hc)
                rw [List.length_append, List.length_cons, hq] at e
                simp; omega
              | false =>
                have := bef_len 63 r
                rw [hq] at this
                simp; exact this
            unfold afterC
            simp only [List.length_append, List.length_cons, List.length_nil]
            omega
  · cases h
theorem parse_ok {l : List UInt8} {u : URL} (h : parse l = .ok u) : ∃ s a, cutS (trimU l) = .ok (s, a) ∧ visB (bef 35 a) = true ∧ u.scheme = s ∧ (netB s = true ∧ web s (bef 35 a) = .ok u ∨ netB s = false ∧ u = ⟨s, Hst.none_, -1, [], false, [], bef 35 a⟩) := by
  unfold parse at h
  cases hc : cutS (trimU l) with
  | error e => rw [hc] at h; cases h
  | ok x =>
    obtain ⟨s, a⟩ := x
    rw [hc] at h
    simp only at h
    cases hv : visB (bef 35 a) with
    | false => rw [hv] at h; cases h
    | true =>
      rw [hv, if_pos rfl] at h
      cases hn : netB s with
      | true =>
        rw [hn, if_pos rfl] at h
        exact ⟨s, a, rfl, hv, web_scheme h, .inl ⟨hn, h⟩⟩
      | false =>
        rw [hn, if_neg (by simp)] at h
        split at h
        · cases h
          exact ⟨s, a, rfl, hv, rfl, .inr ⟨hn, rfl⟩⟩
        · cases h
theorem parse_good {l : List UInt8} {u : URL} (h : parse l = .ok u) (hn : netB u.scheme = true) : Good u ∧ (utextL u).length ≤ l.length + 1 := by
  obtain ⟨s, a, hc, hv, hs, ⟨hns, hw⟩ | ⟨hns, _⟩⟩ := parse_ok h
  · obtain ⟨g, hlen⟩ := web_good hw hns (vis_plain hv (no_bef 35 a))
    refine ⟨g, ?_⟩
    obtain ⟨_, hcol, _, _, h5, h6⟩ := cutS_ok hc
    have e := congrArg List.length (cut_join hcol)
    rw [List.length_append, List.length_cons] at e
    have e1 : s.length = (bef 58 (trimU l)).length := by rw [h5, lower_length]
    have e2 := bef_len 35 a
    have e3 := trimU_len l
    rw [utext_net g.net, List.length_append, List.length_cons, hs]
    rw [← h6] at e
    omega
  · rw [hs, hns] at hn; cases hn
theorem parse_other {l : List UInt8} {u : URL} (h : parse l = .ok u) (hn : netB u.scheme = false) : u.path = [] ∧ u.hasq = false ∧ u.port = -1 := by
  obtain ⟨s, a, _, _, hs, ⟨hns, _⟩ | ⟨_, rfl⟩⟩ := parse_ok h
  · rw [hs, hns] at hn; cases hn
  · exact ⟨rfl, rfl, rfl⟩
theorem small_good {u : URL} (g : Good u) (hl : (utextL u).length ≤ 3900) (ha : 0 ≤ u.host.addr ∧ u.host.addr ≤ 4294967295) (hn : u.host.name.length ≤ 4000) : SmallU u := by
  have e := congrArg List.length (utext_net g.net)
  rw [List.length_append, List.length_cons] at e
  unfold afterC at e
  simp only [List.length_append, List.length_cons, List.length_nil] at e
  have hq : u.query.length ≤ 4000 := by
    cases hx : u.hasq with
    | true =>
      have : (queryT u).length = u.query.length + 1 := by unfold queryT; rw [hx, if_pos rfl]; simp
      omega
    | false => rw [g.noq hx]; simp
  have hp : -1 ≤ u.port ∧ u.port ≤ 65535 := by rcases g.port with h | h <;> omega
  exact ⟨by omega, hn, ha.1, ha.2, by omega, by omega, by omega, hq, by rw [g.rest]; simp⟩
theorem host_small {n : List UInt8} {h : Hst.Host} (hp : Hst.parse n = some h) : 0 ≤ h.addr ∧ h.addr ≤ 4294967295 ∧ h.name.length ≤ 4000 := by
  have hr : Hst.read (lower n) = some h := hp
  have h1 := read_range hr
  refine ⟨h1.1, h1.2, ?_⟩
  have hd := (dom_len (read_dom hr)).1
  cases hv : h.v4 with
  | false => rw [read_name_eq hr hv]; show (lower n).length ≤ 4000; omega
  | true =>
    have : h.name = [] := by
      unfold Hst.read at hr
      split at hr
      · split at hr
        · split at hr
          · simp only [Option.some.injEq] at hr; rw [← hr]
          · cases hr
        · simp only [Option.some.injEq] at hr; rw [← hr] at hv; cases hv
      · cases hr
    rw [this]; simp
theorem good_small {u : URL} (g : Good u) (hl : (utextL u).length ≤ 3900) : SmallU u := by
  have h := host_small g.host
  exact small_good g hl ⟨h.1, h.2.1⟩ h.2.2
end Urp
end Go.Proofs.YtinjkpbpkedfnaaGreatDoor

/- Laws of URLs: what stands at the ends, behind a sharp, and of schemes' own ports. No function of the program is walked here. -/

namespace Go.Proofs.YtinjkpbpkedfnaaGreatDoor
namespace Urp
open Oct

theorem parse_trim {l m : List UInt8} (h : trimU l = trimU m) : parse l = parse m := by unfold parse; rw [h]
theorem parse_ends (a l z : List UInt8) (ha : ∀ b ∈ a, outerB b = true) (hz : ∀ b ∈ z, outerB b = true) : parse (a ++ l ++ z) = parse l := by
  refine parse_trim ?_
  rw [trimU_right hz, trimU_left ha]
theorem endU_len (m : List UInt8) : (endU m).length ≤ m.length := (endU_pre m).length_le
/-- All from a sharp on changes nothing. -/
theorem parse_hash (l m : List UInt8) (hl : ∀ b ∈ l, outerB b = false ∧ b ≠ 35) (hc : hasB 58 l = true) (h1 : l.length ≤ 1000) (h2 : m.length ≤ 900) : parse (l ++ [35] ++ m) = parse l := by
  have e1 : trimU (l ++ [35] ++ m) = l ++ 35 :: endU m := by
    rw [trimU_mid m (by simp) (by
      intro b hb
      rcases List.mem_append.1 hb with hb | hb
      · exact (hl b hb).1
      · have : b = 35 := by simpa using hb
        rw [this]; decide)]
    simp
  have e2 : trimU l = l := trimU_vis (fun b hb => (hl b hb).1)
  obtain ⟨c1, c2⟩ := bef_app_has hc (35 :: endU m)
  have c3 : hasB 58 (l ++ 35 :: endU m) = true := by rw [has_app, hc]; rfl
  have c4 : decide (2000 < (l ++ 35 :: endU m).length) = false := by
    have := endU_len m
    exact decide_eq_false (by simp; omega)
  have c5 : decide (2000 < l.length) = false := decide_eq_false (by omega)
  have hna : No 35 (aft 58 l) := fun b hb => (hl b (aft_sub 58 l b hb)).2
  have c6 : bef 35 (aft 58 l ++ 35 :: endU m) = bef 35 (aft 58 l) := by rw [bef_app hna, bef_hit, List.append_nil, bef_no hna]
  unfold parse
  rw [e1, e2]
  unfold cutS
  rw [c1, c2, c3, c4, c5, hc]
  cases schemeB (lower (bef 58 l)) with
  | false => rfl
  | true =>
    cases knownB (lower (bef 58 l)) with
    | false => rfl
    | true =>
      simp only [Bool.not_true, Bool.or_false, Bool.false_eq_true, if_false, if_true]
      rw [c6]
theorem split_two {l : List UInt8} (h : hasB 58 l = true) : 1 < (split (fun x => x == 58) l).length := by
  have e := cut_join h
  have e2 : l = bef 58 l ++ [58] ++ aft 58 l := by simpa using e
  rw [e2, split_glue (fun x => x == 58) _ _ 58 (by rfl), List.length_append]
  have h1 := split_pos (fun x => x == 58) (bef 58 l)
  have h2 := split_pos (fun x => x == 58) (aft 58 l)
  omega
theorem split_none1 {l : List UInt8} (h : hasB 58 l = false) : (split (fun x => x == 58) l).length = 1 := by
  rw [Hst.split_one _ l ?_]
  · rfl
  · intro b hb
    have := has_no h b hb
    rw [beq_eq_false_iff_ne]
    intro hc
    exact this (UInt8.toNat_inj.1 (by have e : b.toNat = 58 := by omega
                                      rw [e]; rfl))
theorem parse_nocolon {l : List UInt8} (hl : ∀ b ∈ l, outerB b = false) (h : hasB 58 l = false) : parse l = .error 30 := by
  unfold parse
  rw [trimU_vis hl]
  unfold cutS
  rw [h]; simp

/-! ### schemes and their own ports -/
/-- A path, or a query, or nothing, behind an authority. -/
def Tail (p : List UInt8) : Prop := p = [] ∨ (∃ r, p = 47 :: r) ∨ ∃ r, p = 63 :: r
theorem tail_end {p : List UInt8} (h : Tail p) : Tail (endU p) := by
  have key : ∀ (c : UInt8) (r : List UInt8), outerB c = false → ∃ r', endU (c :: r) = c :: r' := by
    intro c r hc
    unfold endU
    rw [List.reverse_cons]
    by_cases hx : ∃ y ∈ r.reverse, outerB y = false
    · rw [dw_app_ne _ _ hx, List.reverse_append]
      exact ⟨_, rfl⟩
    · have hall : ∀ y ∈ r.reverse, outerB y = true := fun y hy => by
        cases he : outerB y with
        | true => rfl
        | false => exact absurd ⟨y, hy, he⟩ hx
      rw [List.dropWhile_append_of_pos hall, List.dropWhile_cons_of_neg (by rw [hc]; simp)]
      exact ⟨[], rfl⟩
  rcases h with rfl | ⟨r, rfl⟩ | ⟨r, rfl⟩
  · exact .inl rfl
  · obtain ⟨r', h⟩ := key 47 r (by decide)
    exact .inr (.inl ⟨r', h⟩)
  · obtain ⟨r', h⟩ := key 63 r (by decide)
    exact .inr (.inr ⟨r', h⟩)
theorem tail_bef {p : List UInt8} (h : Tail p) : Tail (bef 35 p) := by
  have e : ∀ (c : UInt8) r, c ≠ 35 → bef 35 (c :: r) = c :: bef 35 r := fun c r hc => by simp [bef, hc]
  rcases h with rfl | ⟨r, rfl⟩ | ⟨r, rfl⟩
  · exact .inl rfl
  · exact .inr (.inl ⟨_, e 47 r (by decide)⟩)
  · exact .inr (.inr ⟨_, e 63 r (by decide)⟩)
/-- What web makes of an authority and what stands behind. -/
theorem web_tail (s au p : List UInt8) (h47 : No 47 au) (h63 : No 63 au) (hp : Tail p) :
    web s ([47, 47] ++ (au ++ p)) = if hasB 64 au then .error 30 else match Hst.parse (bef 58 au) with
      | none => .error 20
      | some h => match portOf s (aft 58 au) with
        | none => .error 32
        | some x => .ok ⟨s, h, x, pathOf (aft 47 (bef 63 p)), hasB 63 p, aft 63 p, []⟩ := by
  have e1 : begB [47, 47] ([47, 47] ++ (au ++ p)) = true := rfl
  have e2 : ([47, 47] ++ (au ++ p)).drop 2 = au ++ p := rfl
  have e3 : bef 63 (au ++ p) = au ++ bef 63 p := bef_app h63 p
  have e4 : bef 47 (au ++ bef 63 p) = au := by
    rw [bef_app h47]
    rcases hp with rfl | ⟨r, rfl⟩ | ⟨r, rfl⟩
    · simp [bef]
    · have : bef 63 (47 :: r) = 47 :: bef 63 r := by simp [bef]
      rw [this, bef_hit, List.append_nil]
    · rw [bef_hit]; simp [bef]
  have e5 : aft 47 (au ++ bef 63 p) = aft 47 (bef 63 p) := aft_app h47 _
  have e6 : hasB 63 (au ++ p) = hasB 63 p := by rw [has_app, no_has h63]; rfl
  have e7 : aft 63 (au ++ p) = aft 63 p := aft_app h63 p
  unfold web
  (rw [e1, if_pos rfl, e2, e3, e4, e5, e6, e7]) <;> rfl
theorem vis_app (a b : List UInt8) : visB (a ++ b) = (visB a && visB b) := by unfold visB allB; rw [List.all_append]
/-- A text that begins with a scheme of the net, great letters let in, an authority, and what stands behind. -/
theorem parse_url (S s au p : List UInt8) (hS : ∀ b ∈ S, outerB b = false ∧ b ≠ 58) (hlow : lower S = s) (hs : s = sHttp ∨ s = sHttps) (ha : ∀ b ∈ au, outerB b = false ∧ b ≠ 35 ∧ b ≠ 47 ∧ b ≠ 63) (hl : (S ++ [58, 47, 47] ++ au ++ p).length ≤ 2000) :
    parse (S ++ [58, 47, 47] ++ au ++ p) = if visB au && visB (bef 35 (endU p)) then web s ([47, 47] ++ (au ++ bef 35 (endU p))) else .error 30 := by
  have hn : netB s = true := by rcases hs with rfl | rfl <;> decide
  have hsc : schemeB s = true := by rcases hs with rfl | rfl <;> decide
  have hk : knownB s = true := by rcases hs with rfl | rfl <;> decide
  have e1 : trimU (S ++ [58, 47, 47] ++ au ++ p) = S ++ 58 :: ([47, 47] ++ (au ++ endU p)) := by
    rw [trimU_mid p (by simp) (by
      intro b hb
      rcases List.mem_append.1 hb with hb | hb
      · rcases List.mem_append.1 hb with hb | hb
        · exact (hS b hb).1
        · have : b = 58 ∨ b = 47 := by simpa using hb
          rcases this with rfl | rfl <;> decide
      · exact (ha b hb).1)]
    simp
  have hno : No 58 S := fun b hb => (hS b hb).2
  have e2 : bef 58 (S ++ 58 :: ([47, 47] ++ (au ++ endU p))) = S := by rw [bef_app hno, bef_hit, List.append_nil]
  have e3 : aft 58 (S ++ 58 :: ([47, 47] ++ (au ++ endU p))) = [47, 47] ++ (au ++ endU p) := by rw [aft_app hno, aft_hit]
  have e4 : hasB 58 (S ++ 58 :: ([47, 47] ++ (au ++ endU p))) = true := by rw [has_app, has_hit]; simp
  have e5 : decide (2000 < (S ++ 58 :: ([47, 47] ++ (au ++ endU p))).length) = false := by
    have := endU_len p
    refine decide_eq_false ?_
    simp only [List.length_append, List.length_cons, List.length_nil] at hl ⊢
    omega
  have h35 : No 35 ([47, 47] ++ au) := no_app (by unfold No; decide) (fun b hb => (ha b hb).2.1)
  have e6 : bef 35 ([47, 47] ++ (au ++ endU p)) = [47, 47] ++ (au ++ bef 35 (endU p)) := by
    rw [← List.append_assoc, bef_app h35, List.append_assoc]
  have e7 : visB ([47, 47] ++ (au ++ bef 35 (endU p))) = (visB au && visB (bef 35 (endU p))) := by
    rw [vis_app, vis_app]
    have : visB [47, 47] = true := by decide
    rw [this]; rfl
  unfold parse
  rw [e1]
  unfold cutS
  rw [e2, e3, e4, e5, hlow, hsc, hk]
  simp only [Bool.not_true, Bool.or_false, Bool.false_eq_true, if_false, if_true]
  rw [e6, e7, hn]
  rfl
def p443 : List UInt8 := [58, 52, 52, 51]
def sHTTPS : List UInt8 := [72, 84, 84, 80, 83]
/-- Great letters, and the own port, change nothing. -/
theorem schemes (n p : List UInt8) (hn : ∀ b ∈ n, outerB b = false ∧ b ≠ 35 ∧ b ≠ 47 ∧ b ≠ 63 ∧ b ≠ 58) (hp : Tail p) (h1 : n.length ≤ 900) (h2 : p.length ≤ 900) :
    (∃ e, (e != 0) = true ∧ parse (sHttps ++ [58, 47, 47] ++ n ++ p) = .error e ∧ parse (sHTTPS ++ [58, 47, 47] ++ (n ++ p443) ++ p) = .error e ∧ parse (sHttp ++ [58, 47, 47] ++ (n ++ p443) ++ p) = .error e) ∨
    (∃ u c, parse (sHttps ++ [58, 47, 47] ++ n ++ p) = .ok u ∧ parse (sHTTPS ++ [58, 47, 47] ++ (n ++ p443) ++ p) = .ok u ∧ parse (sHttp ++ [58, 47, 47] ++ (n ++ p443) ++ p) = .ok c ∧ c.port = 443 ∧ c.path = u.path) := by
  have hn1 : ∀ b ∈ n, outerB b = false ∧ b ≠ 35 ∧ b ≠ 47 ∧ b ≠ 63 := fun b hb => ⟨(hn b hb).1, (hn b hb).2.1, (hn b hb).2.2.1, (hn b hb).2.2.2.1⟩
  have hn2 : ∀ b ∈ n ++ p443, outerB b = false ∧ b ≠ 35 ∧ b ≠ 47 ∧ b ≠ 63 := by
    intro b hb
    rcases List.mem_append.1 hb with hb | hb
    · exact hn1 b hb
    · have key : ∀ b ∈ p443, outerB b = false ∧ b ≠ 35 ∧ b ≠ 47 ∧ b ≠ 63 := by decide
      exact key b hb
  have l4 : p443.length = 4 := rfl
  have l5 : sHttps.length = 5 := rfl
  have l6 : sHTTPS.length = 5 := rfl
  have l7 : sHttp.length = 4 := rfl
  rw [parse_url sHttps sHttps n p (by decide) (by decide) (.inr rfl) hn1 (by simp only [List.length_append, List.length_cons, List.length_nil, l5]; omega),
    parse_url sHTTPS sHttps (n ++ p443) p (by decide) (by decide) (.inr rfl) hn2 (by simp only [List.length_append, List.length_cons, List.length_nil, l6, l4]; omega),
    parse_url sHttp sHttp (n ++ p443) p (by decide) (by decide) (.inl rfl) hn2 (by simp only [List.length_append, List.length_cons, List.length_nil, l7, l4]; omega)]
  have hv : visB (n ++ p443) = visB n := by
    rw [vis_app]
    have : visB p443 = true := by decide
    rw [this, Bool.and_true]
  rw [hv]
  have hp' : Tail (bef 35 (endU p)) := tail_bef (tail_end hp)
  obtain ⟨p', hpp⟩ : ∃ p', bef 35 (endU p) = p' := ⟨_, rfl⟩
  rw [hpp] at hp' ⊢
  cases hc : (visB n && visB p') with
  | false => exact .inl ⟨30, by decide, rfl, rfl, rfl⟩
  | true =>
    simp only [if_true]
    have m47 : No 47 n := fun b hb => (hn b hb).2.2.1
    have m63 : No 63 n := fun b hb => (hn b hb).2.2.2.1
    have m58 : No 58 n := fun b hb => (hn b hb).2.2.2.2
    have q47 : No 47 (n ++ p443) := no_app m47 (by unfold No; decide)
    have q63 : No 63 (n ++ p443) := no_app m63 (by unfold No; decide)
    rw [web_tail sHttps n p' m47 m63 hp', web_tail sHttps (n ++ p443) p' q47 q63 hp', web_tail sHttp (n ++ p443) p' q47 q63 hp']
    have a1 : hasB 64 (n ++ p443) = hasB 64 n := by
      rw [has_app]
      have : hasB 64 p443 = false := by decide
      rw [this, Bool.or_false]
    have a2 : bef 58 n = n := bef_no m58
    have a3 : aft 58 n = [] := aft_no m58
    have a4 : bef 58 (n ++ p443) = n := by
      have : p443 = 58 :: [52, 52, 51] := rfl
      rw [this, bef_app m58, bef_hit, List.append_nil]
    have a5 : aft 58 (n ++ p443) = [52, 52, 51] := by
      have : p443 = 58 :: [52, 52, 51] := rfl
      rw [this, aft_app m58, aft_hit]
    rw [a1, a2, a3, a4, a5]
    have b1 : portOf sHttps [] = some (-1) := rfl
    have b2 : portOf sHttps [52, 52, 51] = some (-1) := by decide
    have b3 : portOf sHttp [52, 52, 51] = some 443 := by decide
    cases hasB 64 n with
    | true => exact .inl ⟨30, by decide, rfl, rfl, rfl⟩
    | false =>
      simp only [Bool.false_eq_true, if_false]
      cases Hst.parse n with
      | none => exact .inl ⟨20, by decide, rfl, rfl, rfl⟩
      | some h =>
        simp only [b1, b2, b3]
        exact .inr ⟨_, _, rfl, rfl, rfl, rfl, rfl⟩
end Urp
end Go.Proofs.YtinjkpbpkedfnaaGreatDoor
