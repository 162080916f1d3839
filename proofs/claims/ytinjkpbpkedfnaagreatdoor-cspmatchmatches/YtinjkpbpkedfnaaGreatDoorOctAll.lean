/- Our texts of one layer, joined: plain functions and their laws, and the contracts of the functions of that layer. -/
import Derived.WalkKit
import Derived.Lib.Bytealg
import Derived.Lib.Strings
import Derived.Laws.IdiomStrings
import Derived.Below
import Derived.Test.YtinjkpbpkedfnaaGreatDoorProg
import Derived.Lib.Hide
import Derived.BigQuiet
import Derived.Deep.QuietTactic

/- Plain functions on bytes and lists of bytes (what package octet says), and their laws; no program is named here. -/

namespace Go.Proofs.YtinjkpbpkedfnaaGreatDoor
namespace Oct

def blankI (c : Int) : Bool := c == 9 || c == 10 || c == 12 || c == 13 || c == 32
def digitI (c : Int) : Bool := decide (48 ≤ c) && decide (c ≤ 57)
def letterI (c : Int) : Bool := (decide (97 ≤ c) && decide (c ≤ 122)) || (decide (65 ≤ c) && decide (c ≤ 90))
/-- Is a byte among others? -/
def inI (c : Int) (l : List UInt8) : Bool := l.any fun b => (b.toNat : Int) == c
def marks14 : List UInt8 := [33, 35, 36, 37, 38, 39, 42, 43, 45, 46, 94, 95, 124, 126]
def marks15 : List UInt8 := [33, 35, 36, 37, 38, 39, 42, 43, 45, 46, 94, 95, 124, 126, 96]
def tcharI (c : Int) : Bool := letterI c || digitI c || (inI c marks14 || c == 96)

theorem inI_nil (c : Int) : inI c [] = false := rfl
theorem inI_snoc (c : Int) (l : List UInt8) (b : UInt8) : inI c (l ++ [b]) = (inI c l || (b.toNat : Int) == c) := by simp [inI, List.any_append]

theorem indexByte_in (l : List UInt8) (c : UInt8) : decide (0 ≤ Lib.indexByte l c) = inI c.toNat l := by
  induction l with
  | nil => rfl
  | cons b l ih =>
    have hg := Lib.indexByte_ge l c
    unfold Lib.indexByte
    have e : ((b.toNat : Int) == (c.toNat : Int)) = (b == c) := by
      rw [Bool.eq_iff_iff]; simp only [beq_iff_eq, Int.natCast_inj, UInt8.toNat_inj]
    have e2 : inI c.toNat (b :: l) = ((b == c) || inI c.toNat l) := by simp [inI, e]
    rw [e2, ← ih]
    by_cases h : (b == c) = true
    · simp [h]
    · simp only [h, Bool.false_or]
      by_cases h1 : Lib.indexByte l c = -1
      · simp [h1]
      · have h2 : 0 ≤ Lib.indexByte l c := by omega
        have h3 : (Lib.indexByte l c == -1) = false := by simpa using h1
        simp [h3, h2]; omega

theorem marks_tok (c : Int) (h0 : 0 ≤ c) (h1 : c ≤ 255) : decide (0 ≤ Lib.indexByte marks15 c.toNat.toUInt8) = (inI c marks14 || c == 96) := by
  rw [indexByte_in]
  have e : ((c.toNat.toUInt8.toNat : Nat) : Int) = c := by simp; omega
  rw [e]
  have : marks15 = marks14 ++ [96] := rfl
  rw [this, inI_snoc]
  congr 1
  show ((96 : Int) == c) = (c == 96)
  rw [Bool.eq_iff_iff]; simp; omega

theorem take_snoc (s : ByteArray) (k : Nat) (h : k < s.size) : s.data.toList.take (k + 1) = s.data.toList.take k ++ [s[k]] := by
  rw [List.take_succ_eq_append_getElem (by simpa using h)]; rfl
theorem take_all (s : ByteArray) (k : Nat) (h : s.size ≤ k) : s.data.toList.take k = s.data.toList := List.take_of_length_le (by simpa using h)
theorem split_at (s : ByteArray) (k : Nat) (h : k < s.size) : s.data.toList = s.data.toList.take k ++ s[k] :: s.data.toList.drop (k + 1) := by
  have h' : k < s.data.toList.length := by simpa using h
  have := List.take_append_drop k s.data.toList
  rw [List.drop_eq_getElem_cons h'] at this
  exact this.symm
theorem ret_bool {a b : Bool} (h : a = b) : Ending.returned (.bool a) = .returned (.bool b) := by rw [h]
theorem ret_int {k : IntKind} {a b : Int} (h : a = b) : Ending.returned (.int k a) = .returned (.int k b) := by rw [h]
theorem ret_str {a b : ByteArray} (h : a = b) : Ending.returned (.string a) = .returned (.string b) := by rw [h]

theorem inI_hit (c : Int) (s : ByteArray) (k : Nat) (h : k < s.size) (hc : ((s[k].toNat : Int) == c) = true) : inI c s.data.toList = true := by
  rw [split_at s k h]; simp only [inI, List.any_append, List.any_cons, hc]; simp
theorem inI_next (c : Int) (s : ByteArray) (k : Nat) (h : k < s.size) (hi : inI c (s.data.toList.take k) = false) (hc : ((s[k].toNat : Int) == c) = false) : inI c (s.data.toList.take (k + 1)) = false := by
  rw [take_snoc s k h, inI_snoc, hi, hc]; rfl

/-- Has a text a byte, and may a token have each of them? -/
def allB (p : Int → Bool) (l : List UInt8) : Bool := l.all fun b => p b.toNat
def tokenB (l : List UInt8) : Bool := allB tcharI l && !l.isEmpty
theorem allB_miss (p : Int → Bool) (s : ByteArray) (k : Nat) (h : k < s.size) (hc : p s[k].toNat = false) : allB p s.data.toList = false := by
  rw [split_at s k h]; simp only [allB, List.all_append, List.all_cons, hc]; simp
theorem allB_next (p : Int → Bool) (s : ByteArray) (k : Nat) (h : k < s.size) (hi : allB p (s.data.toList.take k) = true) (hc : p s[k].toNat = true) : allB p (s.data.toList.take (k + 1)) = true := by
  rw [take_snoc s k h]; simp only [allB, List.all_append, List.all_cons, hc]; simpa [allB] using hi
def trim (l : List UInt8) : List UInt8 := ((l.dropWhile fun b => blankI b.toNat).reverse.dropWhile fun b => blankI b.toNat).reverse
theorem trim_of (l : List UInt8) (k m : Nat) (h1 : k ≤ m) (h2 : m ≤ l.length) (ha : allB blankI (l.take k) = true) (hb : allB blankI (l.drop m) = true)
    (hx : k = m ∨ (∃ h : k < l.length, blankI (l[k]'h).toNat = false) ∧ ∃ h : m - 1 < l.length, blankI (l[m - 1]'h).toNat = false) : trim l = (l.drop k).take (m - k) := by
  have e1 : l = l.take k ++ l.drop k := (List.take_append_drop k l).symm
  have e2 : l.drop k = (l.drop k).take (m - k) ++ l.drop m := by
    have := (List.take_append_drop (m - k) (l.drop k)).symm
    rwa [List.drop_drop, show k + (m - k) = m by omega] at this
  have ha' : ∀ b ∈ l.take k, blankI b.toNat = true := by simpa [allB] using ha
  have hb' : ∀ b ∈ (l.drop m).reverse, blankI b.toNat = true := by simpa [allB] using hb
  unfold trim
  rw [e1, List.dropWhile_append_of_pos ha', ← e1]
  rcases hx with hx | ⟨⟨g1, hx1⟩, ⟨g2, hx2⟩⟩
  · subst hx
    have : l.dropWhile (fun b => blankI b.toNat) = [] := by
      rw [e1, List.dropWhile_append_of_pos ha']
      have := List.dropWhile_append_of_pos (l₁ := l.drop k) (l₂ := []) (p := fun b => blankI b.toNat) (by simpa using hb')
      simpa using this
    have h3 : (l.drop k).dropWhile (fun b => blankI b.toNat) = [] := by
      have := List.dropWhile_append_of_pos (l₁ := l.drop k) (l₂ := []) (p := fun b => blankI b.toNat) (by simpa using hb')
      simpa using this
    rw [h3]; simp
  · have hkm : k < m := by
      rcases Nat.lt_or_ge k m with h | h
      · exact h
      · exfalso
        have hkm : k = m := by omega
        subst hkm
        have := hb' (l[k]) (by simp; exact List.mem_drop_iff_getElem.2 ⟨0, by simpa using g1, by simp⟩)
        rw [this] at hx1; cases hx1
    have e3 : (l.drop k).dropWhile (fun b => blankI b.toNat) = l.drop k := by
      rw [List.drop_eq_getElem_cons g1, List.dropWhile_cons_of_neg (by simp [hx1])]
    have e4 : (l.drop k).take (m - k) = (l.drop k).take (m - k - 1) ++ [l[m - 1]] := by
      have hl : m - k - 1 < (l.drop k).length := by simp; omega
      have := List.take_succ_eq_append_getElem hl
      rw [show m - k - 1 + 1 = m - k by omega] at this
      rw [this]; congr 2; simp; congr 1; omega
    rw [e3]
    generalize (l.drop k).take (m - k - 1) = pre at e4
    generalize (l.drop k).take (m - k) = mid at *
    rw [e2, List.reverse_append, List.dropWhile_append_of_pos hb', e4, List.reverse_append]
    simp only [List.reverse_cons, List.reverse_nil, List.nil_append, List.singleton_append]
    rw [List.dropWhile_cons_of_neg (by simp [hx2])]
    simp
theorem trim_ret (s : ByteArray) (k m : Nat) (h1 : k ≤ m) (h2 : m ≤ s.size) (ha : allB blankI (s.data.toList.take k) = true) (hb : allB blankI (s.data.toList.drop m) = true)
    (hx : k = m ∨ (∃ h : k < s.size, blankI (s[k]'h).toNat = false) ∧ ∃ h : m - 1 < s.size, blankI (s[m - 1]'h).toNat = false) : s.extract k m = ⟨(trim s.data.toList).toArray⟩ := by
  have h := trim_of s.data.toList k m h1 (by simpa using h2) ha hb (by
    rcases hx with hx | ⟨⟨a, b⟩, ⟨c, d⟩⟩
    · exact .inl hx
    · exact .inr ⟨⟨by simpa using a, b⟩, ⟨by simpa using c, d⟩⟩)
  rw [h, ← Lib.extract_data]
theorem allB_end (p : Int → Bool) (s : ByteArray) : allB p (s.data.toList.drop s.size) = true := by
  rw [List.drop_of_length_le (by simp)]; rfl
theorem allB_drop (p : Int → Bool) (s : ByteArray) (m : Nat) (h0 : 0 < m) (h : m - 1 < s.size) (hi : allB p (s.data.toList.drop m) = true) (hc : p (s[m - 1]'h).toNat = true) : allB p (s.data.toList.drop (m - 1)) = true := by
  have h' : m - 1 < s.data.toList.length := by simpa using h
  rw [List.drop_eq_getElem_cons h']
  simp only [allB, List.all_cons, show m - 1 + 1 = m by omega]
  simp only [allB] at hi
  rw [hi, Bool.and_true]
  exact hc
end Oct
end Go.Proofs.YtinjkpbpkedfnaaGreatDoor

/- Bytes in a block of one's own, and text made small in place: laws of worlds and lists; no function of the program is walked here. -/

namespace Go.Proofs.YtinjkpbpkedfnaaGreatDoor
open Go.RowKit
namespace Oct

def low1 (c : UInt8) : UInt8 := if 65 ≤ c.toNat ∧ c.toNat ≤ 90 then c + 32 else c
def lower (l : List UInt8) : List UInt8 := l.map low1
def lowTo (l : List UInt8) (k : Nat) : List UInt8 := (l.take k).map low1 ++ l.drop k
theorem lowTo_length (l : List UInt8) (k : Nat) : (lowTo l k).length = l.length := by simp [lowTo]; omega
theorem lowTo_zero (l : List UInt8) : lowTo l 0 = l := by simp [lowTo]
theorem lowTo_all (l : List UInt8) (k : Nat) (h : l.length ≤ k) : lowTo l k = lower l := by
  simp [lowTo, lower, List.take_of_length_le h, List.drop_of_length_le h]
theorem lowTo_at (l : List UInt8) (k : Nat) (h : k < l.length) : (lowTo l k)[k]'(by rw [lowTo_length]; exact h) = l[k] := by
  simp [lowTo, show min k l.length = k by omega]
theorem lowTo_succ (l : List UInt8) (k : Nat) (h : k < l.length) : lowTo l (k + 1) = (lowTo l k).set k (low1 l[k]) := by
  unfold lowTo
  rw [List.take_succ_eq_append_getElem h, List.map_append, List.append_assoc, List.set_append_right _ _ (by simp; omega)]
  congr 1
  rw [List.drop_eq_getElem_cons h, show k - ((l.take k).map low1).length = 0 by simp; omega]
  rfl
theorem lowTo_same (l : List UInt8) (k : Nat) (h : k < l.length) (hc : low1 l[k] = l[k]) : lowTo l (k + 1) = lowTo l k := by
  rw [lowTo_succ l k h, hc]
  have := lowTo_at l k h
  rw [← this]; simp

/-- The block b holds the bytes l, and they may be written. -/
def BytesAt (w : World) (b : Nat) (l : List UInt8) : Prop := ∀ j (h : j < l.length), w.cell? ⟨b, j, none⟩ = some (.int .u8 (l[j].toNat : Int)) ∧ w.frozen? ⟨b, j, none⟩ = false
theorem BytesAt.set {w : World} {b : Nat} {l : List UInt8} (h : BytesAt w b l) (k : Nat) (hk : k < l.length) (c : UInt8) (v : Int) (hv : v = (c.toNat : Int)) : BytesAt (w.setCell ⟨b, k, none⟩ (.int .u8 v)) b (l.set k c) := by
  intro j hj
  have hj' : j < l.length := by simpa using hj
  have h0 := h j hj'
  have hk0 := h k hk
  subst hv
  by_cases e : k = j
  · subst e
    exact ⟨by rw [World.cell?_setCell_same _ _ _ hk0.1]; simp, by rw [World.frozen?_setCell]; exact h0.2⟩
  · have hne : (⟨b, k, none⟩ : Addr) ≠ ⟨b, j, none⟩ := by intro h; injection h with _ h; exact e h
    exact ⟨by rw [World.cell?_setCell_other _ _ _ _ hne, h0.1]; simp [e], by rw [World.frozen?_setCell]; exact h0.2⟩
theorem BytesAt.new (w : World) (C : Array Value) (t : TypeId) (l : List UInt8) (h : ∀ j (h : j < l.length), C[j]? = some (.int .u8 (l[j].toNat : Int))) : BytesAt (w.alloc (.cells C t (C.size, C.size + 1))) w.heap.size l := by
  intro j hj
  rw [World.cell?_alloc_mark, World.frozen?_alloc_mark]
  refine ⟨h j hj, ?_⟩
  have := (Array.getElem?_eq_some_iff.1 (h j hj)).1
  simp; omega
theorem BytesAt.look {w : World} {b : Nat} (s : ByteArray) (k : Nat) (h : BytesAt w b (lowTo s.data.toList k)) (hk : k < s.size) : w.cell? ⟨b, k, none⟩ = some (.int .u8 (s[k].toNat : Int)) ∧ w.frozen? ⟨b, k, none⟩ = false := by
  have hk' : k < s.data.toList.length := by simpa using hk
  have h0 := h k (by rw [lowTo_length]; exact hk')
  rw [lowTo_at _ k hk'] at h0
  exact h0
theorem BytesAt.keep {w : World} {b : Nat} (s : ByteArray) (k : Nat) (h : BytesAt w b (lowTo s.data.toList k)) (hk : k < s.size) (hc : ¬ (65 ≤ (s[k].toNat : Int) ∧ (s[k].toNat : Int) ≤ 90)) : BytesAt w b (lowTo s.data.toList (k + 1)) := by
  have hk' : k < s.data.toList.length := by simpa using hk
  rw [lowTo_same _ k hk' (by show low1 s[k] = s[k]; unfold low1; rw [if_neg (by omega)])]
  exact h
theorem BytesAt.turn {w : World} {b : Nat} (s : ByteArray) (k : Nat) (h : BytesAt w b (lowTo s.data.toList k)) (hk : k < s.size) (h1 : 65 ≤ (s[k].toNat : Int)) (h2 : (s[k].toNat : Int) ≤ 90) :
    BytesAt (w.setCell ⟨b, k, none⟩ (.int .u8 ((s[k].toNat : Int) + 32))) b (lowTo s.data.toList (k + 1)) := by
  have hk' : k < s.data.toList.length := by simpa using hk
  rw [lowTo_succ _ k hk']
  refine h.set k (by rw [lowTo_length]; exact hk') _ _ ?_
  show _ = ((low1 s[k]).toNat : Int)
  unfold low1
  rw [if_pos (by omega), UInt8.toNat_add]
  have : (32 : UInt8).toNat = 32 := rfl
  omega
theorem BytesAt.back {w : World} {b : Nat} {P : Program} (s : ByteArray) (k cap : Nat) (src dst e : TypeId) (h : BytesAt w b (lowTo s.data.toList k)) (hk : s.size ≤ k)
    (hs : P.underlying src = some (.slice e)) (he : P.underlying e = some (.int .u8)) (hd : P.underlying dst = some .string) :
    (convert src dst (.slice (some ⟨b, 0, none⟩) s.size cap)).run P w = .ok (.string ⟨(lower s.data.toList).toArray⟩) w := by
  rw [lowTo_all _ k (by simpa using hk)] at h
  have hl : (lower s.data.toList).length = s.size := by simp [lower]
  have := run_convert_bytes_back (P := P) w src dst e ⟨b, 0, none⟩ cap (lower s.data.toList) hs he hd (fun j hj => by
    have e : (⟨b, 0, none⟩ : Addr).add j = ⟨b, j, none⟩ := by simp [Addr.add]; omega
    rw [e]
    exact (h j hj).1)
  rw [hl] at this
  exact this
end Oct
end Go.Proofs.YtinjkpbpkedfnaaGreatDoor

/- The parts of a text between separating bytes: plain functions and their laws; no program is named here. -/

namespace Go.Proofs.YtinjkpbpkedfnaaGreatDoor
namespace Oct

/-- One byte more: the parts that are whole, and the one that has begun. -/
def stp (p : Int → Bool) (x : List (List UInt8) × List UInt8) (b : UInt8) : List (List UInt8) × List UInt8 := if p b.toNat then (x.1 ++ [x.2], []) else (x.1, x.2 ++ [b])
def st (p : Int → Bool) (l : List UInt8) : List (List UInt8) × List UInt8 := l.foldl (stp p) ([], [])
def split (p : Int → Bool) (l : List UInt8) : List (List UInt8) := (st p l).1 ++ [(st p l).2]
def words (l : List UInt8) : List (List UInt8) := (split blankI l).filter fun x => !x.isEmpty
/-- A text as a value. -/
def strV (l : List UInt8) : Value := .string ⟨l.toArray⟩

theorem st_snoc (p : Int → Bool) (l : List UInt8) (b : UInt8) : st p (l ++ [b]) = stp p (st p l) b := by simp [st, List.foldl_append]
theorem st_yes (p : Int → Bool) (d : List (List UInt8)) (c : List UInt8) (s : List UInt8) (b : UInt8) (h : st p s = (d, c)) (hp : p b.toNat = true) : st p (s ++ [b]) = (d ++ [c], []) := by
  rw [st_snoc, h, stp, if_pos hp]
theorem st_no (p : Int → Bool) (d : List (List UInt8)) (c : List UInt8) (s : List UInt8) (b : UInt8) (h : st p s = (d, c)) (hp : p b.toNat = false) : st p (s ++ [b]) = (d, c ++ [b]) := by
  rw [st_snoc, h, stp, if_neg (by simp [hp])]
theorem st_suffix' (p : Int → Bool) : ∀ (l : List UInt8) (x : List (List UInt8) × List UInt8) (r : List UInt8), x.2 <:+ r → (l.foldl (stp p) x).2 <:+ r ++ l
  | [], x, r, h => by simpa using h
  | b :: l, x, r, h => by
    rw [List.foldl_cons, show r ++ b :: l = (r ++ [b]) ++ l by simp]
    refine st_suffix' p l _ _ ?_
    unfold stp
    split
    · exact List.nil_suffix
    · obtain ⟨t, ht⟩ := h
      exact ⟨t, by rw [← ht]; simp⟩
theorem st_suffix (p : Int → Bool) (l : List UInt8) : (st p l).2 <:+ l := by
  have h := st_suffix' p l ([], []) [] (List.nil_suffix)
  rw [List.nil_append] at h
  exact h
theorem st_extract (p : Int → Bool) (s : ByteArray) (k f : Nat) (d : List (List UInt8)) (c : List UInt8) (h : st p (s.data.toList.take k) = (d, c)) (hk : k ≤ s.size) (hf : f + c.length = k) : Value.string (s.extract f k) = strV c := by
  have h1 := st_suffix p (s.data.toList.take k)
  rw [h] at h1
  have h2 := List.suffix_iff_eq_drop.1 h1
  have h3 : (s.data.toList.take k).length = k := by simp; omega
  rw [h3, show k - c.length = f by omega] at h2
  have h5 : c = List.drop f (List.take k s.data.toList) := h2
  have h4 : (s.extract f k).data.toList = c := by
    rw [Lib.extract_data, h5, List.drop_take]
  unfold strV
  rw [← h4]
theorem st_len' (p : Int → Bool) : ∀ (l : List UInt8) (x : List (List UInt8) × List UInt8), (l.foldl (stp p) x).1.length + (l.foldl (stp p) x).2.length ≤ x.1.length + x.2.length + l.length
  | [], x => by simp
  | b :: l, x => by
    rw [List.foldl_cons]
    have h := st_len' p l (stp p x b)
    have h1 : (stp p x b).1.length + (stp p x b).2.length ≤ x.1.length + x.2.length + 1 := by
      unfold stp; split <;> simp <;> omega
    simp only [List.length_cons]; omega
theorem st_len (p : Int → Bool) (l d : List UInt8) (x : List (List UInt8)) (h : st p l = (x, d)) : x.length + d.length ≤ l.length := by
  have := st_len' p l ([], [])
  rw [show l.foldl (stp p) ([], []) = (x, d) from h] at this
  simpa using this
theorem split_of (p : Int → Bool) (l d : List UInt8) (x : List (List UInt8)) (h : st p l = (x, d)) : split p l = x ++ [d] := by
  rw [split, h]
end Oct
end Go.Proofs.YtinjkpbpkedfnaaGreatDoor

/- Laws of small letters, blanks at the ends, tokens, and of the parts of texts laid one behind the other; no program is named here. -/
namespace Go.Proofs.YtinjkpbpkedfnaaGreatDoor
namespace Oct

theorem low1_low1 (c : UInt8) : low1 (low1 c) = low1 c := by
  unfold low1
  by_cases h : 65 ≤ c.toNat ∧ c.toNat ≤ 90
  · rw [if_pos h]
    have : (c + 32).toNat = c.toNat + 32 := by
      rw [UInt8.toNat_add]
      have : (32 : UInt8).toNat = 32 := rfl
      omega
    rw [if_neg (by omega)]
  · rw [if_neg h, if_neg h]
theorem lower_lower (l : List UInt8) : lower (lower l) = lower l := by
  simp [lower, low1_low1]
theorem lower_length (l : List UInt8) : (lower l).length = l.length := by simp [lower]
theorem tchar_low1 (c : UInt8) : tcharI (low1 c).toNat = tcharI c.toNat := by
  have : ∀ n : Fin 256, tcharI (low1 (UInt8.ofNat n)).toNat = tcharI (UInt8.ofNat n).toNat := by decide +kernel
  have h := this ⟨c.toNat, c.toNat_lt⟩
  simpa using h
theorem token_lower (l : List UInt8) : tokenB (lower l) = tokenB l := by
  unfold tokenB lower allB
  rw [List.all_map]
  congr 1
  · congr 1
    funext c
    exact tchar_low1 c
  · simp

theorem dw_idem (p : UInt8 → Bool) : ∀ l : List UInt8, (l.dropWhile p).dropWhile p = l.dropWhile p
  | [] => rfl
  | c :: l => by
    by_cases h : p c = true
    · rw [List.dropWhile_cons_of_pos h]; exact dw_idem p l
    · rw [List.dropWhile_cons_of_neg h, List.dropWhile_cons_of_neg h]
theorem dw_prefix (p : UInt8 → Bool) (m a : List UInt8) (h : m <+: a) (ha : a.dropWhile p = a) : m.dropWhile p = m := by
  obtain ⟨t, rfl⟩ := h
  cases m with
  | nil => rfl
  | cons c m =>
    by_cases hc : p c = true
    · exfalso
      rw [List.cons_append, List.dropWhile_cons_of_pos hc] at ha
      have h1 := congrArg List.length ha
      have h2 := (List.dropWhile_suffix (p := p) (l := m ++ t)).length_le
      simp only [List.length_cons] at h1
      omega
    · rw [List.dropWhile_cons_of_neg hc]
theorem trim_trim (l : List UInt8) : trim (trim l) = trim l := by
  unfold trim
  generalize ha : (l.dropWhile fun b => blankI b.toNat) = a
  have ha2 : (a.dropWhile fun b => blankI b.toNat) = a := by rw [← ha]; exact dw_idem _ _
  have hp : (a.reverse.dropWhile fun b => blankI b.toNat).reverse <+: a := by
    have := List.dropWhile_suffix (p := fun b : UInt8 => blankI b.toNat) (l := a.reverse)
    have := List.reverse_prefix.2 this
    simpa using this
  rw [dw_prefix _ _ _ hp ha2, List.reverse_reverse, dw_idem]
theorem trim_length (l : List UInt8) : (trim l).length ≤ l.length := by
  unfold trim
  rw [List.length_reverse]
  have h1 := (List.dropWhile_suffix (p := fun b : UInt8 => blankI b.toNat) (l := (l.dropWhile fun b => blankI b.toNat).reverse)).length_le
  have h2 := (List.dropWhile_suffix (p := fun b : UInt8 => blankI b.toNat) (l := l)).length_le
  simp only [List.length_reverse] at h1
  omega

theorem st_from (p : Int → Bool) : ∀ (t : List UInt8) (d : List (List UInt8)) (x : List (List UInt8) × List UInt8), t.foldl (stp p) (d ++ x.1, x.2) = (d ++ (t.foldl (stp p) x).1, (t.foldl (stp p) x).2)
  | [], d, x => rfl
  | b :: t, d, x => by
    rw [List.foldl_cons, List.foldl_cons, ← st_from p t d (stp p x b)]
    congr 1
    unfold stp
    split <;> simp
theorem split_glue (p : Int → Bool) (s t : List UInt8) (c : UInt8) (hc : p c.toNat = true) : split p (s ++ [c] ++ t) = split p s ++ split p t := by
  have e : st p (s ++ [c] ++ t) = ((st p s).1 ++ [(st p s).2] ++ (st p t).1, (st p t).2) := by
    have h1 : st p (s ++ [c] ++ t) = t.foldl (stp p) (st p (s ++ [c])) := by simp [st, List.foldl_append]
    rw [h1, st_yes p (st p s).1 (st p s).2 s c rfl hc]
    have := st_from p t ((st p s).1 ++ [(st p s).2]) ([], [])
    rw [List.append_nil] at this
    exact this
  unfold split
  rw [e]
  simp
theorem words_glue (s t : List UInt8) : words (s ++ [32] ++ t) = words s ++ words t := by
  unfold words
  rw [split_glue blankI s t 32 rfl, List.filter_append]
theorem split_pos (p : Int → Bool) (l : List UInt8) : 0 < (split p l).length := by simp [split]
theorem split_len (p : Int → Bool) (l : List UInt8) : (split p l).length ≤ l.length + 1 := by
  have := st_len p l (st p l).2 (st p l).1 rfl
  simp [split]; omega
theorem words_len (l : List UInt8) : (words l).length ≤ l.length + 1 := by
  have h1 := split_len blankI l
  have h2 := List.length_filter_le (fun x => !x.isEmpty) (split blankI l)
  unfold words; omega
end Oct
end Go.Proofs.YtinjkpbpkedfnaaGreatDoor

/- Parts with the byte between are the text; none has the byte. No program is named here. -/

namespace Go.Proofs.YtinjkpbpkedfnaaGreatDoor
namespace Oct

/-- Texts with a byte between. -/
def join (c : UInt8) : List (List UInt8) → List UInt8
  | [] => []
  | [p] => p
  | p :: q :: r => p ++ c :: join c (q :: r)
theorem join_snoc (c : UInt8) (p : List UInt8) : ∀ l : List (List UInt8), join c (l ++ [p]) = join c l ++ (if l.isEmpty then [] else [c]) ++ p
  | [] => by simp [join]
  | [q] => by simp [join]
  | q :: r :: l => by
    have := join_snoc c p (r :: l)
    simp only [List.cons_append] at this
    simp only [List.cons_append, join, this]
    simp
theorem join_st (c : UInt8) (l : List UInt8) : join c ((st (fun x => x == (c.toNat : Int)) l).1 ++ [(st (fun x => x == (c.toNat : Int)) l).2]) = l := by
  generalize hp : (fun x : Int => x == (c.toNat : Int)) = p
  induction hn : l.length generalizing l with
  | zero =>
    have : l = [] := List.length_eq_zero_iff.1 hn
    subst this; rfl
  | succ n ih =>
    obtain ⟨r, b, rfl⟩ : ∃ r b, l = r ++ [b] := by
      have : l ≠ [] := by intro h; subst h; simp at hn
      exact ⟨l.dropLast, l.getLast this, (List.dropLast_concat_getLast this).symm⟩
    have ihr := ih r (by simpa using hn)
    cases hb : p b.toNat with
    | true =>
      rw [st_yes p (st p r).1 (st p r).2 r b rfl hb]
      have hbc : b = c := by
        rw [← hp] at hb
        have := beq_iff_eq.1 hb
        exact UInt8.toNat_inj.1 (by omega)
      rw [join_snoc, ihr, hbc]
      simp
    | false =>
      rw [st_no p (st p r).1 (st p r).2 r b rfl hb]
      rw [join_snoc] at ihr
      rw [join_snoc, ← List.append_assoc, ihr]
theorem join_split (c : UInt8) (l : List UInt8) : join c (split (fun x => x == (c.toNat : Int)) l) = l := join_st c l

theorem st_none (p : Int → Bool) : ∀ (l : List UInt8) (x : List (List UInt8) × List UInt8), (∀ q ∈ x.1 ++ [x.2], ∀ b ∈ q, p b.toNat = false) → ∀ q ∈ (l.foldl (stp p) x).1 ++ [(l.foldl (stp p) x).2], ∀ b ∈ q, p b.toNat = false
  | [], x, h => h
  | a :: l, x, h => by
    rw [List.foldl_cons]
    refine st_none p l (stp p x a) ?_
    intro q hq b hb
    unfold stp at hq
    by_cases ha : p a.toNat = true
    · rw [if_pos ha] at hq
      simp only [List.mem_append, List.mem_singleton] at hq
      rcases hq with (hq | hq) | hq
      · exact h q (by simp [hq]) b hb
      · exact h q (by simp [hq]) b hb
      · subst hq; simp at hb
    · rw [if_neg ha] at hq
      simp only [List.mem_append, List.mem_singleton] at hq
      rcases hq with hq | hq
      · exact h q (by simp [hq]) b hb
      · subst hq
        rcases List.mem_append.1 hb with hb | hb
        · exact h x.2 (by simp) b hb
        · have : b = a := by simpa using hb
          subst this; simpa using ha
theorem split_none (p : Int → Bool) (l : List UInt8) : ∀ q ∈ split p l, ∀ b ∈ q, p b.toNat = false := st_none p l ([], []) (by simp)
theorem split_in (c : UInt8) (l : List UInt8) (k : Nat) (h : k < (split (fun x => x == (c.toNat : Int)) l).length) : inI c.toNat (split (fun x => x == (c.toNat : Int)) l)[k] = false := by
  have := split_none (fun x => x == (c.toNat : Int)) l _ (List.getElem_mem h)
  unfold inI
  rw [List.any_eq_false]
  intro b hb
  rw [this b hb]; simp
theorem join_take (c : UInt8) (ps : List (List UInt8)) (k : Nat) (h : k < ps.length) : join c (ps.take (k + 1)) = join c (ps.take k) ++ (if k = 0 then [] else [c]) ++ ps[k] := by
  rw [List.take_succ_eq_append_getElem h, join_snoc]
  congr 2
  by_cases hk : k = 0
  · subst hk; simp
  · have : (ps.take k).isEmpty = false := by
      cases ps with
      | nil => simp at h
      | cons a r =>
        cases k with
        | zero => exact absurd rfl hk
        | succ k => rfl
    rw [this]; simp [hk]
theorem join_len (c : UInt8) (ps : List (List UInt8)) (k : Nat) (h : k < ps.length) : (join c (ps.take k)).length + (if k = 0 then 0 else 1) + ps[k].length ≤ (join c ps).length := by
  have h1 : ∀ j, j + (k + 1) ≤ ps.length → (join c (ps.take (k + 1))).length ≤ (join c (ps.take (j + (k + 1)))).length := by
    intro j
    induction j with
    | zero => intro _; simp
    | succ j ih =>
      intro hj
      have h2 := ih (by omega)
      have h3 := congrArg List.length (join_take c ps (j + (k + 1)) (by omega))
      rw [show j + 1 + (k + 1) = j + (k + 1) + 1 by omega]
      simp only [List.length_append] at h3
      omega
  have h4 := h1 (ps.length - (k + 1)) (by omega)
  rw [show ps.length - (k + 1) + (k + 1) = ps.length by omega, List.take_length] at h4
  have h5 := congrArg List.length (join_take c ps k h)
  simp only [List.length_append] at h5
  by_cases hk : k = 0
  · rw [if_pos hk] at h5 ⊢
    simp only [List.length_nil] at h5
    omega
  · rw [if_neg hk] at h5 ⊢
    simp only [List.length_cons, List.length_nil] at h5
    omega
end Oct
end Go.Proofs.YtinjkpbpkedfnaaGreatDoor

/- The numbers that digits tell: plain functions and their laws; no program is named here. -/

namespace Go.Proofs.YtinjkpbpkedfnaaGreatDoor
namespace Oct

/-- The number that digits tell; may it be told at all, up to most? -/
def val (l : List UInt8) : Int := l.foldl (fun n b => 10 * n + ((b.toNat : Int) - 48)) 0
def numOk (l : List UInt8) (most : Int) : Bool := !l.isEmpty && !(decide (1 < l.length) && l.headD 0 == 48) && allB digitI l && decide (val l ≤ most)
def numV (l : List UInt8) (most : Int) : Int := if numOk l most then val l else 0
theorem val_snoc (l : List UInt8) (b : UInt8) : val (l ++ [b]) = 10 * val l + ((b.toNat : Int) - 48) := by simp [val, List.foldl_append]
theorem val_ge (l r : List UInt8) (h : allB digitI r = true) (h0 : 0 ≤ val l) : val l ≤ val (l ++ r) := by
  induction r generalizing l with
  | nil => simp
  | cons b r ih =>
    have h1 : digitI b.toNat = true ∧ allB digitI r = true := by simpa [allB] using h
    have h2 : (48 : Int) ≤ b.toNat := by have := h1.1; simp [digitI] at this; omega
    have e := val_snoc l b
    have := ih (l ++ [b]) h1.2 (by omega)
    rw [List.append_assoc] at this
    simp only [List.singleton_append] at this
    omega
theorem val_nonneg (l : List UInt8) (h : allB digitI l = true) : 0 ≤ val l := by
  have := val_ge [] l h (by simp [val])
  simpa [val] using this
theorem numOk_big (s : ByteArray) (k : Nat) (most : Int) (h : k < s.size) (ha : allB digitI (s.data.toList.take k) = true) (hd : digitI s[k].toNat = true)
    (hv : most < 10 * val (s.data.toList.take k) + ((s[k].toNat : Int) - 48)) : numOk s.data.toList most = false := by
  unfold numOk
  by_cases hall : allB digitI s.data.toList = true
  · have h1 := val_ge (s.data.toList.take (k + 1)) (s.data.toList.drop (k + 1)) (by
      have e := List.take_append_drop (k + 1) s.data.toList
      rw [← e] at hall
      simp only [allB, List.all_append, Bool.and_eq_true] at hall
      exact hall.2) (val_nonneg _ (allB_next _ s k h ha hd))
    rw [List.take_append_drop, take_snoc s k h, val_snoc] at h1
    rw [show decide (val s.data.toList ≤ most) = false by simp; omega]
    simp
  · simp [hall]
theorem numOk_miss (s : ByteArray) (k : Nat) (most : Int) (h : k < s.size) (hd : digitI s[k].toNat = false) : numOk s.data.toList most = false := by
  unfold numOk; rw [allB_miss _ s k h hd]; simp
theorem numOk_neg (s : ByteArray) (most : Int) (h : most < 0) : numOk s.data.toList most = false := by
  unfold numOk
  by_cases hall : allB digitI s.data.toList = true
  · have := val_nonneg _ hall
    rw [show decide (val s.data.toList ≤ most) = false by simp; omega]
    simp
  · simp [hall]
theorem numOk_nil (s : ByteArray) (most : Int) (h : s.toList.isEmpty = true) : numOk s.data.toList most = false := by
  unfold numOk; rw [Lib.toList_data] at h; rw [h]; simp
theorem head_at (s : ByteArray) (h : 0 < s.size) : s.data.toList.headD 0 = s[0] := by
  have e := split_at s 0 h
  generalize s[0] = c at *
  rw [e]; rfl
theorem numOk_zero (s : ByteArray) (most : Int) (h : 1 < s.size) (h0 : ((s[0].toNat : Int) == 48) = true) : numOk s.data.toList most = false := by
  have h1 : s[0] = 48 := by
    have : s[0].toNat = 48 := by have := beq_iff_eq.1 h0; omega
    exact UInt8.toNat_inj.1 this
  unfold numOk
  rw [head_at s (by omega), h1]
  have h2 : decide (1 < s.data.toList.length) = true := by simpa using h
  rw [h2]; simp
theorem numOk_end (s : ByteArray) (most : Int) (h0 : s.toList.isEmpty = false) (hz : 1 < s.size → ((s[0]!.toNat : Int) == 48) = false) (ha : allB digitI s.data.toList = true) (hv : val s.data.toList ≤ most) : numOk s.data.toList most = true := by
  rw [Lib.toList_data] at h0
  unfold numOk
  rw [h0, ha, show decide (val s.data.toList ≤ most) = true by simpa using hv]
  by_cases h1 : 1 < s.size
  · have h2 := hz h1
    have e : s[0]! = s[0] := by simp [show 0 < s.size by omega]
    rw [e] at h2
    rw [head_at s (by omega)]
    have h3 : (s[0] == 48) = false := by
      rw [beq_eq_false_iff_ne]; intro h; rw [h] at h2; simp at h2
    rw [h3]; simp
  · have h2 : decide (1 < s.data.toList.length) = false := by simpa using h1
    rw [h2]; simp
end Oct
end Go.Proofs.YtinjkpbpkedfnaaGreatDoor

/- A number that is told has the digits that it was told by. No program is named here. -/

namespace Go.Proofs.YtinjkpbpkedfnaaGreatDoor
namespace Oct

theorem val_take (l : List UInt8) (i : Nat) (h : i < l.length) : val (l.take (i + 1)) = 10 * val (l.take i) + ((l[i].toNat : Int) - 48) := by
  rw [List.take_succ_eq_append_getElem h, val_snoc]
theorem allB_at (p : Int → Bool) (l : List UInt8) (h : allB p l = true) (i : Nat) (hi : i < l.length) : p l[i].toNat = true := by
  unfold allB at h
  rw [List.all_eq_true] at h
  exact h _ (List.getElem_mem hi)
theorem allB_take (p : Int → Bool) (l : List UInt8) (h : allB p l = true) (i : Nat) : allB p (l.take i) = true := by
  unfold allB at *
  rw [List.all_eq_true] at *
  intro x hx
  exact h x (List.mem_of_mem_take hx)
theorem numOk_parts (l : List UInt8) (most : Int) (h : numOk l most = true) : 0 < l.length ∧ (1 < l.length → l.headD 0 ≠ 48) ∧ allB digitI l = true ∧ val l ≤ most := by
  unfold numOk at h
  simp only [Bool.and_eq_true, decide_eq_true_eq] at h
  obtain ⟨⟨⟨h1, h2⟩, h3⟩, h4⟩ := h
  refine ⟨?_, ?_, h3, h4⟩
  · cases l with
    | nil => simp at h1
    | cons a r => simp
  · intro hl he
    rw [he] at h2
    simp [hl] at h2
/-- The first digit is not 0: from the first digit on the number is not less than a power of ten. -/
theorem val_pow (l : List UInt8) (ha : allB digitI l = true) (h0 : l.headD 0 ≠ 48) : ∀ j, j < l.length → (10 : Int) ^ j ≤ val (l.take (j + 1))
  | 0, h => by
    rw [val_take l 0 h]
    have hd := allB_at digitI l ha 0 h
    have h1 : l[0] ≠ 48 := by
      cases l with
      | nil => simp at h
      | cons a r => simpa using h0
    have h2 : l[0].toNat ≠ 48 := fun e => h1 (UInt8.toNat_inj.1 e)
    simp [digitI] at hd
    have : val (l.take 0) = 0 := rfl
    rw [this]
    simp
    omega
  | j + 1, h => by
    rw [val_take l (j + 1) h]
    have ih := val_pow l ha h0 j (by omega)
    have hd := allB_at digitI l ha (j + 1) h
    simp [digitI] at hd
    rw [Int.pow_succ]
    omega
theorem digits_len (l : List UInt8) (most : Int) (h : numOk l most = true) (hm : most ≤ 9223372036854775807) : l.length ≤ 19 := by
  obtain ⟨h1, h2, h3, h4⟩ := numOk_parts l most h
  rcases Nat.lt_or_ge l.length 20 with hl | hl
  · omega
  · exfalso
    have this : (10 : Int) ^ 19 ≤ val (l.take 20) := val_pow l h3 (h2 (by omega)) 19 (by omega)
    have h5 := val_ge (l.take 20) (l.drop 20) (by
      have e := List.take_append_drop 20 l
      rw [← e] at h3
      simp only [allB, List.all_append, Bool.and_eq_true] at h3
      exact h3.2) (val_nonneg _ (allB_take _ _ h3 20))
    rw [List.take_append_drop] at h5
    have h6 : (10 : Int) ^ 19 = 10000000000000000000 := by decide
    rw [h6] at this
    omega
theorem val_zero (l : List UInt8) (most : Int) (h : numOk l most = true) (hv : val l = 0) : l = [48] := by
  obtain ⟨h1, h2, h3, _⟩ := numOk_parts l most h
  by_cases hl : 1 < l.length
  · exfalso
    have := val_pow l h3 (h2 hl) (l.length - 1) (by omega)
    rw [show l.length - 1 + 1 = l.length by omega, List.take_length, hv] at this
    have : (0 : Int) < 10 ^ (l.length - 1) := Int.pow_pos (by decide)
    omega
  · cases l with
    | nil => simp at h1
    | cons a r =>
      have hr : r = [] := List.length_eq_zero_iff.1 (by simp only [List.length_cons] at hl; omega)
      subst hr
      have hd := allB_at digitI [a] h3 0 (by simp)
      simp [digitI] at hd
      simp [val] at hv
      have : a.toNat = 48 := by omega
      have : a = 48 := UInt8.toNat_inj.1 this
      rw [this]
theorem val_pos (l : List UInt8) (most : Int) (h : numOk l most = true) (hv : 0 < val l) (j : Nat) (hj : 0 < j) (hj2 : j ≤ l.length) : 0 < val (l.take j) := by
  obtain ⟨h1, h2, h3, _⟩ := numOk_parts l most h
  by_cases hl : 1 < l.length
  · have := val_pow l h3 (h2 hl) (j - 1) (by omega)
    rw [show j - 1 + 1 = j by omega] at this
    have : (0 : Int) < 10 ^ (j - 1) := Int.pow_pos (by decide)
    omega
  · have : j = l.length := by omega
    rw [this, List.take_length]; exact hv
theorem digit_step (l : List UInt8) (ha : allB digitI l = true) (i : Nat) (h : i < l.length) (v : Int) (hv : v = val (l.take (i + 1))) : v / 10 = val (l.take i) ∧ UInt8.ofNat (48 + v % 10).toNat = l[i] := by
  rw [val_take l i h] at hv
  have hd := allB_at digitI l ha i h
  simp [digitI] at hd
  refine ⟨by omega, ?_⟩
  have e : (48 + v % 10).toNat = l[i].toNat := by omega
  rw [e]; simp
end Oct
end Go.Proofs.YtinjkpbpkedfnaaGreatDoor

/- The contracts of octet's and the document's functions of one byte. -/


namespace Go.Proofs.YtinjkpbpkedfnaaGreatDoor
open Go.RowKit

set_option maxHeartbeats 400000 in
theorem digit_any (c : Int) (w : World) : Calls Tryz.prog 119 #[.int .u8 c] w fun e w' => e = .returned (.bool (Oct.digitI c)) ∧ w = w' := by
  go_enter Tryz.func119, Tryz.ntmps119
  go_wp2
  all_goals (go_ret; refine ⟨?_, rfl⟩; simp_all [Oct.digitI] <;> omega)
set_option maxHeartbeats 400000 in
theorem rdigit_any (c : Int) (w : World) : Calls Tryz.prog 68 #[.int .u8 c] w fun e w' => e = .returned (.bool (Oct.digitI c)) ∧ w = w' := by
  go_enter Tryz.func68, Tryz.ntmps68
  go_wp2
  all_goals (go_ret; refine ⟨?_, rfl⟩; simp_all [Oct.digitI] <;> omega)
set_option maxHeartbeats 400000 in
theorem rletter_any (c : Int) (w : World) : Calls Tryz.prog 67 #[.int .u8 c] w fun e w' => e = .returned (.bool (Oct.letterI c)) ∧ w = w' := by
  go_enter Tryz.func67, Tryz.ntmps67
  go_wp2
  all_goals (go_ret; refine ⟨?_, rfl⟩; simp_all [Oct.letterI] <;> omega)

set_option maxHeartbeats 400000 in
theorem rin_any (c : Int) (s : ByteArray) (w : World) (hs : s.size ≤ maxLen) : Calls Tryz.prog 69 #[.int .u8 c, .string s] w fun e w' => e = .returned (.bool (Oct.inI c s.data.toList)) ∧ w = w' := by
  unfold maxLen at hs
  go_enter Tryz.func69, Tryz.ntmps69
  go_wp2
  go_loop [5] (fun i => ∃ k : Nat, k ≤ s.size ∧ i = .int .i64 k ∧ Hid (Oct.inI c (s.data.toList.take k) = false)) (fun i => s.size - (intOf i).toNat)
  case atStart => exact ⟨0, Nat.zero_le _, rfl, rfl⟩
  case round =>
    obtain ⟨k, hk, rfl, hin⟩ := hrel
    by_cases hlt : k < s.size
    · go_wp2
      · go_ret
        exact ⟨Oct.ret_bool (Oct.inI_hit c s k hlt (by assumption)).symm, rfl⟩
      · go_round
        case rel => exact ⟨k + 1, by omega, by go_num, Oct.inI_next c s k hlt hin (by assumption)⟩
        case measure => simp [intOf]; omega
    · go_wp2
      go_ret
      exact ⟨Oct.ret_bool (by rw [← Oct.take_all s k (by omega), hin.out]), rfl⟩

set_option maxHeartbeats 1000000 in
set_option maxRecDepth 100000 in
theorem slIndexByte_any (s : ByteArray) (c : Int) (w : World) : Calls Tryz.prog 90 #[.string s, .int .u8 c] w fun e w' => e = .returned (.int .i64 (Lib.indexByte s.data.toList c.toNat.toUInt8)) ∧ w = w' := by
  go_enter Tryz.func90, Tryz.ntmps90
  go_wp2
  rw [run_callFunc_extern Tryz.func115 (by kernel_rfl) (by kernel_rfl) (by kernel_rfl) (e := Extern.BytealgIndexByte.indexByte) (by kernel_rfl), Lib.run_indexByteString]
  simp only [Result.andThen]
  rw [Oper.upon_value]
  go_wp2
  go_ret
  exact ⟨rfl, rfl⟩
theorem indexByte_any (s : ByteArray) (c : Int) (w : World) : Calls Tryz.prog 60 #[.string s, .int .u8 c] w fun e w' => e = .returned (.int .i64 (Lib.indexByte s.data.toList c.toNat.toUInt8)) ∧ w = w' := by
  go_enter Tryz.func60, Tryz.ntmps60
  go_wp2_with (go_at_call 90; refine (slIndexByte_any _ _ _).mono ?_; rintro e w' ⟨rfl, rfl⟩)
  go_ret
  exact ⟨rfl, rfl⟩

end Go.Proofs.YtinjkpbpkedfnaaGreatDoor

/- The contracts of octet.Token, Trim and of the document's answers. -/

namespace Go.Proofs.YtinjkpbpkedfnaaGreatDoor
open Go.RowKit

theorem token_end (s : ByteArray) (k : Nat) (h : s.size ≤ k) (hi : Oct.allB Oct.tcharI (s.data.toList.take k) = true) : (!s.toList.isEmpty) = Oct.tokenB s.data.toList := by
  rw [Oct.take_all s k h] at hi
  rw [Lib.toList_data, Oct.tokenB, hi]; rfl
theorem token_miss (s : ByteArray) (k : Nat) (h : k < s.size) (hc : (!Oct.tcharI s[k].toNat) = true) : false = Oct.tokenB s.data.toList := by
  rw [Oct.tokenB, Oct.allB_miss _ s k h (by simpa using hc)]; rfl

end Go.Proofs.YtinjkpbpkedfnaaGreatDoor

/- The contracts of octet.Number and of the document's answer. -/
namespace Go.Proofs.YtinjkpbpkedfnaaGreatDoor
open Go.RowKit

theorem num_no {l : List UInt8} {most : Int} (h : Oct.numOk l most = false) : Ending.returned (.tuple #[.int .i64 0, .bool false]) = .returned (.tuple #[.int .i64 (Oct.numV l most), .bool (Oct.numOk l most)]) := by
  unfold Oct.numV; rw [h]; rfl
theorem num_yes {l : List UInt8} {most n : Int} (h : Oct.numOk l most = true) (hn : n = Oct.val l) : Ending.returned (.tuple #[.int .i64 n, .bool true]) = .returned (.tuple #[.int .i64 (Oct.numV l most), .bool (Oct.numOk l most)]) := by
  unfold Oct.numV; rw [h, hn]; rfl
theorem empty_list {s : ByteArray} (h : s.toList.isEmpty = true) : s.toList = [] := by simpa using h
theorem empty_no {s : ByteArray} (h : s.toList.isEmpty = false) : ¬ s.toList = [] := by simpa using h
theorem empty_size {s : ByteArray} (h : s.toList.isEmpty = false) : 0 < s.size := by
  rw [Lib.toList_data] at h
  have : s.data.toList ≠ [] := by simpa using h
  have := List.length_pos_iff.2 this
  simpa using this

theorem digit_bd (c : Int) (h : Oct.digitI c = true) : 48 ≤ c ∧ c ≤ 57 := by simpa [Oct.digitI] using h

set_option maxHeartbeats 1000000 in
theorem number_go (s : ByteArray) (most : Int) (w : World) (hs : s.size ≤ maxLen) (hm0 : -9223372036854775808 ≤ most) (hm1 : most ≤ 9223372036854775807) (he : s.toList.isEmpty = false) (hp : 0 < s.size)
    (hz : (1 < s.size ∧ ((s[0].toNat : Int) == 48) = false) ∨ s.size ≤ 1) :
    Calls Tryz.prog 96 #[.string s, .int .i64 most] w fun e w' => e = .returned (.tuple #[.int .i64 (Oct.numV s.data.toList most), .bool (Oct.numOk s.data.toList most)]) ∧ w = w' := by
  unfold maxLen at hs
  have he' := empty_no he
  have HE := Lib.hid he
  have HZ : Hid (1 < s.size → ((s[0]!.toNat : Int) == 48) = false) := by
    intro h
    rcases hz with ⟨_, hz⟩ | hz
    · have e : s[0]! = s[0] := by simp [hp]
      rw [e]; exact hz
    · omega
  rcases hz with ⟨h1, hz⟩ | h1
  all_goals
    have h1' : decide ((1 : Int) < (s.size : Int)) = decide (1 < s.size) := by simp; omega
    go_enter Tryz.func96, Tryz.ntmps96
    go_wp2
    clear h1' he he'
    go_loop [6, 23] (fun n i => ∃ k : Nat, ∃ v : Int, k ≤ s.size ∧ i = .int .i64 k ∧ n = .int .i64 v ∧ 0 ≤ v ∧ (0 < k → v ≤ most) ∧ Hid (v = Oct.val (s.data.toList.take k)) ∧ Hid (Oct.allB Oct.digitI (s.data.toList.take k) = true)) (fun _ i => s.size - (intOf i).toNat)
    case atStart => exact ⟨0, 0, Nat.zero_le _, rfl, rfl, by omega, by omega, rfl, rfl⟩
    case round =>
      obtain ⟨k, v, hk, rfl, rfl, hv0, hv1, HV, HD⟩ := hrel
      by_cases hlt : k < s.size
      · cases hdg : Oct.digitI s[k].toNat with
        | false =>
          clear hv1
          go_wp2_with (go_at_call 119; refine (digit_any _ _).mono ?_; rintro e w' ⟨rfl, rfl⟩)
          go_ret2
          exact ⟨num_no (Oct.numOk_miss s k most hlt hdg), rfl⟩
        | true =>
          obtain ⟨b1, b2⟩ := digit_bd _ hdg
          by_cases hd : most < (s[k].toNat : Int) - 48
          · clear hv1
            go_wp2_with (go_at_call 119; refine (digit_any _ _).mono ?_; rintro e w' ⟨rfl, rfl⟩)
            go_ret2
            exact ⟨num_no (Oct.numOk_big s k most hlt HD.out hdg (by rw [← HV.out]; omega)), rfl⟩
          · clear hv1
            go_wp2_with (go_at_call 119; refine (digit_any _ _).mono ?_; rintro e w' ⟨rfl, rfl⟩)
            · have hx : most < (s[k].toNat : Int) - 48 ∨ (most - ((s[k].toNat : Int) - 48)) / 10 < v := by assumption
              go_ret2
              exact ⟨num_no (Oct.numOk_big s k most hlt HD.out hdg (by rw [← HV.out]; omega)), rfl⟩
            · have hx : (s[k].toNat : Int) - 48 ≤ most ∧ v ≤ (most - ((s[k].toNat : Int) - 48)) / 10 := by assumption
              go_round
              case rel => exact ⟨k + 1, v * 10 + ((s[k].toNat : Int) - 48), by omega, by go_num, rfl, by omega, by omega, by rw [Oct.take_snoc s k hlt, Oct.val_snoc, ← HV.out]; show _ = _; omega, Oct.allB_next _ s k hlt HD.out hdg⟩
              case measure => simp [intOf]; omega
      · have hv2 : v ≤ most := hv1 (by omega)
        clear hv1
        go_wp2
        go_ret2
        exact ⟨num_yes (Oct.numOk_end s most HE.out HZ.out (by rw [← Oct.take_all s k (by omega)]; exact HD.out) (by rw [← Oct.take_all s k (by omega), ← HV.out]; exact hv2)) (by rw [HV.out, Oct.take_all s k (by omega)]), rfl⟩

theorem number_any (s : ByteArray) (most : Int) (w : World) (hs : s.size ≤ maxLen) (hm0 : -9223372036854775808 ≤ most) (hm1 : most ≤ 9223372036854775807) :
    Calls Tryz.prog 96 #[.string s, .int .i64 most] w fun e w' => e = .returned (.tuple #[.int .i64 (Oct.numV s.data.toList most), .bool (Oct.numOk s.data.toList most)]) ∧ w = w' := by
  cases he : s.toList.isEmpty with
  | true =>
    have he' := empty_list he
    have HE := Lib.hid he
    clear he
    go_enter Tryz.func96, Tryz.ntmps96
    go_wp2
    go_ret2
    exact ⟨num_no (Oct.numOk_nil s most HE.out), rfl⟩
  | false =>
    have hp := empty_size he
    by_cases h1 : 1 < s.size
    · cases hz : ((s[0].toNat : Int) == 48) with
      | true =>
        have he' := empty_no he
        have h1' : (1 : Int) < (s.size : Int) := by omega
        go_enter Tryz.func96, Tryz.ntmps96
        go_wp2
        go_ret2
        exact ⟨num_no (Oct.numOk_zero s most h1 hz), rfl⟩
      | false => exact number_go s most w hs hm0 hm1 he hp (.inl ⟨h1, hz⟩)
    · exact number_go s most w hs hm0 hm1 he hp (.inr (by omega))
set_option maxHeartbeats 1000000 in
theorem rnumber_go (s : ByteArray) (most : Int) (w : World) (hs : s.size ≤ maxLen) (hm0 : 0 ≤ most) (hm1 : most ≤ 9223372036854775807) (he : s.toList.isEmpty = false) (hp : 0 < s.size)
    (hz : (1 < s.size ∧ ((s[0].toNat : Int) == 48) = false) ∨ s.size ≤ 1) :
    Calls Tryz.prog 35 #[.string s, .int .i64 most] w fun e w' => e = .returned (.tuple #[.int .i64 (Oct.numV s.data.toList most), .bool (Oct.numOk s.data.toList most)]) ∧ w = w' := by
  unfold maxLen at hs
  have he' := empty_no he
  have HE := Lib.hid he
  have HZ : Hid (1 < s.size → ((s[0]!.toNat : Int) == 48) = false) := by
    intro h
    rcases hz with ⟨_, hz⟩ | hz
    · have e : s[0]! = s[0] := by simp [hp]
      rw [e]; exact hz
    · omega
  have hz3 : (1 < s.size ∧ ((s[0].toNat : Int) == 48) = false) ∨ (s.size ≤ 1 ∧ ((s[0].toNat : Int) == 48) = false) ∨ (s.size ≤ 1 ∧ ((s[0].toNat : Int) == 48) = true) := by
    rcases hz with hz | hz
    · exact .inl hz
    · cases h : ((s[0].toNat : Int) == 48)
      · exact .inr (.inl ⟨hz, rfl⟩)
      · exact .inr (.inr ⟨hz, rfl⟩)
  clear hz
  rcases hz3 with ⟨h1, hz⟩ | ⟨h1, hz⟩ | ⟨h1, hz⟩
  all_goals
    first | have h1' : decide ((1 : Int) < (s.size : Int)) = true := (by simp; omega) | have h1' : decide ((1 : Int) < (s.size : Int)) = false := (by simp; omega)
    go_enter Tryz.func35, Tryz.ntmps35
    go_wp2
    clear h1' he he'
    go_loop [6, 7] (fun n i => ∃ k : Nat, ∃ v : Int, k ≤ s.size ∧ i = .int .i64 k ∧ n = .int .i64 v ∧ 0 ≤ v ∧ (0 < k → v ≤ most) ∧ Hid (v = Oct.val (s.data.toList.take k)) ∧ Hid (Oct.allB Oct.digitI (s.data.toList.take k) = true)) (fun _ i => s.size - (intOf i).toNat)
    case atStart => exact ⟨0, 0, Nat.zero_le _, rfl, rfl, by omega, by omega, rfl, rfl⟩
    case round =>
      obtain ⟨k, v, hk, rfl, rfl, hv0, hv1, HV, HD⟩ := hrel
      by_cases hlt : k < s.size
      · cases hdg : Oct.digitI s[k].toNat with
        | false =>
          clear hv1
          go_wp2_with (go_at_call 68; refine (rdigit_any _ _).mono ?_; rintro e w' ⟨rfl, rfl⟩)
          go_ret2
          exact ⟨num_no (Oct.numOk_miss s k most hlt hdg), rfl⟩
        | true =>
          obtain ⟨b1, b2⟩ := digit_bd _ hdg
          by_cases hd : most < (s[k].toNat : Int) - 48
          · clear hv1
            go_wp2_with (go_at_call 68; refine (rdigit_any _ _).mono ?_; rintro e w' ⟨rfl, rfl⟩)
            all_goals
              go_ret2
              exact ⟨num_no (Oct.numOk_big s k most hlt HD.out hdg (by rw [← HV.out]; omega)), rfl⟩
          · clear hv1
            by_cases hq : v ≤ (most - ((s[k].toNat : Int) - 48)) / 10
            · go_wp2_with (go_at_call 68; refine (rdigit_any _ _).mono ?_; rintro e w' ⟨rfl, rfl⟩)
              go_round
              case rel => exact ⟨k + 1, 10 * v + ((s[k].toNat : Int) - 48), by omega, by go_num, rfl, by omega, by omega, by rw [Oct.take_snoc s k hlt, Oct.val_snoc, ← HV.out]; rfl, Oct.allB_next _ s k hlt HD.out hdg⟩
              case measure => simp [intOf]; omega
            · go_wp2_with (go_at_call 68; refine (rdigit_any _ _).mono ?_; rintro e w' ⟨rfl, rfl⟩)
              go_ret2
              exact ⟨num_no (Oct.numOk_big s k most hlt HD.out hdg (by rw [← HV.out]; omega)), rfl⟩
      · have hv2 : v ≤ most := hv1 (by omega)
        clear hv1
        go_wp2
        go_ret2
        exact ⟨num_yes (Oct.numOk_end s most HE.out HZ.out (by rw [← Oct.take_all s k (by omega)]; exact HD.out) (by rw [← Oct.take_all s k (by omega), ← HV.out]; exact hv2)) (by rw [HV.out, Oct.take_all s k (by omega)]), rfl⟩

theorem rnumber_any (s : ByteArray) (most : Int) (w : World) (hs : s.size ≤ maxLen) (hm0 : -9223372036854775808 ≤ most) (hm1 : most ≤ 9223372036854775807) :
    Calls Tryz.prog 35 #[.string s, .int .i64 most] w fun e w' => e = .returned (.tuple #[.int .i64 (Oct.numV s.data.toList most), .bool (Oct.numOk s.data.toList most)]) ∧ w = w' := by
  cases he : s.toList.isEmpty with
  | true =>
    have he' := empty_list he
    have HE := Lib.hid he
    clear he
    go_enter Tryz.func35, Tryz.ntmps35
    go_wp2
    go_ret2
    exact ⟨num_no (Oct.numOk_nil s most HE.out), rfl⟩
  | false =>
    have hp := empty_size he
    by_cases hneg : most < 0
    · have he' := empty_no he
      go_enter Tryz.func35, Tryz.ntmps35
      go_wp2
      go_ret2
      exact ⟨num_no (Oct.numOk_neg s most hneg), rfl⟩
    by_cases h1 : 1 < s.size
    · cases hz : ((s[0].toNat : Int) == 48) with
      | true =>
        have he' := empty_no he
        have h1' : (1 : Int) < (s.size : Int) := by omega
        go_enter Tryz.func35, Tryz.ntmps35
        go_wp2
        go_ret2
        exact ⟨num_no (Oct.numOk_zero s most h1 hz), rfl⟩
      | false => exact rnumber_go s most w hs (by omega) hm1 he hp (.inl ⟨h1, hz⟩)
    · exact rnumber_go s most w hs (by omega) hm1 he hp (.inr (by omega))
end Go.Proofs.YtinjkpbpkedfnaaGreatDoor

/- A list of texts that a closure gathers in a variable of its own block: what it holds, and how it grows. -/

namespace Go.Proofs.YtinjkpbpkedfnaaGreatDoor
open Go.RowKit

theorem info_string : (Tryz.prog.info? 9).map (fun i => (i.zero, i.size, i.bytes)) = some (some (.string ⟨#[]⟩), 1, 16) := by kernel_rfl

/-- The one cell of block Bo holds a slice whose elements are xs, in a row behind Bo. -/
def Out (w : World) (Bo : Nat) (xs : List Value) : Prop := ∃ v, w.heap[Bo]? = some (.cells #[v] 34 (0, 0)) ∧ w.ownsRow (Bo + 1) 9 1 v xs.length xs

theorem Out.new (w : World) : Out (w.alloc (.cells #[.slice none 0 0] 34)) w.heap.size [] :=
  ⟨_, by show (w.heap.push _)[w.heap.size]? = _; simp, World.ownsRow_nil _ _ _ _⟩

theorem Out.step {w w1 : World} {Bo : Nat} {xs : List Value} {v v' : Value} {p : Value} {o : Obj} (hv : w.heap[Bo]? = some (.cells #[v] 34 (0, 0))) (hown : w.ownsRow (Bo + 1) 9 1 v xs.length xs)
    (hown' : w1.ownsRow (Bo + 1) 9 1 v' (xs.length + 1) (xs ++ [p])) (hg : (w.alloc o).grownBy w1 v.ownBlock) :
    w1.heap[Bo]? = some (.cells #[v] 34 (0, 0)) ∧ Out (w1.setCell ⟨Bo, 0, none⟩ v') Bo (xs ++ [p]) ∧ Below Bo w (w1.setCell ⟨Bo, 0, none⟩ v') := by
  have hlt := lt_of_block hv
  have hne : ∀ k, v.ownBlock = some k → Bo + 1 ≤ k := fun k hk => (hown.lt k hk).1
  have h1 : w1.heap[Bo]? = some (.cells #[v] 34 (0, 0)) := by
    rw [hg.block Bo (by simp; omega) (fun e => by have := hne _ e.symm; omega), Below.heap_alloc _ _ _ hlt]
    exact hv
  refine ⟨h1, ⟨v', one_setCell h1, ?_⟩, ?_⟩
  · rw [List.length_append]
    exact ownsRow_setCell_below hown' (by show Bo < Bo + 1; omega) _
  · exact ((((Below.refl Bo w).alloc (Nat.le_of_lt hlt) o).grown hg (by simp; omega) (fun k hk => by have := hne k hk; omega))).setCell (Nat.le_refl _) _

theorem owns_base {w : World} {base base' : Nat} {e : TypeId} {size : Nat} {v : Value} {n : Nat} {xs : List Value} (h : w.ownsRow base e size v n xs) (hb : base' ≤ base) : w.ownsRow base' e size v n xs := by
  obtain ⟨h1, h2 | ⟨g, cap, cur, a, b, c⟩⟩ := h
  · exact ⟨h1, .inl h2⟩
  · exact ⟨h1, .inr ⟨g, cap, cur, a, by omega, c⟩⟩
theorem slice_of_owns {w : World} {base : Nat} {e : TypeId} {v : Value} {n : Nat} {xs : List Value} (h : w.ownsRow base e 1 v (n + 1) xs) : ∃ g cap, v = .slice (some ⟨g, 0, none⟩) (n + 1) cap := by
  obtain ⟨_, h | ⟨g, cap, _, hv, _⟩⟩ := h
  · omega
  · exact ⟨g, cap, hv⟩

set_option maxHeartbeats 400000 in
theorem stake_any (p : ByteArray) (Bo : Nat) (xs : List Value) (w : World) (hO : Out w Bo xs) (hb : (xs.length + 1) * 16 ≤ 140737488355328) :
    Calls Tryz.prog 132 #[.string p, .pointer (some ⟨Bo, 0, none⟩)] w fun e w' => e = .returned (.tuple #[]) ∧ Out w' Bo (xs ++ [.string p]) ∧ Below Bo w w' := by
  obtain ⟨v, hv, hown⟩ := hO
  have hlt := lt_of_block hv
  have hc := cell_of_one hv
  have hf := free_of_one hv
  have HV := Lib.hid hv
  clear hv
  obtain ⟨i0, hi, hz0, hz1, hz2⟩ := info_parts info_string
  have HI := Lib.hid hi; have HZ0 := Lib.hid hz0; have HZ1 := Lib.hid hz1; have HZ2 := Lib.hid hz2
  clear hi hz0 hz1 hz2
  go_enter Tryz.func132, Tryz.ntmps132
  go_wp2_with (at_builtin; refine wpList_append_own _ rfl _ _ 34 rfl (Bo + 1) 9 i0 (.string ⟨#[]⟩) 1 16 Tryz.underlying34 HI.out HZ0.out HZ1.out HZ2.out rfl (by decide) _ _ _ rfl (hown.alloc _) ⟨w.heap.size, 0, none⟩ 1 1 [.string p] rfl rfl ?c1 ?c2 ?c3 ?c4 ?c5 ?_)
  case c1 =>
    intro j u hj
    match j, hj with
    | 0, hj => simp at hj; subst hj; simp [Addr.add]
  case c2 => intro u hu; simp at hu; subst hu; rfl
  case c3 => unfold maxLen; omega
  case c4 => exact hb
  case c5 => simp; omega
  · intro v' w1 hown' hgrow _
    obtain ⟨g, cap, rfl⟩ := slice_of_owns hown'
    obtain ⟨h1, h2, h3⟩ := Out.step HV.out hown hown' hgrow
    have hc1 := cell_of_one h1
    have hf1 := free_of_one h1
    clear hown' hgrow hown h1 hc hf
    go_wp2
    go_end0
    exact ⟨rfl, h2, h3⟩
end Go.Proofs.YtinjkpbpkedfnaaGreatDoor

/- The contracts of octet.Split. -/


namespace Go.Proofs.YtinjkpbpkedfnaaGreatDoor
open Go.RowKit

set_option maxHeartbeats 400000 in
theorem s1_any (c b : Int) (a : Addr) (w : World) (hc : w.cell? a = some (.int .u8 b)) : Calls Tryz.prog 130 #[.int .u8 c, .pointer (some a)] w fun e w' => e = .returned (.bool (c == b)) ∧ w = w' := by
  go_enter Tryz.func130, Tryz.ntmps130
  go_wp2_with fail
  go_ret
  exact ⟨rfl, rfl⟩

/-- What a round of cut, for Split, keeps: the separating byte's cell, the parts gathered, all below as it was. -/
structure SpInv (w wr : World) (Bo : Nat) (b : Int) (s : ByteArray) (k f : Nat) : Prop where
  cell : wr.cell? ⟨Bo - 1, 0, none⟩ = some (.int .u8 b)
  bel : Below (Bo - 1) w wr
  more : ∃ d c, Oct.st (fun x => x == b) (s.data.toList.take k) = (d, c) ∧ f + c.length = k ∧ Out wr Bo (d.map Oct.strV)

theorem SpInv.no {w wr : World} {Bo : Nat} {b : Int} {s : ByteArray} {k f : Nat} (h : SpInv w wr Bo b s k f) (hk : k < s.size) (hb : ((s[k].toNat : Int) == b) = false) : SpInv w wr Bo b s (k + 1) f := by
  obtain ⟨hc, hbel, d, c, h1, h2, h3⟩ := h
  refine ⟨hc, hbel, d, c ++ [s[k]], ?_, by simp; omega, h3⟩
  rw [Oct.take_snoc s k hk]
  exact Oct.st_no _ d c _ _ h1 hb
theorem SpInv.take {w wr : World} {Bo : Nat} {b : Int} {s : ByteArray} {k f : Nat} (h : SpInv w wr Bo b s k f) (hB : 0 < Bo) (hk : k ≤ s.size) (hs : s.size ≤ 8796093022206) :
    Calls Tryz.prog 132 #[.string (s.extract f k), .pointer (some ⟨Bo, 0, none⟩)] wr fun e w' => e = .returned (.tuple #[]) ∧ w'.cell? ⟨Bo - 1, 0, none⟩ = some (.int .u8 b) ∧ Below (Bo - 1) w w' ∧
      ∃ d c, Oct.st (fun x => x == b) (s.data.toList.take k) = (d, c) ∧ Out w' Bo ((d ++ [c]).map Oct.strV) := by
  obtain ⟨hc, hbel, d, c, h1, h2, h3⟩ := h
  have hl := Oct.st_len _ _ _ _ h1
  have hl2 : (s.data.toList.take k).length ≤ s.size := by simp; omega
  refine (stake_any _ Bo _ wr h3 (by simp; omega)).mono ?_
  rintro e w' ⟨rfl, hO, hb⟩
  refine ⟨rfl, ?_, hbel.trans (hb.mono (by omega)), d, c, h1, ?_⟩
  · rw [hb.cell (by show Bo - 1 < Bo; omega)]; exact hc
  · rw [Oct.st_extract _ s k f d c h1 hk h2] at hO
    simpa using hO

theorem SpInv.yes {w w' : World} {Bo : Nat} {b : Int} {s : ByteArray} {k : Nat} (hk : k < s.size) (hb : ((s[k].toNat : Int) == b) = true) (hc : w'.cell? ⟨Bo - 1, 0, none⟩ = some (.int .u8 b)) (hbel : Below (Bo - 1) w w')
    (hd : ∃ d c, Oct.st (fun x => x == b) (s.data.toList.take k) = (d, c) ∧ Out w' Bo ((d ++ [c]).map Oct.strV)) : SpInv w w' Bo b s (k + 1) (k + 1) := by
  obtain ⟨d, c, h1, h2⟩ := hd
  refine ⟨hc, hbel, d ++ [c], [], ?_, rfl, h2⟩
  rw [Oct.take_snoc s k hk]
  exact Oct.st_yes _ d c _ _ h1 hb
theorem split_end {w' : World} {Bo : Nat} {b : Int} {s : ByteArray} (hd : ∃ d c, Oct.st (fun x => x == b) (s.data.toList.take s.size) = (d, c) ∧ Out w' Bo ((d ++ [c]).map Oct.strV)) : Out w' Bo ((Oct.split (fun x => x == b) s.data.toList).map Oct.strV) := by
  obtain ⟨d, c, h1, h2⟩ := hd
  rw [Oct.take_all s s.size (Nat.le_refl _)] at h1
  rw [Oct.split_of _ _ _ _ h1]
  exact h2

set_option maxHeartbeats 1000000 in
theorem cutS_any (s : ByteArray) (b : Int) (Bo : Nat) (w : World) (hs : s.size ≤ 8796093022206) (hB : 0 < Bo) (hI : SpInv w w Bo b s 0 0) :
    Calls Tryz.prog 131 #[.string s, .func (.func 130) #[] #[.pointer (some ⟨Bo - 1, 0, none⟩)], .func (.func 132) #[] #[.pointer (some ⟨Bo, 0, none⟩)]] w fun e w' =>
      e = .returned (.tuple #[]) ∧ Below (Bo - 1) w w' ∧ Out w' Bo ((Oct.split (fun x => x == b) s.data.toList).map Oct.strV) := by
  go_enter Tryz.func131, Tryz.ntmps131
  go_wp2_with fail
  go_loopw [6, 10] (fun fr i wr => ∃ k f : Nat, k ≤ s.size ∧ f ≤ k ∧ i = .int .i64 k ∧ fr = .int .i64 f ∧ SpInv w wr Bo b s k f) (fun _ i _ => s.size - (intOf i).toNat)
  case atStart => exact ⟨0, 0, Nat.zero_le _, Nat.le_refl _, rfl, rfl, hI⟩
  case round =>
    obtain ⟨k, f, hk, hf, rfl, rfl, hin⟩ := hrel
    have hcell := hin.cell
    by_cases hlt : k < s.size
    · cases hb : ((s[k].toNat : Int) == b) with
      | true =>
        go_wp2_with (first
          | (go_at_call 130; refine (s1_any _ _ _ _ hcell).mono ?_; rintro e w' ⟨rfl, rfl⟩)
          | (go_at_call 132; refine (hin.take hB hk hs).mono ?_; rintro e w' ⟨rfl, hc2, hbel2, hd⟩))
        go_roundw
        case rel => exact ⟨k + 1, k + 1, by omega, by omega, by go_num, by go_num, SpInv.yes hlt hb hc2 hbel2 hd⟩
        case measure => simp [intOf]; omega
      | false =>
        go_wp2_with (first
          | (go_at_call 130; refine (s1_any _ _ _ _ hcell).mono ?_; rintro e w' ⟨rfl, rfl⟩))
        go_roundw
        case rel => exact ⟨k + 1, f, by omega, by omega, by go_num, rfl, hin.no hlt hb⟩
        case measure => simp [intOf]; omega
    · obtain rfl : k = s.size := by omega
      go_wp2_with (first
          | (go_at_call 132; refine (hin.take hB hk hs).mono ?_; rintro e w' ⟨rfl, hc2, hbel2, hd⟩))
      go_end0
      exact ⟨rfl, hbel2, split_end hd⟩

/-- A list of texts in memory of the call's own is answered. -/
def RetTexts (w : World) (ps : List (List UInt8)) (e : Ending) (w' : World) : Prop := ∃ v, e = .returned v ∧ Below w.heap.size w w' ∧ w'.ownsRow w.heap.size 9 1 v ps.length (ps.map Oct.strV)

set_option maxHeartbeats 1000000 in
theorem split_any (s : ByteArray) (b : Int) (w : World) (hs : s.size ≤ 8796093022206) : Calls Tryz.prog 112 #[.string s, .int .u8 b] w (RetTexts w (Oct.split (fun x => x == b) s.data.toList)) := by
  have hI : SpInv ((w.alloc (.cells #[.int .u8 b] 5)).alloc (.cells #[.slice none 0 0] 34)) ((w.alloc (.cells #[.int .u8 b] 5)).alloc (.cells #[.slice none 0 0] 34)) (w.heap.size + 1) b s 0 0 := by
    refine ⟨?_, Below.refl _ _, [], [], rfl, rfl, ?_⟩
    · rw [World.cell?_alloc_lt _ _ _ (by simp)]
      show (w.alloc _).cell? ⟨w.heap.size, 0, none⟩ = _
      rw [World.cell?_alloc_mark]; rfl
    · have := Out.new (w.alloc (.cells #[.int .u8 b] 5))
      simpa using this
  go_enter Tryz.func112, Tryz.ntmps112
  go_wp2_with fail
  refine (cutS_any s b (w.heap.size + 1) _ hs (by omega) hI).mono ?_
  rintro e w1 ⟨rfl, hbel, hO⟩
  obtain ⟨v, hv, hown⟩ := hO
  have hc := cell_of_one hv
  go_wp2_with fail
  go_ret
  refine ⟨v, rfl, ?_, ?_⟩
  · exact (((Below.refl _ w).alloc (Nat.le_refl _) _).alloc (by simp) _).trans hbel
  · rw [List.length_map] at hown
    exact owns_base hown (by omega)
end Go.Proofs.YtinjkpbpkedfnaaGreatDoor

/- The contract of the document's Texts: are two lists of texts the same? -/

namespace Go.Proofs.YtinjkpbpkedfnaaGreatDoor
open Go.RowKit

theorem owns_view {w : World} {base : Nat} {v : Value} {ps : List (List UInt8)} (h : w.ownsRow base 9 1 v ps.length (ps.map Oct.strV)) :
    (v = .slice none 0 0 ∧ ps = []) ∨ ∃ g cap, v = .slice (some ⟨g, 0, none⟩) ps.length cap ∧ ps.length ≤ maxLen ∧ g < w.heap.size ∧ base ≤ g ∧ ∀ i (h : i < ps.length), w.cell? ⟨g, i, none⟩ = some (Oct.strV ps[i]) := by
  have hc := h
  obtain ⟨_, ⟨h1, h2⟩ | ⟨g, cap, cur, rfl, hb, hg, h3, h4, h5, h6⟩⟩ := h
  · exact .inl ⟨h1, List.length_eq_zero_iff.1 h2⟩
  · refine .inr ⟨g, cap, rfl, by omega, lt_of_block hg, hb, fun i hi => ?_⟩
    have := World.ownsRow.cells hc (g := g) rfl i (Oct.strV ps[i]) (by simp [hi])
    rw [← this]; congr 1; simp [Addr.add]

theorem texts_miss {pa pb : List (List UInt8)} {k : Nat} {x y : List UInt8} (h1 : k < pa.length) (h2 : k < pb.length) (hx : pa[k] = x) (hy : pb[k] = y) (hne : (!x == y) = true) : false = (pa == pb) := by
  symm
  rw [beq_eq_false_iff_ne]
  rintro rfl
  rw [hx] at hy; subst hy
  simp at hne
theorem texts_next {pa pb : List (List UInt8)} {k : Nat} {x y : List UInt8} (h1 : k < pa.length) (h2 : k < pb.length) (hx : pa[k] = x) (hy : pb[k] = y) (hne : (!x == y) = false) (hin : pa.take k = pb.take k) : pa.take (k + 1) = pb.take (k + 1) := by
  have e : x = y := by simpa using hne
  rw [List.take_succ_eq_append_getElem h1, List.take_succ_eq_append_getElem h2, hx, hy, hin, e]
theorem texts_end {pa pb : List (List UInt8)} {k : Nat} (h1 : pa.length ≤ k) (hl : pa.length = pb.length) (hin : pa.take k = pb.take k) : true = (pa == pb) := by
  rw [List.take_of_length_le h1, List.take_of_length_le (by omega)] at hin
  symm; rw [beq_iff_eq]; exact hin
theorem texts_len {pa pb : List (List UInt8)} (hl : ¬ pa.length = pb.length) : false = (pa == pb) := by
  symm
  rw [beq_eq_false_iff_ne]
  rintro rfl
  exact hl rfl
theorem below_drewN' {B : Nat} {a w : World} (h : Below B a w) (n : Nat) : Below B a (w.drewN n) := h.trans ⟨rfl, rfl, rfl, Nat.le_refl _, fun _ _ => rfl⟩

end Go.Proofs.YtinjkpbpkedfnaaGreatDoor

/- The contracts of octet.Lower, Fold and of the document's answers. -/
namespace Go.Proofs.YtinjkpbpkedfnaaGreatDoor
open Go.RowKit

set_option maxHeartbeats 400000 in
theorem lower_core (s : ByteArray) (cap : Nat) (C : Array Value) (w : World) (hs : s.size ≤ maxLen)
    (hconv : (convert 9 78 (.string s)).run Tryz.prog w = .ok (.slice (some ⟨w.heap.size, 0, none⟩) s.size cap) (w.drew.alloc (.cells C 5 (C.size, C.size + 1))))
    (hB : Oct.BytesAt (w.alloc (.cells C 5 (C.size, C.size + 1))) w.heap.size s.data.toList) :
    Calls Tryz.prog 27 #[.string s] w fun e w' => e = .returned (.string ⟨(Oct.lower s.data.toList).toArray⟩) ∧ Below w.heap.size w w' := by
  unfold maxLen at hs
  go_enter Tryz.func27, Tryz.ntmps27
  go_wp2
  clear hconv
  go_loopw [9] (fun i wr => ∃ k : Nat, k ≤ s.size ∧ i = .int .i64 k ∧ Oct.BytesAt wr w.heap.size (Oct.lowTo s.data.toList k) ∧ Below w.heap.size w wr) (fun i _ => s.size - (intOf i).toNat)
  case atStart => exact ⟨0, Nat.zero_le _, rfl, by rw [Oct.lowTo_zero]; exact hB, ((Below.refl _ _).alloc (Nat.le_refl _) _).drew⟩
  case round =>
    obtain ⟨k, hk, rfl, hbs, hbel⟩ := hrel
    clear hB
    by_cases hlt : k < s.size
    · obtain ⟨hcell, hfro⟩ := hbs.look s k hlt
      have hb := s[k].toNat_lt
      by_cases h1 : 65 ≤ (s[k].toNat : Int)
      · by_cases h2 : (s[k].toNat : Int) ≤ 90
        · go_wp2
          go_roundw
          case rel => exact ⟨k + 1, by omega, by go_num, hbs.turn s k hlt h1 h2, hbel.setCell (Nat.le_refl _) _⟩
          case measure => simp [intOf]; omega
        · have hd : decide ((s[k].toNat : Int) ≤ 90) = false := by simpa using h2
          go_wp2
          go_roundw
          case rel => exact ⟨k + 1, by omega, by go_num, hbs.keep s k hlt (by omega), hbel⟩
          case measure => simp [intOf]; omega
      · have hd : decide (65 ≤ (s[k].toNat : Int)) = false := by simpa using h1
        go_wp2
        go_roundw
        case rel => exact ⟨k + 1, by omega, by go_num, hbs.keep s k hlt (by omega), hbel⟩
        case measure => simp [intOf]; omega
    · have hback := Oct.BytesAt.back (P := Tryz.prog) s k cap 78 9 5 hbs (by omega) Tryz.underlying78 Tryz.underlying5 Tryz.underlying9
      go_wp2
      go_ret
      exact ⟨rfl, hbel⟩

set_option maxHeartbeats 400000 in
theorem rlower_core (s : ByteArray) (cap : Nat) (C : Array Value) (w : World) (hs : s.size ≤ maxLen)
    (hconv : (convert 9 78 (.string s)).run Tryz.prog w = .ok (.slice (some ⟨w.heap.size, 0, none⟩) s.size cap) (w.drew.alloc (.cells C 5 (C.size, C.size + 1))))
    (hB : Oct.BytesAt (w.alloc (.cells C 5 (C.size, C.size + 1))) w.heap.size s.data.toList) :
    Calls Tryz.prog 31 #[.string s] w fun e w' => e = .returned (.string ⟨(Oct.lower s.data.toList).toArray⟩) ∧ Below w.heap.size w w' := by
  unfold maxLen at hs
  go_enter Tryz.func31, Tryz.ntmps31
  go_wp2
  clear hconv
  go_loopw [4] (fun i wr => ∃ k : Nat, k ≤ s.size ∧ i = .int .i64 k ∧ Oct.BytesAt wr w.heap.size (Oct.lowTo s.data.toList k) ∧ Below w.heap.size w wr) (fun i _ => s.size - (intOf i).toNat)
  case atStart => exact ⟨0, Nat.zero_le _, rfl, by rw [Oct.lowTo_zero]; exact hB, ((Below.refl _ _).alloc (Nat.le_refl _) _).drew⟩
  case round =>
    obtain ⟨k, hk, rfl, hbs, hbel⟩ := hrel
    clear hB
    by_cases hlt : k < s.size
    · obtain ⟨hcell, hfro⟩ := hbs.look s k hlt
      have hb := s[k].toNat_lt
      by_cases h1 : 65 ≤ (s[k].toNat : Int)
      · by_cases h2 : (s[k].toNat : Int) ≤ 90
        · go_wp2
          go_roundw
          case rel => exact ⟨k + 1, by omega, by go_num, hbs.turn s k hlt h1 h2, hbel.setCell (Nat.le_refl _) _⟩
          case measure => simp [intOf]; omega
        · have hd : decide ((s[k].toNat : Int) ≤ 90) = false := by simpa using h2
          go_wp2
          go_roundw
          case rel => exact ⟨k + 1, by omega, by go_num, hbs.keep s k hlt (by omega), hbel⟩
          case measure => simp [intOf]; omega
      · have hd : decide (65 ≤ (s[k].toNat : Int)) = false := by simpa using h1
        go_wp2
        go_roundw
        case rel => exact ⟨k + 1, by omega, by go_num, hbs.keep s k hlt (by omega), hbel⟩
        case measure => simp [intOf]; omega
    · have hback := Oct.BytesAt.back (P := Tryz.prog) s k cap 78 9 5 hbs (by omega) Tryz.underlying78 Tryz.underlying5 Tryz.underlying9
      go_wp2
      go_ret
      exact ⟨rfl, hbel⟩

theorem bytes_new (s : ByteArray) (w : World) (cap : Nat) : Oct.BytesAt (w.alloc (.cells (bytesRow s cap) 5 ((bytesRow s cap).size, (bytesRow s cap).size + 1))) w.heap.size s.data.toList :=
  Oct.BytesAt.new w _ _ _ (fun j hj => by
    have hj' : j < s.data.size := by simpa using hj
    simpa using bytesRow_at s cap j hj')
theorem lower_any (s : ByteArray) (w : World) (hs : s.size ≤ maxLen) : Calls Tryz.prog 27 #[.string s] w fun e w' => e = .returned (.string ⟨(Oct.lower s.data.toList).toArray⟩) ∧ Below w.heap.size w w' :=
  lower_core s _ _ w hs (run_bytes_of_string w 9 78 5 s Tryz.underlying9 Tryz.underlying78 Tryz.underlying5) (bytes_new s w _)
theorem rlower_any (s : ByteArray) (w : World) (hs : s.size ≤ maxLen) : Calls Tryz.prog 31 #[.string s] w fun e w' => e = .returned (.string ⟨(Oct.lower s.data.toList).toArray⟩) ∧ Below w.heap.size w w' :=
  rlower_core s _ _ w hs (run_bytes_of_string w 9 78 5 s Tryz.underlying9 Tryz.underlying78 Tryz.underlying5) (bytes_new s w _)

end Go.Proofs.YtinjkpbpkedfnaaGreatDoor

/- The contract of octet.Words. -/

namespace Go.Proofs.YtinjkpbpkedfnaaGreatDoor
open Go.RowKit

def nonE (x : List UInt8) : Bool := !x.isEmpty

/-- What a round of cut, for Words, keeps. -/
structure WdInv (w wr : World) (Bo : Nat) (s : ByteArray) (k f : Nat) : Prop where
  bel : Below Bo w wr
  more : ∃ d c, Oct.st Oct.blankI (s.data.toList.take k) = (d, c) ∧ f + c.length = k ∧ Out wr Bo ((d.filter nonE).map Oct.strV)

theorem WdInv.no {w wr : World} {Bo : Nat} {s : ByteArray} {k f : Nat} (h : WdInv w wr Bo s k f) (hk : k < s.size) (hb : Oct.blankI s[k].toNat = false) : WdInv w wr Bo s (k + 1) f := by
  obtain ⟨hbel, d, c, h1, h2, h3⟩ := h
  refine ⟨hbel, d, c ++ [s[k]], ?_, by simp; omega, h3⟩
  rw [Oct.take_snoc s k hk]
  exact Oct.st_no _ d c _ _ h1 hb
theorem WdInv.yes {w w' : World} {Bo : Nat} {s : ByteArray} {k : Nat} (hk : k < s.size) (hb : Oct.blankI s[k].toNat = true) (hbel : Below Bo w w')
    (hd : ∃ d c, Oct.st Oct.blankI (s.data.toList.take k) = (d, c) ∧ Out w' Bo (((d ++ [c]).filter nonE).map Oct.strV)) : WdInv w w' Bo s (k + 1) (k + 1) := by
  obtain ⟨d, c, h1, h2⟩ := hd
  refine ⟨hbel, d ++ [c], [], ?_, rfl, h2⟩
  rw [Oct.take_snoc s k hk]
  exact Oct.st_yes _ d c _ _ h1 hb
theorem words_end {w' : World} {Bo : Nat} {s : ByteArray} (hd : ∃ d c, Oct.st Oct.blankI (s.data.toList.take s.size) = (d, c) ∧ Out w' Bo (((d ++ [c]).filter nonE).map Oct.strV)) : Out w' Bo ((Oct.words s.data.toList).map Oct.strV) := by
  obtain ⟨d, c, h1, h2⟩ := hd
  rw [Oct.take_all s s.size (Nat.le_refl _)] at h1
  unfold Oct.words
  rw [Oct.split_of _ _ _ _ h1]
  exact h2

end Go.Proofs.YtinjkpbpkedfnaaGreatDoor

/- The contract of the document's Split. -/

namespace Go.Proofs.YtinjkpbpkedfnaaGreatDoor
open Go.RowKit

/-- What a round keeps: the parts gathered so far. -/
structure RsInv (w wr : World) (p : Int → Bool) (s : ByteArray) (k f : Nat) (v : Value) : Prop where
  bel : Below w.heap.size w wr
  more : ∃ d c, Oct.st p (s.data.toList.take k) = (d, c) ∧ f + c.length = k ∧ wr.ownsRow w.heap.size 9 1 v d.length (d.map Oct.strV)
theorem RsInv.no {w wr : World} {p : Int → Bool} {s : ByteArray} {k f : Nat} {v : Value} (h : RsInv w wr p s k f v) (hk : k < s.size) (hb : p s[k].toNat = false) : RsInv w wr p s (k + 1) f v := by
  obtain ⟨hbel, d, c, h1, h2, h3⟩ := h
  refine ⟨hbel, d, c ++ [s[k]], ?_, by simp; omega, h3⟩
  rw [Oct.take_snoc s k hk]
  exact Oct.st_no _ d c _ _ h1 hb
/-- One part more has been laid behind. -/
def RsDone (w w1 : World) (p : Int → Bool) (s : ByteArray) (k : Nat) (v' : Value) : Prop :=
  Below w.heap.size w w1 ∧ ∃ d c, Oct.st p (s.data.toList.take k) = (d, c) ∧ w1.ownsRow w.heap.size 9 1 v' (d.length + 1) (d.map Oct.strV ++ [Oct.strV c])
theorem RsDone.yes {w w' : World} {p : Int → Bool} {s : ByteArray} {k : Nat} {v : Value} (h : RsDone w w' p s k v) (hk : k < s.size) (hb : p s[k].toNat = true) : RsInv w w' p s (k + 1) (k + 1) v := by
  obtain ⟨hbel, d, c, h1, h2⟩ := h
  refine ⟨hbel, d ++ [c], [], ?_, rfl, by simpa using h2⟩
  rw [Oct.take_snoc s k hk]
  exact Oct.st_yes _ d c _ _ h1 hb
theorem RsDone.fin {w w' : World} {p : Int → Bool} {s : ByteArray} {v : Value} (h : RsDone w w' p s s.size v) : Below w.heap.size w w' ∧ w'.ownsRow w.heap.size 9 1 v (Oct.split p s.data.toList).length ((Oct.split p s.data.toList).map Oct.strV) := by
  obtain ⟨hbel, d, c, h1, h2⟩ := h
  rw [Oct.take_all s s.size (Nat.le_refl _)] at h1
  rw [Oct.split_of _ _ _ _ h1]
  exact ⟨hbel, by simpa using h2⟩

theorem rs_done {w wr w1 : World} {p : Int → Bool} {s : ByteArray} {k : Nat} {v v' x : Value} {o : Obj} {d : List (List UInt8)} {c : List UInt8} (hbel : Below w.heap.size w wr) (hsz : w.heap.size ≤ wr.heap.size) (h1 : Oct.st p (s.data.toList.take k) = (d, c))
    (hown : wr.ownsRow w.heap.size 9 1 v d.length (d.map Oct.strV)) (hx : x = Oct.strV c) (hown' : w1.ownsRow w.heap.size 9 1 v' (d.length + 1) (d.map Oct.strV ++ [x])) (hg : (wr.alloc o).grownBy w1 v.ownBlock) : RsDone w w1 p s k v' := by
  refine ⟨(hbel.alloc hsz o).grown hg (by simp; omega) (fun k hk => (hown.lt k hk).1), d, c, h1, ?_⟩
  rw [← hx]; exact hown'

set_option maxHeartbeats 1000000 in
set_option maxRecDepth 100000 in
theorem rsplit_any (s : ByteArray) (b : Int) (w : World) (hs : s.size ≤ 8796093022206) : Calls Tryz.prog 99 #[.string s, .int .u8 b] w (RetTexts w (Oct.split (fun x => x == b) s.data.toList)) := by
  obtain ⟨i0, hi, hz0, hz1, hz2⟩ := info_parts info_string
  have HI := Lib.hid hi; have HZ0 := Lib.hid hz0; have HZ1 := Lib.hid hz1; have HZ2 := Lib.hid hz2
  clear hi hz0 hz1 hz2
  go_enter Tryz.func99, Tryz.ntmps99
  go_wp2_with fail
  go_loopw [5, 6, 7] (fun v fr i wr => ∃ k f : Nat, k ≤ s.size + 1 ∧ f ≤ k ∧ i = .int .i64 k ∧ fr = .int .i64 f ∧ ((k ≤ s.size ∧ RsInv w wr (fun x => x == b) s k f v) ∨ (k = s.size + 1 ∧ RsDone w wr (fun x => x == b) s s.size v))) (fun _ _ i _ => s.size + 1 - (intOf i).toNat)
  case atStart => exact ⟨0, 0, by omega, by omega, rfl, rfl, .inl ⟨by omega, Below.refl _ _, [], [], rfl, rfl, World.ownsRow_nil _ _ _ _⟩⟩
  case round =>
    obtain ⟨k, f, hk, hf, rfl, rfl, hin⟩ := hrel
    rcases hin with ⟨hk2, hin⟩ | ⟨hk2, hdone⟩
    · rcases Nat.lt_or_ge k s.size with hlt | hge
      · have hne : ((k : Int) == (s.size : Int)) = false := by rw [beq_eq_false_iff_ne]; omega
        cases hb : ((s[k].toNat : Int) == b) with
        | false =>
          go_wp2_with fail
          go_roundw
          case rel => exact ⟨k + 1, f, by omega, by omega, by go_num, rfl, .inl ⟨by omega, hin.no hlt hb⟩⟩
          case measure => simp [intOf]; omega
        | true =>
          obtain ⟨hbel, d, c, h1, h2, hown⟩ := hin
          have hx := Lib.hid (Oct.st_extract _ s k f d c h1 hk2 h2)
          have hl := Oct.st_len _ _ _ _ h1
          have hl2 : (s.data.toList.take k).length ≤ s.size := by simp; omega
          have hsz := hbel.size
          have H1 := Lib.hid h1; have H2 := Lib.hid h2
          clear h1 h2
          go_wp2_with (at_builtin; refine wpList_append_own _ rfl _ _ 34 rfl w.heap.size 9 i0 (.string ⟨#[]⟩) 1 16 Tryz.underlying34 HI.out HZ0.out HZ1.out HZ2.out rfl (by decide) _ _ _ rfl (hown.alloc _) ⟨wr.heap.size, 0, none⟩ 1 1 [.string (s.extract f k)] rfl rfl ?c1 ?c2 ?c3 ?c4 ?c5 ?_)
          case c1 =>
            intro j u hj
            match j, hj with
            | 0, hj => simp at hj; subst hj; simp [Addr.add]
          case c2 => intro u hu; simp at hu; subst hu; rfl
          case c3 => unfold maxLen; omega
          case c4 => omega
          case c5 => simp; omega
          · intro v' w1 hown' hgrow _
            have hD : RsDone w w1 (fun x => x == b) s k v' := rs_done hbel hsz H1.out hown hx.out hown' hgrow
            clear hown' hgrow hown hbel
            go_wp2_with fail
            go_roundw
            case rel => exact ⟨k + 1, k + 1, by omega, by omega, by go_num, by go_num, .inl ⟨by omega, hD.yes hlt hb⟩⟩
            case measure => simp [intOf]; omega
      · obtain rfl : k = s.size := by omega
        obtain ⟨hbel, d, c, h1, h2, hown⟩ := hin
        have hx := Lib.hid (Oct.st_extract _ s s.size f d c h1 hk2 h2)
        have hl := Oct.st_len _ _ _ _ h1
        have hl2 : (s.data.toList.take s.size).length ≤ s.size := by simp
        have hsz := hbel.size
        have H1 := Lib.hid h1; have H2 := Lib.hid h2
        clear h1 h2
        go_wp2_with (at_builtin; refine wpList_append_own _ rfl _ _ 34 rfl w.heap.size 9 i0 (.string ⟨#[]⟩) 1 16 Tryz.underlying34 HI.out HZ0.out HZ1.out HZ2.out rfl (by decide) _ _ _ rfl (hown.alloc _) ⟨wr.heap.size, 0, none⟩ 1 1 [.string (s.extract f s.size)] rfl rfl ?e1 ?e2 ?e3 ?e4 ?e5 ?_)
        case e1 =>
          intro j u hj
          match j, hj with
          | 0, hj => simp at hj; subst hj; simp [Addr.add]
        case e2 => intro u hu; simp at hu; subst hu; rfl
        case e3 => unfold maxLen; omega
        case e4 => omega
        case e5 => simp; omega
        · intro v' w1 hown' hgrow _
          have hD : RsDone w w1 (fun x => x == b) s s.size v' := rs_done hbel hsz H1.out hown hx.out hown' hgrow
          clear hown' hgrow hown hbel
          go_wp2_with fail
          go_roundw
          case rel => exact ⟨s.size + 1, s.size + 1, by omega, by omega, by go_num, by go_num, .inr ⟨rfl, hD⟩⟩
          case measure => simp [intOf]
    · go_wp2_with fail
      go_ret
      exact ⟨_, rfl, hdone.fin.1, hdone.fin.2⟩
end Go.Proofs.YtinjkpbpkedfnaaGreatDoor

/- Words have no blanks; there are none just where a trimmed text is empty. No program is named here. -/

namespace Go.Proofs.YtinjkpbpkedfnaaGreatDoor
namespace Oct

theorem word_of (l x : List UInt8) (h : x ∈ words l) : x ≠ [] ∧ ∀ b ∈ x, blankI b.toNat = false := by
  unfold words at h
  obtain ⟨h1, h2⟩ := List.mem_filter.1 h
  refine ⟨?_, split_none blankI l x h1⟩
  intro e; subst e; simp at h2
theorem dw_none (p : UInt8 → Bool) (l : List UInt8) (h : ∀ b ∈ l, p b = false) : l.dropWhile p = l := by
  cases l with
  | nil => rfl
  | cons a r => rw [List.dropWhile_cons_of_neg (by simp [h a (by simp)])]
theorem trim_none (l : List UInt8) (h : ∀ b ∈ l, blankI b.toNat = false) : trim l = l := by
  unfold trim
  rw [dw_none _ l h, dw_none _ l.reverse (fun b hb => h b (by simpa using hb)), List.reverse_reverse]
theorem st_plain (p : Int → Bool) : ∀ (l : List UInt8) (x : List (List UInt8) × List UInt8), (∀ b ∈ l, p b.toNat = false) → l.foldl (stp p) x = (x.1, x.2 ++ l)
  | [], x, _ => by simp
  | b :: l, x, h => by
    rw [List.foldl_cons, st_plain p l _ (fun c hc => h c (by simp [hc])), stp, if_neg (by simp [h b (by simp)])]
    simp
theorem words_one (l : List UInt8) (h0 : l ≠ []) (h : ∀ b ∈ l, blankI b.toNat = false) : words l = [l] := by
  have e : st blankI l = ([], l) := by
    have := st_plain blankI l ([], []) h
    rw [List.nil_append] at this
    exact this
  unfold words
  rw [split_of _ _ _ _ e]
  have : l.isEmpty = false := by simpa using h0
  simp [this]
theorem dw_nil (p : UInt8 → Bool) : ∀ l : List UInt8, l.dropWhile p = [] → ∀ x ∈ l, p x = true
  | [], _, x, hx => by simp at hx
  | a :: l, h, x, hx => by
    by_cases ha : p a = true
    · rw [List.dropWhile_cons_of_pos ha] at h
      rcases List.mem_cons.1 hx with hx | hx
      · rw [hx]; exact ha
      · exact dw_nil p l h x hx
    · rw [List.dropWhile_cons_of_neg ha] at h
      cases h
theorem trim_nil (l : List UInt8) : trim l = [] ↔ ∀ b ∈ l, blankI b.toNat = true := by
  unfold trim
  rw [List.reverse_eq_nil_iff]
  constructor
  · intro h
    have h1 := dw_nil _ _ h
    cases ha : (l.dropWhile fun b => blankI b.toNat) with
    | nil => exact dw_nil _ _ ha
    | cons a r =>
      exfalso
      have h2 := h1 a (by rw [ha]; simp)
      have h3 := dw_idem (fun b : UInt8 => blankI b.toNat) l
      rw [ha, List.dropWhile_cons_of_pos (p := fun b : UInt8 => blankI b.toNat) h2] at h3
      have h4 := congrArg List.length h3
      have h5 := (List.dropWhile_suffix (p := fun b : UInt8 => blankI b.toNat) (l := r)).length_le
      simp only [List.length_cons] at h4
      omega
  · intro h
    have e : (l.dropWhile fun b => blankI b.toNat) = [] := by
      have := List.dropWhile_append_of_pos (l₁ := l) (l₂ := []) (p := fun b : UInt8 => blankI b.toNat) h
      simpa using this
    rw [e]; rfl
theorem words_st (l : List UInt8) : ((st blankI l).1.filter (fun x => !x.isEmpty) = [] ∧ (st blankI l).2 = []) ↔ ∀ b ∈ l, blankI b.toNat = true := by
  induction hn : l.length generalizing l with
  | zero =>
    have : l = [] := List.length_eq_zero_iff.1 hn
    subst this; simp [st]
  | succ n ih =>
    obtain ⟨r, b, rfl⟩ : ∃ r b, l = r ++ [b] := by
      have : l ≠ [] := by intro h; subst h; simp at hn
      exact ⟨l.dropLast, l.getLast this, (List.dropLast_concat_getLast this).symm⟩
    have ihr := ih r (by simpa using hn)
    cases hb : blankI b.toNat with
    | true =>
      rw [st_yes blankI (st blankI r).1 (st blankI r).2 r b rfl hb]
      constructor
      · rintro ⟨h1, _⟩ x hx
        rw [List.filter_append] at h1
        obtain ⟨h2, h3⟩ := List.append_eq_nil_iff.1 h1
        have h4 : (st blankI r).2 = [] := by
          cases hc : (st blankI r).2 with
          | nil => rfl
          | cons a t => rw [hc] at h3; simp at h3
        rcases List.mem_append.1 hx with hx | hx
        · exact ihr.1 ⟨h2, h4⟩ x hx
        · have : x = b := by simpa using hx
          rw [this]; exact hb
      · intro h
        obtain ⟨h2, h4⟩ := ihr.2 (fun x hx => h x (by simp [hx]))
        refine ⟨?_, rfl⟩
        rw [List.filter_append, h2, h4]; rfl
    | false =>
      rw [st_no blankI (st blankI r).1 (st blankI r).2 r b rfl hb]
      constructor
      · rintro ⟨_, h2⟩; simp at h2
      · intro h
        have := h b (by simp)
        rw [this] at hb; cases hb
theorem words_nil (l : List UInt8) : ((words l).length == 0) = (trim l).isEmpty := by
  rw [Bool.eq_iff_iff, beq_iff_eq, List.length_eq_zero_iff, List.isEmpty_iff, trim_nil, ← words_st]
  unfold words split
  rw [List.filter_append, List.append_eq_nil_iff]
  constructor
  · rintro ⟨h1, h2⟩
    refine ⟨h1, ?_⟩
    cases hc : (st blankI l).2 with
    | nil => rfl
    | cons a t => rw [hc] at h2; simp at h2
  · rintro ⟨h1, h2⟩
    refine ⟨h1, ?_⟩
    rw [h2]; rfl
theorem st_each (p : Int → Bool) : ∀ (l : List UInt8) (x : List (List UInt8) × List UInt8) (n : Nat), (∀ q ∈ x.1 ++ [x.2], q.length ≤ n) → ∀ q ∈ (l.foldl (stp p) x).1 ++ [(l.foldl (stp p) x).2], q.length ≤ n + l.length
  | [], x, n, h => by simpa using h
  | a :: l, x, n, h => by
    rw [List.foldl_cons, List.length_cons, show n + (l.length + 1) = (n + 1) + l.length by omega]
    refine st_each p l (stp p x a) (n + 1) ?_
    intro q hq
    unfold stp at hq
    split at hq
    · simp only [List.mem_append, List.mem_singleton] at hq
      rcases hq with (hq | hq) | hq
      · have := h q (by simp [hq]); omega
      · have := h q (by simp [hq]); omega
      · subst hq; simp
    · simp only [List.mem_append, List.mem_singleton] at hq
      rcases hq with hq | hq
      · have := h q (by simp [hq]); omega
      · have := h x.2 (by simp)
        subst hq; simp; exact this
theorem word_len (l x : List UInt8) (h : x ∈ words l) : x.length ≤ l.length := by
  unfold words at h
  obtain ⟨h1, _⟩ := List.mem_filter.1 h
  have := st_each blankI l ([], []) 0 (by simp) x h1
  simpa using this
end Oct
end Go.Proofs.YtinjkpbpkedfnaaGreatDoor
