/- The contracts of headers.partEnd and appendParts. -/
import Derived.Test.YtcmbckacbdiebaaHdSeen
import Derived.Test.YtcmbckacbdiebaaOctText
import Derived.Test.YtcmbckacbdiebaaOctOut
import Derived.RangeFuncBox
import Derived.Maps.AppendAt
namespace Go.Proofs.Ytcmbckacbdiebaa
open Go.RowKit

namespace Hd
/-- Where the first part ends. -/
def endF : Bool → Bool → List UInt8 → Nat
  | _, _, [] => 0
  | o, e, c :: r =>
    if e then 1 + endF o false r
    else if c == 34 then 1 + endF (!o) false r
    else if o && c == 92 then 1 + endF o true r
    else if !o && c == 44 then 0
    else 1 + endF o false r
theorem endF_le : ∀ (r : List UInt8) (o e : Bool), endF o e r ≤ r.length
  | [], _, _ => by simp [endF]
  | c :: r, o, e => by
    have h1 := endF_le r o false; have h2 := endF_le r (!o) false; have h3 := endF_le r o true
    rw [endF, List.length_cons]
    repeat' split
    all_goals omega
/-- The parts by where the first one ends. -/
theorem partsF_end : ∀ (r : List UInt8) (o e : Bool) (acc : List UInt8), partsF o e acc r = Oct.trim (acc ++ r.take (endF o e r)) :: (if endF o e r = r.length then [] else parts (r.drop (endF o e r + 1)))
  | [], o, e, acc => by simp [partsF, endF]
  | c :: r, o, e, acc => by
    rw [partsF, endF]
    split
    · rw [partsF_end r]; simp [Nat.add_comm 1]
    split
    · rw [partsF_end r]; simp [Nat.add_comm 1]
    split
    · rw [partsF_end r]; simp [Nat.add_comm 1]
    split
    · rename_i h
      have ho : o = false := by rw [Bool.and_eq_true] at h; simpa using h.1
      subst ho
      simp [parts]
    · rw [partsF_end r]; simp [Nat.add_comm 1]
theorem parts_first (s : List UInt8) : parts s = Oct.trim (s.take (endF false false s)) :: (if endF false false s = s.length then [] else parts (s.drop (endF false false s + 1))) := by
  have := partsF_end s false false []
  simpa [parts] using this
section
variable {o : Bool} {r : List UInt8} {c : UInt8}
theorem end_quote : endF o false (34 :: r) = 1 + endF (!o) false r := by rw [endF, if_neg (by decide), if_pos (by decide)]
theorem end_back : endF true false (92 :: r) = 1 + endF true true r := by rw [endF, if_neg (by decide), if_neg (by decide), if_pos (by decide)]
theorem end_esc : endF o true (c :: r) = 1 + endF o false r := by rw [endF, if_pos rfl]
theorem end_comma : endF false false (44 :: r) = 0 := by rw [endF, if_neg (by decide), if_neg (by decide), if_neg (by decide), if_pos (by decide)]
theorem end_open (h1 : c ≠ 34) (h2 : c ≠ 92) : endF true false (c :: r) = 1 + endF true false r := by
  rw [endF, if_neg (by decide), if_neg (by simpa using h1), if_neg (by simpa using h2), if_neg (by simp)]
theorem end_shut (h1 : c ≠ 34) (h2 : c ≠ 44) : endF false false (c :: r) = 1 + endF false false r := by
  rw [endF, if_neg (by decide), if_neg (by simpa using h1), if_neg (by simp), if_neg (by simpa using h2)]
end
/-- How far the scan has come: k bytes, or one more than there are. -/
structure EndI (s : List UInt8) (k : Nat) (o : Bool) : Prop where
  le : k ≤ s.length + 1
  is : min k s.length + endF o false (s.drop k) = endF false false s
theorem EndI.zero (s : List UInt8) : EndI s 0 false := ⟨by omega, by simp⟩
theorem EndI.over {s : List UInt8} {k : Nat} {o : Bool} (h : EndI s k o) (hk : s.length ≤ k) : endF false false s = min k s.length := by
  have := h.is
  rw [List.drop_eq_nil_of_le hk, endF] at this; omega
variable {s : List UInt8} {k : Nat} {o : Bool}
theorem drop_at (hk : k < s.length) : s.drop k = s[k] :: s.drop (k + 1) := List.drop_eq_getElem_cons hk
theorem EndI.quote (h : EndI s k o) (hk : k < s.length) (hc : s[k] = 34) : EndI s (k + 1) (!o) := by
  refine ⟨by omega, ?_⟩
  have := h.is
  rw [drop_at hk, hc, end_quote] at this; omega
theorem EndI.comma (h : EndI s k false) (hk : k < s.length) (hc : s[k] = 44) : endF false false s = k := by
  have := h.is
  rw [drop_at hk, hc, end_comma] at this; omega
theorem EndI.back (h : EndI s k true) (hk : k < s.length) (hc : s[k] = 92) : EndI s (k + 2) true := by
  refine ⟨by omega, ?_⟩
  have := h.is
  rw [drop_at hk, hc, end_back] at this
  by_cases hk2 : k + 1 < s.length
  · rw [drop_at hk2, end_esc, show k + 1 + 1 = k + 2 from rfl] at this; omega
  · rw [List.drop_eq_nil_of_le (by omega), endF] at this
    rw [List.drop_eq_nil_of_le (by omega), endF]; omega
theorem EndI.open (h : EndI s k true) (hk : k < s.length) (h1 : s[k] ≠ 34) (h2 : s[k] ≠ 92) : EndI s (k + 1) true := by
  refine ⟨by omega, ?_⟩
  have := h.is
  rw [drop_at hk, end_open h1 h2] at this; omega
theorem EndI.shut (h : EndI s k false) (hk : k < s.length) (h1 : s[k] ≠ 34) (h2 : s[k] ≠ 44) : EndI s (k + 1) false := by
  refine ⟨by omega, ?_⟩
  have := h.is
  rw [drop_at hk, end_shut h1 h2] at this; omega
end Hd

theorem ne_byte7 {c : UInt8} {k : Int} (h : ((c.toNat : Int) == k) = false) (m : UInt8) (hm : (m.toNat : Int) = k) : c ≠ m := by
  rintro rfl
  rw [hm] at h; simp at h
theorem eq_byte {c : UInt8} {k : Int} (h : ((c.toNat : Int) == k) = true) (m : UInt8) (hm : (m.toNat : Int) = k) : c = m := by
  have := beq_iff_eq.1 h
  exact UInt8.toNat_inj.1 (by omega)
/-- Whatever lies below, and whatever is no cells, stays. -/
def RetRow (base : Nat) (w : World) (ps : List (List UInt8)) (e : Ending) (w' : World) : Prop := ∃ v, e = .returned v ∧ w'.ownsRow base 9 1 v ps.length (ps.map Oct.strV) ∧ Below base w w' ∧ KeepsOthers w w'
theorem row_step {w1 w3 : World} {base : Nat} {v : Value} {n : Nat} {xs : List Value} {o : Obj} (hr : w1.ownsRow base 9 1 v n xs) (hb : base ≤ w1.heap.size) (hg : (w1.alloc o).grownBy w3 v.ownBlock) : Below base w1 w3 ∧ KeepsOthers w1 w3 := by
  refine ⟨((Below.refl base w1).alloc hb o).grown hg (by simp; omega) (fun k hk => (hr.lt k hk).1), (KeepsOthers.alloc w1 o).trans (KeepsOthers.of_grownBy hg fun j o' ej hj => ?_)⟩
  rcases (hr.alloc o).2 with ⟨rfl, _⟩ | ⟨g, cap, cur, rfl, _, hgb, _⟩
  · simp [Value.ownBlock] at ej
  · obtain rfl : g = j := by simpa [Value.ownBlock] using ej
    rw [hgb] at hj; cases hj; rfl
def strLen : Value → Nat
  | .string s => s.size
  | _ => 0
end Go.Proofs.Ytcmbckacbdiebaa
