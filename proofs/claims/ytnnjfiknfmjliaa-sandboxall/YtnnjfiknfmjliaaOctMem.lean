/- Bytes in a block of one's own, and text made small in place: laws of worlds and lists; no function of the program is walked here. -/
import Derived.Test.YtnnjfiknfmjliaaOctMath
import Derived.Laws.IdiomStrings
import Derived.Below
namespace Go.Proofs.Ytnnjfiknfmjliaa
open Go.RowKit
namespace Oct

def low1 (c : UInt8) : UInt8 := if 65 ≤ c.toNat ∧ c.toNat ≤ 90 then c + 32 else c
def lower (l : List UInt8) : List UInt8 := l.map low1
def lowTo (l : List UInt8) (k : Nat) : List UInt8 := (l.take k).map low1 ++ l.drop k
theorem lowTo_length (l : List UInt8) (k : Nat) : (lowTo l k).length = l.length := by simp [lowTo]; omega
theorem lowTo_zero (l : List UInt8) : lowTo l 0 = l := by simp [lowTo]
theorem lowTo_all (l : List UInt8) (k : Nat) (h : l.length ≤ k) : lowTo l k = lower l := by
  simp [lowTo, lower, List.take_of_length_le h, List.drop_of_length_le h]
theorem lowTo_at (l : List UInt8) (k : Nat) (h : k < l.length) : (lowTo l k)[k]'(by rw [lowTo_length]; exact h) = l[k] := by
  simp [lowTo, show min k l.length = k by omega]
theorem lowTo_succ (l : List UInt8) (k : Nat) (h : k < l.length) : lowTo l (k + 1) = (lowTo l k).set k (low1 l[k]) := by
  unfold lowTo
  rw [List.take_succ_eq_append_getElem h, List.map_append, List.append_assoc, List.set_append_right _ _ (by simp; omega)]
  congr 1
  rw [List.drop_eq_getElem_cons h, show k - ((l.take k).map low1).length = 0 by simp; omega]
  rfl
theorem lowTo_same (l : List UInt8) (k : Nat) (h : k < l.length) (hc : low1 l[k] = l[k]) : lowTo l (k + 1) = lowTo l k := by
  rw [lowTo_succ l k h, hc]
  have := lowTo_at l k h
  rw [← this]; simp

/-- The block b holds the bytes l, and they may be written. -/
def BytesAt (w : World) (b : Nat) (l : List UInt8) : Prop := ∀ j (h : j < l.length), w.cell? ⟨b, j, none⟩ = some (.int .u8 (l[j].toNat : Int)) ∧ w.frozen? ⟨b, j, none⟩ = false
theorem BytesAt.set {w : World} {b : Nat} {l : List UInt8} (h : BytesAt w b l) (k : Nat) (hk : k < l.length) (c : UInt8) (v : Int) (hv : v = (c.toNat : Int)) : BytesAt (w.setCell ⟨b, k, none⟩ (.int .u8 v)) b (l.set k c) := by
  intro j hj
  have hj' : j < l.length := by simpa using hj
  have h0 := h j hj'
  have hk0 := h k hk
  subst hv
  by_cases e : k = j
  · subst e
    exact ⟨by rw [World.cell?_setCell_same _ _ _ hk0.1]; simp, by rw [World.frozen?_setCell]; exact h0.2⟩
  · have hne : (⟨b, k, none⟩ : Addr) ≠ ⟨b, j, none⟩ := by intro h; injection h with _ h; exact e h
    exact ⟨by rw [World.cell?_setCell_other _ _ _ _ hne, h0.1]; simp [e], by rw [World.frozen?_setCell]; exact h0.2⟩
theorem BytesAt.new (w : World) (C : Array Value) (t : TypeId) (l : List UInt8) (h : ∀ j (h : j < l.length), C[j]? = some (.int .u8 (l[j].toNat : Int))) : BytesAt (w.alloc (.cells C t (C.size, C.size + 1))) w.heap.size l := by
  intro j hj
  rw [World.cell?_alloc_mark, World.frozen?_alloc_mark]
  refine ⟨h j hj, ?_⟩
  have := (Array.getElem?_eq_some_iff.1 (h j hj)).1
  simp; omega
theorem BytesAt.look {w : World} {b : Nat} (s : ByteArray) (k : Nat) (h : BytesAt w b (lowTo s.data.toList k)) (hk : k < s.size) : w.cell? ⟨b, k, none⟩ = some (.int .u8 (s[k].toNat : Int)) ∧ w.frozen? ⟨b, k, none⟩ = false := by
  have hk' : k < s.data.toList.length := by simpa using hk
  have h0 := h k (by rw [lowTo_length]; exact hk')
  rw [lowTo_at _ k hk'] at h0
  exact h0
theorem BytesAt.keep {w : World} {b : Nat} (s : ByteArray) (k : Nat) (h : BytesAt w b (lowTo s.data.toList k)) (hk : k < s.size) (hc : ¬ (65 ≤ (s[k].toNat : Int) ∧ (s[k].toNat : Int) ≤ 90)) : BytesAt w b (lowTo s.data.toList (k + 1)) := by
  have hk' : k < s.data.toList.length := by simpa using hk
  rw [lowTo_same _ k hk' (by show low1 s[k] = s[k]; unfold low1; rw [if_neg (by omega)])]
  exact h
theorem BytesAt.turn {w : World} {b : Nat} (s : ByteArray) (k : Nat) (h : BytesAt w b (lowTo s.data.toList k)) (hk : k < s.size) (h1 : 65 ≤ (s[k].toNat : Int)) (h2 : (s[k].toNat : Int) ≤ 90) :
    BytesAt (w.setCell ⟨b, k, none⟩ (.int .u8 ((s[k].toNat : Int) + 32))) b (lowTo s.data.toList (k + 1)) := by
  have hk' : k < s.data.toList.length := by simpa using hk
  rw [lowTo_succ _ k hk']
  refine h.set k (by rw [lowTo_length]; exact hk') _ _ ?_
  show _ = ((low1 s[k]).toNat : Int)
  unfold low1
  rw [if_pos (by omega), UInt8.toNat_add]
  have : (32 : UInt8).toNat = 32 := rfl
  omega
theorem BytesAt.back {w : World} {b : Nat} {P : Program} (s : ByteArray) (k cap : Nat) (src dst e : TypeId) (h : BytesAt w b (lowTo s.data.toList k)) (hk : s.size ≤ k)
    (hs : P.underlying src = some (.slice e)) (he : P.underlying e = some (.int .u8)) (hd : P.underlying dst = some .string) :
    (convert src dst (.slice (some ⟨b, 0, none⟩) s.size cap)).run P w = .ok (.string ⟨(lower s.data.toList).toArray⟩) w := by
  rw [lowTo_all _ k (by simpa using hk)] at h
  have hl : (lower s.data.toList).length = s.size := by simp [lower]
  have := run_convert_bytes_back (P := P) w src dst e ⟨b, 0, none⟩ cap (lower s.data.toList) hs he hd (fun j hj => by
    have e : (⟨b, 0, none⟩ : Addr).add j = ⟨b, j, none⟩ := by simp [Addr.add]; omega
    rw [e]
    exact (h j hj).1)
  rw [hl] at this
  exact this
end Oct
end Go.Proofs.Ytnnjfiknfmjliaa
