/- A text that is taken apart rune by rune, whatever its bytes; strings.IndexByte of a great byte in a text of small ones. -/
import Derived.Laws.RangeAny
import Derived.Laws.RangeString
import Derived.Deep.LoopGhost
import Derived.Lib.DecodeN
import Derived.Lib.IndexAny
import Derived.BigQuiet
import Derived.Deep.QuietTactic
import Derived.Test.YtinjkpbpkedfnaaGreatDoorOnto
import Derived.Test.YtinjkpbpkedfnaaGreatDoorOctAll
import Derived.Test.YtinjkpbpkedfnaaGreatDoorShelf
namespace Go.Proofs.YtinjkpbpkedfnaaGreatDoor
open Go.RowKit Go.Shelf

theorem enc_shape (r : Int) (h : 128 ≤ r) : 2 ≤ (Utf8.encode r).size ∧ (Utf8.encode r).size ≤ 4 ∧ ∀ i (hi : i < (Utf8.encode r).size), i + 1 = (Utf8.encode r).size → 128 ≤ ((Utf8.encode r)[i]).toNat := by
  obtain ⟨c, hc⟩ : ∃ c, (if Utf8.valid r then r.toNat else Utf8.runeError) = c := ⟨_, rfl⟩
  have hc1 : 128 ≤ c := by
    rw [← hc]; split
    · omega
    · decide
  have hc2 : ¬ c < 128 := by omega
  have hx : ∀ n, 128 ≤ (UInt8.ofNat (0x80 + n % 64)).toNat := fun n => by
    rw [UInt8.toNat_ofNat']
    omega
  unfold Utf8.encode
  simp only [hc, hc2, if_false]
  split
  · refine ⟨by show 2 ≤ 2; decide, by show 2 ≤ 4; decide, fun i hi e => ?_⟩
    have e' : i + 1 = 2 := e
    obtain rfl : i = 1 := by omega
    exact hx c
  split
  · refine ⟨by show 2 ≤ 3; decide, by show 3 ≤ 4; decide, fun i hi e => ?_⟩
    have e' : i + 1 = 3 := e
    obtain rfl : i = 2 := by omega
    exact hx c
  · refine ⟨by show 2 ≤ 4; decide, by show 4 ≤ 4; decide, fun i hi e => ?_⟩
    have e' : i + 1 = 4 := e
    obtain rfl : i = 3 := by omega
    exact hx c
theorem no_byte : ∀ (l : List UInt8) (c : UInt8), (∀ b ∈ l, b ≠ c) → Lib.indexByte l c = -1
  | [], _, _ => rfl
  | b :: l, c, h => by
    have ih := no_byte l c (fun x hx => h x (by simp [hx]))
    have hb : (b == c) = false := beq_eq_false_iff_ne.2 (h b (by simp))
    unfold Lib.indexByte
    rw [ih, hb]; rfl
set_option maxHeartbeats 1000000 in
theorem valid_any (r : Int) (w : World) : Calls Tryz.prog 116 #[.int .i32 r] w fun e w' => (e = .returned (.bool false) ∨ e = .returned (.bool true)) ∧ w = w' := by
  go_enter Tryz.func116, Tryz.ntmps116
  go_wp2
  all_goals (go_ret; first | exact ⟨.inl rfl, rfl⟩ | exact ⟨.inr rfl, rfl⟩)
theorem brk_no (t : ByteArray) (c : UInt8) (hc : 128 ≤ c.toNat) (ht : ∀ b ∈ t.data.toList, b.toNat < 128) (w : World) : Calls Tryz.prog 60 #[.string t, .int .u8 c.toNat] w fun e w' => e = .returned (.int .i64 (-1)) ∧ w = w' :=
  (indexByte_any t c.toNat w).mono (by
    rintro e w' ⟨rfl, h⟩
    refine ⟨?_, h⟩
    have : ((c.toNat : Int)).toNat.toUInt8 = c := by simp
    rw [this, no_byte _ c (fun b hb => by rintro rfl; have := ht b hb; omega)])
/-! ### a text that is taken apart rune by rune -/
theorem cont_high {b : Nat} (h : b / 64 = 2) : 128 ≤ b := by omega
theorem get_of (s : ByteArray) (i : Nat) (h : i < s.size) : s.get! i = s[i] := by
  simp [ByteArray.get!, getElem!_pos, h]; rfl
/-- A rune that begins with a great byte: it is great, and so are all its bytes. -/
theorem decode_run (s : ByteArray) (i : Nat) (h : i < s.size) (ha : 128 ≤ (s[i]).toNat) :
    128 ≤ (Utf8.decode s i).1 ∧ 1 ≤ (Utf8.decode s i).2 ∧ i + (Utf8.decode s i).2 ≤ s.size ∧ ∀ j (hj : j < s.size), i ≤ j → j < i + (Utf8.decode s i).2 → 128 ≤ (s[j]).toNat := by
  have hd := decode_high s i h ha
  refine ⟨hd.1, hd.2, ?_⟩
  rw [Lib.decode_at]
  have g0 : (s.get! i).toNat = (s[i]).toNat := by rw [get_of s i h]
  obtain ⟨b0, e0⟩ : ∃ b, (s.get! i).toNat = b := ⟨_, rfl⟩
  obtain ⟨b1, e1⟩ : ∃ b, (s.get! (i + 1)).toNat = b := ⟨_, rfl⟩
  obtain ⟨b2, e2⟩ : ∃ b, (s.get! (i + 2)).toNat = b := ⟨_, rfl⟩
  obtain ⟨b3, e3⟩ : ∃ b, (s.get! (i + 3)).toNat = b := ⟨_, rfl⟩
  rw [e0, e1, e2, e3]
  have hat : ∀ k b (hk : i + k < s.size), (s.get! (i + k)).toNat = b → (s[i + k]).toNat = b := fun k b hk e => by rw [← get_of s (i + k) hk]; exact e
  have one : i + 1 ≤ s.size ∧ ∀ j (hj : j < s.size), i ≤ j → j < i + 1 → 128 ≤ (s[j]).toNat := ⟨by omega, fun j hj h1 h2 => by
    obtain rfl : j = i := by omega
    exact ha⟩
  unfold Lib.decodeN
  split
  · exact one
  split
  · rename_i hc
    split
    · refine ⟨by show i + 2 ≤ _; omega, fun j hj h1 h2 => ?_⟩
      have h2' : j < i + 2 := h2
      rcases (show j = i ∨ j = i + 1 by omega) with rfl | rfl
      · exact ha
      · rw [hat 1 b1 hj e1]; exact cont_high hc.2.2
    · exact one
  split
  · rename_i hc
    split
    · refine ⟨by show i + 3 ≤ _; omega, fun j hj h1 h2 => ?_⟩
      have h2' : j < i + 3 := h2
      rcases (show j = i ∨ j = i + 1 ∨ j = i + 2 by omega) with rfl | rfl | rfl
      · exact ha
      · rw [hat 1 b1 hj e1]; exact cont_high hc.2.1.2
      · rw [hat 2 b2 hj e2]; exact cont_high hc.2.2.2
    · exact one
  split
  · rename_i hc
    split
    · refine ⟨by show i + 4 ≤ _; omega, fun j hj h1 h2 => ?_⟩
      have h2' : j < i + 4 := h2
      rcases (show j = i ∨ j = i + 1 ∨ j = i + 2 ∨ j = i + 3 by omega) with rfl | rfl | rfl | rfl
      · exact ha
      · rw [hat 1 b1 hj e1]; exact cont_high hc.2.1.2
      · rw [hat 2 b2 hj e2]; exact cont_high hc.2.2.1.2
      · rw [hat 3 b3 hj e3]; exact cont_high hc.2.2.2.2
    · exact one
  · exact one
section
variable {P : Program}
theorem run_next_at (W : World) (k : Nat) (s : ByteArray) (pos : Nat) (hk : W.heap[k]? = some (.stringIter s pos)) (h : pos < s.size) (ty : TypeId) :
    (Instr.next (.pointer (some ⟨k, 0, none⟩)) true ty).run P W = .ok (.tuple #[.bool true, .int .i64 pos, .int .i32 (Utf8.decode s pos).1]) { W with heap := W.heap.setIfInBounds k (.stringIter s (pos + (Utf8.decode s pos).2)) } := by
  simp only [Instr.next, getObj, setObj, Sem.run_bind, Sem.run, hk, Result.andThen, h, if_true]
  simp [goInt]
theorem run_next_at_end (W : World) (k : Nat) (s : ByteArray) (pos : Nat) (hk : W.heap[k]? = some (.stringIter s pos)) (h : ¬ pos < s.size) (ty : TypeId) :
    (Instr.next (.pointer (some ⟨k, 0, none⟩)) true ty).run P W = .ok (.tuple #[.bool false]) W := by
  simp [Instr.next, getObj, Sem.run, hk, h]
end
theorem iter_put {w W : World} {s : ByteArray} {pos q : Nat} (hk : W.heap[w.heap.size]? = some (.stringIter s pos)) (hb : Below w.heap.size w W) :
    ({ W with heap := W.heap.setIfInBounds w.heap.size (.stringIter s q) } : World).heap[w.heap.size]? = some (.stringIter s q) ∧ Below w.heap.size w { W with heap := W.heap.setIfInBounds w.heap.size (.stringIter s q) } := by
  have hlt := (Array.getElem?_eq_some_iff.1 hk).1
  refine ⟨?_, ⟨hb.os, hb.tape, hb.output, ?_, fun k hk' => ?_⟩⟩
  · show (W.heap.setIfInBounds _ _)[w.heap.size]? = _
    simp [hlt]
  · show w.heap.size ≤ (W.heap.setIfInBounds _ _).size
    simp; omega
  · show (W.heap.setIfInBounds _ _)[k]? = _
    rw [← hb.block k hk']
    simp [show ¬ w.heap.size = k by omega]
end Go.Proofs.YtinjkpbpkedfnaaGreatDoor
