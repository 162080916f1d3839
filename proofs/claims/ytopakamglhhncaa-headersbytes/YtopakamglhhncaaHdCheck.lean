/- The contracts of strings.IndexAny and ContainsAny at the bytes 0, 10 and 13, of headers.isValue and Check. -/
import Derived.Test.YtopakamglhhncaaHdAny
import Derived.Test.YtopakamglhhncaaHdIter
import Derived.Shelf.Strings.IndexAnyAll
namespace Go.Proofs.Ytopakamglhhncaa
open Go.RowKit Go.Shelf

section
variable {P : Program}
theorem run_next_at (W : World) (k : Nat) (s : ByteArray) (pos : Nat) (hk : W.heap[k]? = some (.stringIter s pos)) (h : pos < s.size) (ty : TypeId) :
    (Instr.next (.pointer (some ⟨k, 0, none⟩)) true ty).run P W = .ok (.tuple #[.bool true, .int .i64 pos, .int .i32 (Utf8.decode s pos).1]) { W with heap := W.heap.setIfInBounds k (.stringIter s (pos + (Utf8.decode s pos).2)) } := by
  simp only [Instr.next, getObj, setObj, Sem.run_bind, Sem.run, hk, Result.andThen, h, if_true]
  simp [goInt]
theorem run_next_at_end (W : World) (k : Nat) (s : ByteArray) (pos : Nat) (hk : W.heap[k]? = some (.stringIter s pos)) (h : ¬ pos < s.size) (ty : TypeId) :
    (Instr.next (.pointer (some ⟨k, 0, none⟩)) true ty).run P W = .ok (.tuple #[.bool false]) W := by
  simp [Instr.next, getObj, Sem.run, hk, h]
end
theorem iter_put {w W : World} {s : ByteArray} {pos q : Nat} (hk : W.heap[w.heap.size]? = some (.stringIter s pos)) (hb : Below w.heap.size w W) :
    ({ W with heap := W.heap.setIfInBounds w.heap.size (.stringIter s q) } : World).heap[w.heap.size]? = some (.stringIter s q) ∧ Below w.heap.size w { W with heap := W.heap.setIfInBounds w.heap.size (.stringIter s q) } := by
  have hlt := (Array.getElem?_eq_some_iff.1 hk).1
  refine ⟨?_, ⟨hb.os, hb.tape, hb.output, ?_, fun k hk' => ?_⟩⟩
  · show (W.heap.setIfInBounds _ _)[w.heap.size]? = _
    simp [hlt]
  · show w.heap.size ≤ (W.heap.setIfInBounds _ _).size
    simp; omega
  · show (W.heap.setIfInBounds _ _)[k]? = _
    rw [← hb.block k hk']
    simp [show ¬ w.heap.size = k by omega]
theorem no_more {s : ByteArray} {i k : Nat} (h : Lib.NoAny s.data.toList brkL i) (hr : ∀ j (hj : j < s.size), i ≤ j → j < i + k → 128 ≤ (s[j]).toNat) : Lib.NoAny s.data.toList brkL (i + k) := fun j b hj hb => by
  by_cases hji : j < i
  · exact h j b hji hb
  · have hjs : j < s.size := by
      rcases Nat.lt_or_ge j s.size with h | h
      · exact h
      · rw [List.getElem?_eq_none (by simpa using h)] at hb; cases hb
    have : s.data.toList[j]? = some s[j] := Lib.data_getElem? s j hjs
    rw [this] at hb
    cases hb
    exact brk_high (hr j hjs (by omega) hj)
theorem size_brk : (⟨#[0, 10, 13]⟩ : ByteArray).size = 3 := rfl
set_option maxHeartbeats 4000000 in
set_option maxRecDepth 100000 in
theorem idxAny_short (s : ByteArray) (w : World) (h8 : s.size ≤ 8) : Calls Try.prog 55 #[.string s, .string ⟨#[0, 10, 13]⟩] w fun e w' => e = .returned (.int .i64 (Lib.indexAny s.data.toList brkL)) ∧ Below w.heap.size w w' := by
  have h8z : decide ((8 : Int) < (s.size : Int)) = false := decide_eq_false (by omega)
  go_enter Try.func55, Try.ntmps55
  go_wp2_with fail
  refine (Try.strings_shouldUseASCIISet _ _).mono ?_
  rintro e w' ⟨rfl, hw⟩
  rw [hw, h8z]
  clear hw
  go_wp2
  have hst : (w.iter s 0).heap[w.heap.size]? = some (.stringIter s 0) ∧ Below w.heap.size w (w.iter s 0) := ⟨World.iter_heap _ _ _, (Below.refl _ w).alloc (Nat.le_refl _) _⟩
  go_loopg [9, 10] s.size (fun g _ _ wx => ∃ i : Nat, i + g = s.size ∧ wx.heap[w.heap.size]? = some (.stringIter s i) ∧ Below w.heap.size w wx ∧ Hid (Lib.NoAny s.data.toList brkL i))
  case atStart => exact ⟨0, by omega, hst.1, hst.2, Lib.hid (Lib.NoAny.zero _ _)⟩
  case round =>
    obtain ⟨i, hig, hit, hbel, hno⟩ := hrel
    clear hst
    cases gk with
    | zero =>
      obtain rfl : i = s.size := by omega
      have hnx := fun ty => run_next_at_end (P := Try.prog) _ _ s s.size hit (by omega) ty
      have HB := Lib.hid hbel
      clear hbel hit
      go_wp2
      go_ret
      exact ⟨Oct.ret_int (by rw [Lib.indexAny_none (by simpa using hno.out)]), HB.out⟩
    | succ g =>
      have hi : i < s.size := by omega
      have hnx := fun ty => run_next_at (P := Try.prog) _ _ s i hit hi ty
      obtain ⟨x, hx⟩ : ∃ x : UInt8, s[i]'hi = x := ⟨_, rfl⟩
      have hxl : s.data.toList[i]? = some x := by rw [← hx]; exact Lib.data_getElem? s i hi
      by_cases ha : x.toNat < 128
      · have hd := decode_ascii s i hi (by rw [hx]; exact ha)
        rw [hd, hx] at hnx
        obtain ⟨p1, p2⟩ := iter_put (q := i + 1) hit hbel
        obtain ⟨W2, hW2⟩ : ∃ W2, ({ wr with heap := wr.heap.setIfInBounds w.heap.size (.stringIter s (i + 1)) } : World) = W2 := ⟨_, rfl⟩
        simp only at hnx
        rw [hW2] at hnx p1 p2
        have hcon := Lib.contains_iff_indexByte brkL x
        have hback : ((x.toNat : Int)).toNat.toUInt8 = x := by simp
        have hcall : ∀ W, Calls Try.prog 61 #[.string ⟨#[0, 10, 13]⟩, .int .i32 x.toNat] W fun e w' => e = .returned (.int .i64 (Lib.indexByte brkL x)) ∧ w' = W := fun W => by
          have := Try.strings_IndexRune_ascii ⟨#[0, 10, 13]⟩ (x.toNat : Int) W (by omega) (by omega)
          rw [hback] at this; exact this
        have HX := Lib.hid hxl; have HP1 := Lib.hid p1; have HP2 := Lib.hid p2
        clear hW2 hbel hit hxl hx hd p1 p2
        cases hin : brkL.contains x
        · rw [hin] at hcon
          have hlt : ¬ ((0 : Int) ≤ Lib.indexByte brkL x) := of_decide_eq_false hcon.symm
          have HN := Lib.hid (hno.out.succ HX.out hin)
          clear hcon hin
          obtain ⟨q, hq⟩ : ∃ q, Lib.indexByte brkL x = q := ⟨_, rfl⟩
          rw [hq] at hlt hcall
          clear hq
          go_wp2_with fail
          refine (hcall _).mono ?_
          rintro e w' ⟨rfl, rfl⟩
          clear hcall
          go_wp2
          go_roundg g
          case measure => omega
          case rel => exact ⟨i + 1, by omega, HP1.out, HP2.out, HN⟩
        · rw [hin] at hcon
          have hge : (0 : Int) ≤ Lib.indexByte brkL x := of_decide_eq_true hcon.symm
          have HN := Lib.hid (Lib.indexAny_hit hno.out HX.out hin)
          clear hcon hin
          obtain ⟨q, hq⟩ : ∃ q, Lib.indexByte brkL x = q := ⟨_, rfl⟩
          rw [hq] at hge hcall
          clear hq
          go_wp2_with fail
          refine (hcall _).mono ?_
          rintro e w' ⟨rfl, rfl⟩
          clear hcall
          go_wp2
          go_ret
          exact ⟨Oct.ret_int (by rw [HN.out]), HP2.out⟩
      · obtain ⟨d1, d2, d3, d4⟩ := decode_run s i hi (by rw [hx]; omega)
        obtain ⟨r, hr⟩ : ∃ r, (Utf8.decode s i).1 = r := ⟨_, rfl⟩
        obtain ⟨k, hk⟩ : ∃ k, (Utf8.decode s i).2 = k := ⟨_, rfl⟩
        rw [hr] at d1 hnx
        rw [hk] at d2 d3 d4 hnx
        have HN := Lib.hid (no_more hno.out d4)
        obtain ⟨p1, p2⟩ := iter_put (q := i + k) hit hbel
        obtain ⟨W2, hW2⟩ : ∃ W2, ({ wr with heap := wr.heap.setIfInBounds w.heap.size (.stringIter s (i + k)) } : World) = W2 := ⟨_, rfl⟩
        rw [hW2] at hnx p1 p2
        have hcall : ∀ W, Calls Try.prog 61 #[.string ⟨#[0, 10, 13]⟩, .int .i32 r] W fun e w' => e = .returned (.int .i64 (-1)) ∧ Below W.heap.size W w' := fun W => idxRune_high r (by omega) W
        have HP1 := Lib.hid p1; have HP2 := Lib.hid p2
        clear hW2 hbel hit hxl hx p1 p2 hr hk d4 ha
        go_wp2_with fail
        refine (hcall _).mono ?_
        rintro e w' ⟨rfl, hb2⟩
        clear hcall
        have HB2 := Lib.hid hb2
        clear hb2
        go_wp2
        go_roundg (g + 1 - k)
        case measure => omega
        case rel => exact ⟨i + k, by omega, (HB2.out.block _ (Array.getElem?_eq_some_iff.1 HP1.out).1).trans HP1.out, HP2.out.trans (HB2.out.mono HP2.out.size), HN⟩
end Go.Proofs.Ytopakamglhhncaa
