/- The contracts of the document's Values, and of its parts of one value. -/
import Derived.Test.YtcmbckacbdiebaaHdIter
import Derived.Test.YtcmbckacbdiebaaHdParts
import Derived.Test.YtcmbckacbdiebaaOctSplit
namespace Go.Proofs.Ytcmbckacbdiebaa
open Go.RowKit

theorem rfold_val {a n : List UInt8} (ha : a.length ≤ 10000) (hn : n.length ≤ 10000) (w : World) {b : Bool} (h : Hd.foldB a n = b) : Calls Try.prog 39 #[.string (bA a), .string (bA n)] w fun e w' => e = .returned (.bool b) ∧ Below w.heap.size w w' :=
  (rfold_any (bA a) (bA n) w (by rw [bA_size]; unfold maxLen; omega) (by rw [bA_size]; unfold maxLen; omega)).mono (by
    rintro e w' ⟨rfl, hb⟩
    exact ⟨Oct.ret_bool h, hb⟩)
theorem rtrim_val (s : List UInt8) (hs : s.length ≤ 1000000) (w : World) : Calls Try.prog 40 #[.string (bA s)] w fun e w' => e = .returned (.string (bA (Oct.trim s))) ∧ w' = w := (rtrim_any (bA s) w (by rw [bA_size]; unfold maxLen; omega)).mono fun _ _ h => ⟨h.1, h.2.symm⟩
set_option maxHeartbeats 2000000 in
theorem rvalues_any (A : Option Addr) (c n : Nat) (l : List Hd.Hdr) (nm : List UInt8) (w : World) (hn : l.length = n) (hl : SmallH l) (hnm : nm.length ≤ 10000) (hA : SeenH w A l) :
    Calls Try.prog 25 #[.slice A n c, .string (bA nm)] w (RetTexts w (Hd.vals l nm)) := by
  subst hn
  obtain ⟨i0, hi, hz0, hz1, hz2⟩ := info_parts info_string
  have HI := Lib.hid hi; have HZ0 := Lib.hid hz0; have HZ1 := Lib.hid hz1; have HZ2 := Lib.hid hz2
  have HA := Lib.hid hA; have HL := Lib.hid hl
  have hll := hl.len
  clear hi hz0 hz1 hz2 hA hl
  go_enter Try.func25, Try.ntmps25
  go_wp2
  go_loopw [5, 6] (fun vv i wr => ∃ k : Nat, k ≤ l.length ∧ i = .int .i64 k ∧ Hid (wr.ownsRow w.heap.size 9 1 vv (Hd.vals (l.take k) nm).length ((Hd.vals (l.take k) nm).map Oct.strV)) ∧ Hid (Below w.heap.size w wr)) (fun _ i _ => l.length - (intOf i).toNat)
  case atStart => exact ⟨0, by omega, rfl, Lib.hid (World.ownsRow_nil _ _ _ _), Lib.hid (Below.refl _ _)⟩
  case round =>
    obtain ⟨k, hk, rfl, hrow, hbel⟩ := hrel
    by_cases hlt : k < l.length
    · obtain ⟨g, o, rfl, hg, hc⟩ := HA.out (by omega)
      have hce := (hc k hlt).below hg hbel.out
      have c0 := hce.1
      have hsm := HL.out.each l[k] (List.getElem_mem hlt)
      obtain ⟨x, hx⟩ : ∃ x, l[k] = x := ⟨_, rfl⟩
      rw [hx] at c0 hsm hce
      have HX := Lib.hid hx; have HSM := Lib.hid hsm; have HCE := Lib.hid hce
      have hglt : g < wr.heap.size := Nat.lt_of_lt_of_le hg hbel.out.size
      have hvs := vals_succ (n := nm) hlt
      rw [hx] at hvs
      have hvl := Hd.vals_len (l.take k) nm
      rw [List.length_take] at hvl
      have hvl2 : (Hd.vals (l.take k) nm).length ≤ 1000 := by omega
      clear hc hce hx hsm hvl
      cases hf : Hd.foldB x.name nm with
      | false =>
        rw [hf] at hvs
        have hcall := fun W => rfold_val HSM.out.1 hnm W hf
        have HVS : Hid (Hd.vals (l.take (k + 1)) nm = Hd.vals (l.take k) nm) := Lib.hid (by simpa using hvs)
        clear hf hvs
        go_wp2_with fail
        refine (hcall _).mono ?_
        rintro e w1 ⟨rfl, hb1⟩
        clear hcall
        have HR1 := Lib.hid (owns_below hrow.out hb1)
        have HB1 := Lib.hid (hbel.out.trans (hb1.mono hbel.out.size))
        go_wp2_with fail
        exact ⟨⟨k + 1, by omega, by go_num, by rw [HVS.out]; exact HR1, HB1⟩, by simp [intOf]; omega⟩
      | true =>
        rw [hf] at hvs
        have hcall := fun W => rfold_val HSM.out.1 hnm W hf
        have hcall2 := fun W => rtrim_val x.value (by have := HSM.out.2; omega) W
        have HVS : Hid (Hd.vals (l.take (k + 1)) nm = Hd.vals (l.take k) nm ++ [Oct.trim x.value]) := Lib.hid (by simpa using hvs)
        clear hf hvs
        go_wp2_with fail
        refine (hcall _).mono ?_
        rintro e w1 ⟨rfl, hb1⟩
        clear hcall
        have HR1 := Lib.hid (owns_below hrow.out hb1)
        have HB1 := Lib.hid (hbel.out.trans (hb1.mono hbel.out.size))
        have d1 := (HCE.out.below hglt hb1).2
        have hws : w.heap.size ≤ w1.heap.size := HB1.out.size
        clear c0
        go_wp2_with fail
        refine (hcall2 _).mono ?_
        rintro e w2 ⟨rfl, hw2⟩
        rw [hw2]
        clear hcall2 hw2
        obtain ⟨y, hy⟩ : ∃ y, Oct.trim x.value = y := ⟨_, rfl⟩
        rw [hy] at HVS ⊢
        clear hy
        go_wp2_with (at_builtin; refine wpList_append_own _ rfl _ _ 24 rfl w.heap.size 9 i0 (.string ⟨#[]⟩) 1 16 Try.underlying24 HI.out HZ0.out HZ1.out HZ2.out rfl (by decide) _ _ _ rfl (HR1.out.alloc _) ⟨w1.heap.size, 0, none⟩ 1 1 [.string (bA y)] rfl rfl (cell_one_new _ _ _) (by simp [Value.oneCell']) (by unfold maxLen; omega) (by omega) (by simp; omega) ?_; intro v' w3 hown' hgrow _; obtain ⟨g', cap', rfl⟩ := ownsRow_succ hown')
        obtain ⟨hb3, _⟩ := row_step HR1.out hws hgrow
        exact ⟨⟨k + 1, by omega, by go_num, Lib.hid (by rw [HVS.out]; simpa [Oct.strV] using hown'), Lib.hid (HB1.out.trans hb3)⟩, by simp [intOf]; omega⟩
    · obtain rfl : k = l.length := by omega
      have hrow2 := hrow.out
      rw [List.take_of_length_le (Nat.le_refl _)] at hrow2
      have HR := Lib.hid hrow2
      clear hrow hrow2
      go_wp2_with fail
      go_ret
      exact ⟨_, rfl, hbel.out, HR.out⟩

namespace Hd
/-- How far the scan has come: the parts that are whole, where the next one begins, the place, within quotes or not. -/
structure PI (s : List UInt8) (acc : List (List UInt8)) (f k : Nat) (o : Bool) : Prop where
  le : k ≤ s.length + 1
  fk : f ≤ k
  fs : f ≤ s.length
  cnt : acc.length ≤ f
  is : parts s = acc ++ partsF o false ((s.drop f).take (k - f)) (s.drop k)
theorem PI.zero (s : List UInt8) : PI s [] 0 0 false := ⟨by omega, by omega, by omega, by simp, by simp [parts]⟩
variable {s : List UInt8} {acc : List (List UInt8)} {f k : Nat} {o : Bool}
theorem cur_at (hf : f ≤ k) (hk : k < s.length) : (s.drop f).take (k + 1 - f) = (s.drop f).take (k - f) ++ [s[k]] := by
  have e : k + 1 - f = (k - f) + 1 := by omega
  rw [e, List.take_succ_eq_append_getElem (by rw [List.length_drop]; omega)]
  congr 2
  rw [List.getElem_drop]
  congr 1; omega
theorem PI.over (h : PI s acc f k o) (hk : s.length ≤ k) : parts s = acc ++ [Oct.trim (s.drop f)] := by
  have := h.is
  rw [List.drop_eq_nil_of_le hk, parts_end, List.take_of_length_le (by rw [List.length_drop]; omega)] at this
  exact this
theorem PI.quote (h : PI s acc f k o) (hk : k < s.length) (hc : s[k] = 34) : PI s acc f (k + 1) (!o) := by
  refine ⟨by omega, by have := h.fk; omega, h.fs, h.cnt, ?_⟩
  rw [h.is, drop_at hk, cur_at h.fk hk, hc, parts_quote]
theorem PI.back (h : PI s acc f k true) (hk : k < s.length) (hc : s[k] = 92) : PI s acc f (k + 2) true := by
  refine ⟨by omega, by have := h.fk; omega, h.fs, h.cnt, ?_⟩
  rw [h.is, drop_at hk, hc, parts_back]
  have e := cur_at h.fk hk
  rw [hc] at e
  rw [← e]
  by_cases hk2 : k + 1 < s.length
  · have e2 := cur_at (f := f) (k := k + 1) (by have := h.fk; omega) hk2
    rw [drop_at hk2, parts_esc, ← e2]
  · have e1 : s.drop (k + 1) = [] := List.drop_eq_nil_of_le (by omega)
    have e2 : s.drop (k + 2) = [] := List.drop_eq_nil_of_le (by omega)
    rw [e1, e2, parts_end, parts_end, List.take_of_length_le (by rw [List.length_drop]; omega), List.take_of_length_le (by rw [List.length_drop]; omega)]
theorem PI.comma (h : PI s acc f k false) (hk : k < s.length) (hc : s[k] = 44) : PI s (acc ++ [Oct.trim ((s.drop f).take (k - f))]) (k + 1) (k + 1) false := by
  refine ⟨by omega, Nat.le_refl _, by omega, by have := h.cnt; have := h.fk; simp; omega, ?_⟩
  rw [h.is, drop_at hk, hc, parts_comma, Nat.sub_self]
  simp
theorem PI.open (h : PI s acc f k true) (hk : k < s.length) (h1 : s[k] ≠ 34) (h2 : s[k] ≠ 92) : PI s acc f (k + 1) true := by
  refine ⟨by omega, by have := h.fk; omega, h.fs, h.cnt, ?_⟩
  rw [h.is, drop_at hk, cur_at h.fk hk, parts_open h1 h2]
theorem PI.shut (h : PI s acc f k false) (hk : k < s.length) (h1 : s[k] ≠ 34) (h2 : s[k] ≠ 44) : PI s acc f (k + 1) false := by
  refine ⟨by omega, by have := h.fk; omega, h.fs, h.cnt, ?_⟩
  rw [h.is, drop_at hk, cur_at h.fk hk, parts_shut h1 h2]
end Hd
theorem mid_ext (s : ByteArray) (f k : Nat) : s.extract f k = bA ((s.data.toList.drop f).take (k - f)) := by
  rw [Lib.extract_eq]
end Go.Proofs.Ytcmbckacbdiebaa
