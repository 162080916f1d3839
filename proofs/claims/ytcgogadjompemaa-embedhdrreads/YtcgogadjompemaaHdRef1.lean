/- The contracts of the document's Values, and of its parts of one value. -/
import Derived.Test.YtcgogadjompemaaHdIter
import Derived.Test.YtcgogadjompemaaHdParts
import Derived.Test.YtcgogadjompemaaOctSplit
namespace Go.Proofs.Ytcgogadjompemaa
open Go.RowKit

theorem rfold_val {a n : List UInt8} (ha : a.length ≤ 10000) (hn : n.length ≤ 10000) (w : World) {b : Bool} (h : Hd.foldB a n = b) : Calls Try.prog 42 #[.string (bA a), .string (bA n)] w fun e w' => e = .returned (.bool b) ∧ Below w.heap.size w w' :=
  (rfold_any (bA a) (bA n) w (by rw [bA_size]; unfold maxLen; omega) (by rw [bA_size]; unfold maxLen; omega)).mono (by
    rintro e w' ⟨rfl, hb⟩
    exact ⟨Oct.ret_bool h, hb⟩)
theorem rtrim_val (s : List UInt8) (hs : s.length ≤ 1000000) (w : World) : Calls Try.prog 43 #[.string (bA s)] w fun e w' => e = .returned (.string (bA (Oct.trim s))) ∧ w' = w := (rtrim_any (bA s) w (by rw [bA_size]; unfold maxLen; omega)).mono fun _ _ h => ⟨h.1, h.2.symm⟩
set_option maxHeartbeats 2000000 in
theorem rvalues_any (A : Option Addr) (c n : Nat) (l : List Hd.Hdr) (nm : List UInt8) (w : World) (hn : l.length = n) (hl : SmallH l) (hnm : nm.length ≤ 10000) (hA : SeenH w A l) :
    Calls Try.prog 33 #[.slice A n c, .string (bA nm)] w (RetTexts w (Hd.vals l nm)) := by
  subst hn
  obtain ⟨i0, hi, hz0, hz1, hz2⟩ := info_parts info_string
  have HI := Lib.hid hi; have HZ0 := Lib.hid hz0; have HZ1 := Lib.hid hz1; have HZ2 := Lib.hid hz2
  have HA := Lib.hid hA; have HL := Lib.hid hl
  have hll := hl.len
  clear hi hz0 hz1 hz2 hA hl
  go_enter Try.func33, Try.ntmps33
  go_wp2
  go_loopw [5, 6] (fun vv i wr => ∃ k : Nat, k ≤ l.length ∧ i = .int .i64 k ∧ Hid (wr.ownsRow w.heap.size 9 1 vv (Hd.vals (l.take k) nm).length ((Hd.vals (l.take k) nm).map Oct.strV)) ∧ Hid (Below w.heap.size w wr)) (fun _ i _ => l.length - (intOf i).toNat)
  case atStart => exact ⟨0, by omega, rfl, Lib.hid (World.ownsRow_nil _ _ _ _), Lib.hid (Below.refl _ _)⟩
  case round =>
    obtain ⟨k, hk, rfl, hrow, hbel⟩ := hrel
    by_cases hlt : k < l.length
    · obtain ⟨g, o, rfl, hg, hc⟩ := HA.out (by omega)
      have hce := (hc k hlt).below hg hbel.out
      have c0 := hce.1
      have hsm := HL.out.each l[k] (List.getElem_mem hlt)
      obtain ⟨x, hx⟩ : ∃ x, l[k] = x := ⟨_, rfl⟩
      rw [hx] at c0 hsm hce
      have HX := Lib.hid hx; have HSM := Lib.hid hsm; have HCE := Lib.hid hce
      have hglt : g < wr.heap.size := Nat.lt_of_lt_of_le hg hbel.out.size
      have hvs := vals_succ (n := nm) hlt
      rw [hx] at hvs
      have hvl := Hd.vals_len (l.take k) nm
      rw [List.length_take] at hvl
      have hvl2 : (Hd.vals (l.take k) nm).length ≤ 1000 := by omega
      clear hc hce hx hsm hvl
      cases hf : Hd.foldB x.name nm with
      | false =>
        rw [hf] at hvs
        have hcall := fun W => rfold_val HSM.out.1 hnm W hf
        have HVS : Hid (Hd.vals (l.take (k + 1)) nm = Hd.vals (l.take k) nm) := Lib.hid (by simpa using hvs)
        clear hf hvs
        go_wp2_with fail
        refine (hcall _).mono ?_
        rintro e w1 ⟨rfl, hb1⟩
        clear hcall
        have HR1 := Lib.hid (owns_below hrow.out hb1)
        have HB1 := Lib.hid (hbel.out.trans (hb1.mono hbel.out.size))
        go_wp2_with fail
        exact ⟨⟨k + 1, by omega, by go_num, by rw [HVS.out]; exact HR1, HB1⟩, by simp [intOf]; omega⟩
      | true =>
        rw [hf] at hvs
        have hcall := fun W => rfold_val HSM.out.1 hnm W hf
        have hcall2 := fun W => rtrim_val x.value (by have := HSM.out.2; omega) W
        have HVS : Hid (Hd.vals (l.take (k + 1)) nm = Hd.vals (l.take k) nm ++ [Oct.trim x.value]) := Lib.hid (by simpa using hvs)
        clear hf hvs
        go_wp2_with fail
        refine (hcall _).mono ?_
        rintro e w1 ⟨rfl, hb1⟩
        clear hcall
        have HR1 := Lib.hid (owns_below hrow.out hb1)
        have HB1 := Lib.hid (hbel.out.trans (hb1.mono hbel.out.size))
        have d1 := (HCE.out.below hglt hb1).2
        have hws : w.heap.size ≤ w1.heap.size := HB1.out.size
        clear c0
        go_wp2_with fail
        refine (hcall2 _).mono ?_
        rintro e w2 ⟨rfl, hw2⟩
        rw [hw2]
        clear hcall2 hw2
        obtain ⟨y, hy⟩ : ∃ y, Oct.trim x.value = y := ⟨_, rfl⟩
        rw [hy] at HVS ⊢
        clear hy
        go_wp2_with (at_builtin; refine wpList_append_own _ rfl _ _ 26 rfl w.heap.size 9 i0 (.string ⟨#[]⟩) 1 16 Try.underlying26 HI.out HZ0.out HZ1.out HZ2.out rfl (by decide) _ _ _ rfl (HR1.out.alloc _) ⟨w1.heap.size, 0, none⟩ 1 1 [.string (bA y)] rfl rfl (cell_one_new _ _ _) (by simp [Value.oneCell']) (by unfold maxLen; omega) (by omega) (by simp; omega) ?_; intro v' w3 hown' hgrow _; obtain ⟨g', cap', rfl⟩ := ownsRow_succ hown')
        obtain ⟨hb3, _⟩ := row_step HR1.out hws hgrow
        exact ⟨⟨k + 1, by omega, by go_num, Lib.hid (by rw [HVS.out]; simpa [Oct.strV] using hown'), Lib.hid (HB1.out.trans hb3)⟩, by simp [intOf]; omega⟩
    · obtain rfl : k = l.length := by omega
      have hrow2 := hrow.out
      rw [List.take_of_length_le (Nat.le_refl _)] at hrow2
      have HR := Lib.hid hrow2
      clear hrow hrow2
      go_wp2_with fail
      go_ret
      exact ⟨_, rfl, hbel.out, HR.out⟩

namespace Hd
/-- How far the scan has come: the parts that are whole, where the next one begins, the place, within quotes or not. -/
structure PI (s : List UInt8) (acc : List (List UInt8)) (f k : Nat) (o : Bool) : Prop where
  le : k ≤ s.length + 1
  fk : f ≤ k
  fs : f ≤ s.length
  cnt : acc.length ≤ f
  is : parts s = acc ++ partsF o false ((s.drop f).take (k - f)) (s.drop k)
theorem PI.zero (s : List UInt8) : PI s [] 0 0 false := ⟨by omega, by omega, by omega, by simp, by simp [parts]⟩
variable {s : List UInt8} {acc : List (List UInt8)} {f k : Nat} {o : Bool}
theorem cur_at (hf : f ≤ k) (hk : k < s.length) : (s.drop f).take (k + 1 - f) = (s.drop f).take (k - f) ++ [s[k]] := by
  have e : k + 1 - f = (k - f) + 1 := by omega
  rw [e, List.take_succ_eq_append_getElem (by rw [List.length_drop]; omega)]
  congr 2
  rw [List.getElem_drop]
  congr 1; omega
theorem PI.over (h : PI s acc f k o) (hk : s.length ≤ k) : parts s = acc ++ [Oct.trim (s.drop f)] := by
  have := h.is
  rw [List.drop_eq_nil_of_le hk, parts_end, List.take_of_length_le (by rw [List.length_drop]; omega)] at this
  exact this
theorem PI.quote (h : PI s acc f k o) (hk : k < s.length) (hc : s[k] = 34) : PI s acc f (k + 1) (!o) := by
  refine ⟨by omega, by have := h.fk; omega, h.fs, h.cnt, ?_⟩
  rw [h.is, drop_at hk, cur_at h.fk hk, hc, parts_quote]
theorem PI.back (h : PI s acc f k true) (hk : k < s.length) (hc : s[k] = 92) : PI s acc f (k + 2) true := by
  refine ⟨by omega, by have := h.fk; omega, h.fs, h.cnt, ?_⟩
  rw [h.is, drop_at hk, hc, parts_back]
  have e := cur_at h.fk hk
  rw [hc] at e
  rw [← e]
  by_cases hk2 : k + 1 < s.length
  · have e2 := cur_at (f := f) (k := k + 1) (by have := h.fk; omega) hk2
    rw [drop_at hk2, parts_esc, ← e2]
  · have e1 : s.drop (k + 1) = [] := List.drop_eq_nil_of_le (by omega)
    have e2 : s.drop (k + 2) = [] := List.drop_eq_nil_of_le (by omega)
    rw [e1, e2, parts_end, parts_end, List.take_of_length_le (by rw [List.length_drop]; omega), List.take_of_length_le (by rw [List.length_drop]; omega)]
theorem PI.comma (h : PI s acc f k false) (hk : k < s.length) (hc : s[k] = 44) : PI s (acc ++ [Oct.trim ((s.drop f).take (k - f))]) (k + 1) (k + 1) false := by
  refine ⟨by omega, Nat.le_refl _, by omega, by have := h.cnt; have := h.fk; simp; omega, ?_⟩
  rw [h.is, drop_at hk, hc, parts_comma, Nat.sub_self]
  simp
theorem PI.open (h : PI s acc f k true) (hk : k < s.length) (h1 : s[k] ≠ 34) (h2 : s[k] ≠ 92) : PI s acc f (k + 1) true := by
  refine ⟨by omega, by have := h.fk; omega, h.fs, h.cnt, ?_⟩
  rw [h.is, drop_at hk, cur_at h.fk hk, parts_open h1 h2]
theorem PI.shut (h : PI s acc f k false) (hk : k < s.length) (h1 : s[k] ≠ 34) (h2 : s[k] ≠ 44) : PI s acc f (k + 1) false := by
  refine ⟨by omega, by have := h.fk; omega, h.fs, h.cnt, ?_⟩
  rw [h.is, drop_at hk, cur_at h.fk hk, parts_shut h1 h2]
end Hd
theorem mid_ext (s : ByteArray) (f k : Nat) : s.extract f k = bA ((s.data.toList.drop f).take (k - f)) := by
  rw [Lib.extract_eq]
set_option maxHeartbeats 4000000 in
theorem rparts1_any (s : ByteArray) (w : World) (hs : s.size ≤ 100000) : Calls Try.prog 34 #[.string s] w (RetTexts w (Hd.parts s.data.toList)) := by
  obtain ⟨i0, hi, hz0, hz1, hz2⟩ := info_parts info_string
  have HI := Lib.hid hi; have HZ0 := Lib.hid hz0; have HZ1 := Lib.hid hz1; have HZ2 := Lib.hid hz2
  have H0 := Lib.hid (Hd.PI.zero s.data.toList)
  have hsl : s.data.toList.length = s.size := by simp
  clear hi hz0 hz1 hz2
  go_enter Try.func34, Try.ntmps34
  go_wp2
  go_loopw [3, 4, 5, 6] (fun vv q fv i wr => ∃ (acc : List (List UInt8)) (f k : Nat) (o : Bool), k ≤ s.size + 1 ∧ f ≤ k ∧ f ≤ s.size ∧ acc.length ≤ f ∧ q = .bool o ∧ fv = .int .i64 f ∧ i = .int .i64 k ∧ Hid (Hd.PI s.data.toList acc f k o) ∧ Hid (wr.ownsRow w.heap.size 9 1 vv acc.length (acc.map Oct.strV)) ∧ Hid (Below w.heap.size w wr)) (fun _ _ _ i _ => s.size + 1 - (intOf i).toNat)
  case atStart => exact ⟨[], 0, 0, false, by omega, by omega, by omega, by simp, rfl, rfl, rfl, H0, Lib.hid (World.ownsRow_nil _ _ _ _), Lib.hid (Below.refl _ _)⟩
  case round =>
    obtain ⟨acc, f, k, o, hk, hfk, hfs, hcnt, rfl, rfl, rfl, hI, hrow, hbel⟩ := hrel
    have hws : w.heap.size ≤ wr.heap.size := hbel.out.size
    by_cases hlt : k < s.size
    · have hk2 : k < s.data.toList.length := by omega
      obtain ⟨c, hc⟩ : ∃ c, s[k] = c := ⟨_, rfl⟩
      have hcl : Hid (s.data.toList[k] = c) := Lib.hid hc
      have fin : ∀ (k' : Nat) (o' : Bool), k' ≤ s.size + 1 → k < k' → Hd.PI s.data.toList acc f k' o' → (∃ (acc2 : List (List UInt8)) (f2 k2 : Nat) (o2 : Bool), k2 ≤ s.size + 1 ∧ f2 ≤ k2 ∧ f2 ≤ s.size ∧ acc2.length ≤ f2 ∧ Value.bool o' = .bool o2 ∧ Value.int .i64 f = .int .i64 f2 ∧ Value.int .i64 (k' : Int) = .int .i64 k2 ∧ Hid (Hd.PI s.data.toList acc2 f2 k2 o2) ∧ Hid (wr.ownsRow w.heap.size 9 1 u3 acc2.length (acc2.map Oct.strV)) ∧ Hid (Below w.heap.size w wr)) ∧ s.size + 1 - (intOf (.int .i64 (k' : Int))).toNat < s.size + 1 - (intOf (.int .i64 (k : Int))).toNat := fun k' o' h1 h2 hp =>
        ⟨⟨acc, f, k', o', h1, by omega, hfs, hcnt, rfl, rfl, rfl, Lib.hid hp, hrow, hbel⟩, by simp [intOf]; omega⟩
      have FIN := Lib.hid fin
      clear fin
      cases h1 : ((c.toNat : Int) == 34) with
      | true =>
        have hn := FIN.out (k + 1) (!o) (by omega) (by omega) (hI.out.quote hk2 (by rw [hcl.out]; exact eq_byte h1 34 rfl))
        go_wp2_with fail
        simpa using hn
      | false =>
        cases h2 : ((c.toNat : Int) == 92) with
        | true =>
          have e := eq_byte h2 92 rfl
          cases o with
          | true =>
            have hn := FIN.out (k + 2) true (by omega) (by omega) (hI.out.back hk2 (by rw [hcl.out]; exact e))
            go_wp2_with fail
            have e2 : (k : Int) + 1 + 1 = ((k + 2 : Nat) : Int) := by omega
            rw [e2]; exact hn
          | false =>
            have hn := FIN.out (k + 1) false (by omega) (by omega) (hI.out.shut hk2 (by rw [hcl.out, e]; decide) (by rw [hcl.out, e]; decide))
            have h3 : ((c.toNat : Int) == 44) = false := by rw [e]; decide
            go_wp2_with fail
            simpa using hn
        | false =>
          cases h3 : ((c.toNat : Int) == 44) with
          | true =>
            have e := eq_byte h3 44 rfl
            cases o with
            | true =>
              have hn := FIN.out (k + 1) true (by omega) (by omega) (hI.out.open hk2 (by rw [hcl.out, e]; decide) (by rw [hcl.out, e]; decide))
              go_wp2_with fail
              simpa using hn
            | false =>
              have hcm := Lib.hid (hI.out.comma hk2 (by rw [hcl.out]; exact e))
              obtain ⟨y, hy⟩ : ∃ y, Oct.trim ((s.data.toList.drop f).take (k - f)) = y := ⟨_, rfl⟩
              rw [hy] at hcm
              have hcall : ∀ W, Calls Try.prog 43 #[.string (s.extract f k)] W fun e w' => e = .returned (.string (bA y)) ∧ w' = W := fun W => by
                have := rtrim_val ((s.data.toList.drop f).take (k - f)) (by rw [List.length_take, List.length_drop]; omega) W
                rw [hy, ← mid_ext] at this; exact this
              have a1 : (f : Int) ≤ (k : Int) := by omega
              have a2 : (k : Int) ≤ (s.size : Int) := by omega
              clear hy e
              go_wp2_with fail
              refine (hcall _).mono ?_
              rintro e w2 ⟨rfl, hw2⟩
              rw [hw2]
              clear hcall hw2
              go_wp2_with (at_builtin; refine wpList_append_own _ rfl _ _ 26 rfl w.heap.size 9 i0 (.string ⟨#[]⟩) 1 16 Try.underlying26 HI.out HZ0.out HZ1.out HZ2.out rfl (by decide) _ _ _ rfl (hrow.out.alloc _) ⟨wr.heap.size, 0, none⟩ 1 1 [.string (bA y)] rfl rfl (cell_one_new _ _ _) (by simp [Value.oneCell']) (by unfold maxLen; omega) (by omega) (by simp; omega) ?_; intro v' w3 hown' hgrow _; obtain ⟨g', cap', rfl⟩ := ownsRow_succ hown')
              obtain ⟨hb3, _⟩ := row_step hrow.out hws hgrow
              have hn := hcm.out
              exact ⟨⟨acc ++ [y], k + 1, k + 1, false, by omega, by omega, by omega, by simp; omega, rfl, by go_num, by go_num, hcm, Lib.hid (by simpa [Oct.strV] using hown'), Lib.hid (hbel.out.trans hb3)⟩, by simp [intOf]; omega⟩
          | false =>
            have hn := FIN.out (k + 1) o (by omega) (by omega) (by
              cases o with
              | true => exact hI.out.open hk2 (by rw [hcl.out]; exact ne_byte7 h1 34 rfl) (by rw [hcl.out]; exact ne_byte7 h2 92 rfl)
              | false => exact hI.out.shut hk2 (by rw [hcl.out]; exact ne_byte7 h1 34 rfl) (by rw [hcl.out]; exact ne_byte7 h3 44 rfl))
            cases o with
            | true =>
              go_wp2_with fail
              simpa using hn
            | false =>
              go_wp2_with fail
              simpa using hn
    · have hov := Lib.hid (hI.out.over (by omega))
      obtain ⟨y, hy⟩ : ∃ y, Oct.trim (s.data.toList.drop f) = y := ⟨_, rfl⟩
      rw [hy] at hov
      have hcall : ∀ W, Calls Try.prog 43 #[.string (s.extract f s.size)] W fun e w' => e = .returned (.string (bA y)) ∧ w' = W := fun W => by
        have := rtrim_val (s.data.toList.drop f) (by rw [List.length_drop]; omega) W
        rw [hy, ← Byt.drop_ext] at this; exact this
      clear hy
      go_wp2_with fail
      refine (hcall _).mono ?_
      rintro e w2 ⟨rfl, hw2⟩
      rw [hw2]
      clear hcall hw2
      go_wp2_with (at_builtin; refine wpList_append_own _ rfl _ _ 26 rfl w.heap.size 9 i0 (.string ⟨#[]⟩) 1 16 Try.underlying26 HI.out HZ0.out HZ1.out HZ2.out rfl (by decide) _ _ _ rfl (hrow.out.alloc _) ⟨wr.heap.size, 0, none⟩ 1 1 [.string (bA y)] rfl rfl (cell_one_new _ _ _) (by simp [Value.oneCell']) (by unfold maxLen; omega) (by omega) (by simp; omega) ?_; intro v' w3 hown' hgrow _; obtain ⟨g', cap', rfl⟩ := ownsRow_succ hown')
      obtain ⟨hb3, _⟩ := row_step hrow.out hws hgrow
      go_ret
      exact ⟨_, rfl, hbel.out.trans hb3, by rw [hov.out]; simpa [Oct.strV] using hown'⟩
end Go.Proofs.Ytcgogadjompemaa
