/- Our texts of one layer, joined: plain functions and their laws, and the contracts of the functions of that layer. -/
import Derived.Test.YtgddmihojladfaaGreatDoorHdIter
import Derived.Test.YtgddmihojladfaaGreatDoorHdParts
import Derived.Test.YtgddmihojladfaaGreatDoorOctAll
import Derived.Test.YtgddmihojladfaaGreatDoorHdPall

/- The contracts of the document's Values, and of its parts of one value. -/

namespace Go.Proofs.YtgddmihojladfaaGreatDoor
open Go.RowKit

theorem rfold_val {a n : List UInt8} (ha : a.length ≤ 10000) (hn : n.length ≤ 10000) (w : World) {b : Bool} (h : Hd.foldB a n = b) : Calls Tryz.prog 70 #[.string (bA a), .string (bA n)] w fun e w' => e = .returned (.bool b) ∧ Below w.heap.size w w' :=
  (rfold_any (bA a) (bA n) w (by rw [bA_size]; unfold maxLen; omega) (by rw [bA_size]; unfold maxLen; omega)).mono (by
    rintro e w' ⟨rfl, hb⟩
    exact ⟨Oct.ret_bool h, hb⟩)
theorem rtrim_val (s : List UInt8) (hs : s.length ≤ 1000000) (w : World) : Calls Tryz.prog 71 #[.string (bA s)] w fun e w' => e = .returned (.string (bA (Oct.trim s))) ∧ w' = w := (rtrim_any (bA s) w (by rw [bA_size]; unfold maxLen; omega)).mono fun _ _ h => ⟨h.1, h.2.symm⟩
set_option maxHeartbeats 2000000 in
theorem rvalues_any (A : Option Addr) (c n : Nat) (l : List Hd.Hdr) (nm : List UInt8) (w : World) (hn : l.length = n) (hl : SmallH l) (hnm : nm.length ≤ 10000) (hA : SeenH w A l) :
    Calls Tryz.prog 54 #[.slice A n c, .string (bA nm)] w (RetTexts w (Hd.vals l nm)) := by
  subst hn
  obtain ⟨i0, hi, hz0, hz1, hz2⟩ := info_parts info_string
  have HI := Lib.hid hi; have HZ0 := Lib.hid hz0; have HZ1 := Lib.hid hz1; have HZ2 := Lib.hid hz2
  have HA := Lib.hid hA; have HL := Lib.hid hl
  have hll := hl.len
  clear hi hz0 hz1 hz2 hA hl
  go_enter Tryz.func54, Tryz.ntmps54
  go_wp2
  go_loopw [5, 6] (fun vv i wr => ∃ k : Nat, k ≤ l.length ∧ i = .int .i64 k ∧ Hid (wr.ownsRow w.heap.size 9 1 vv (Hd.vals (l.take k) nm).length ((Hd.vals (l.take k) nm).map Oct.strV)) ∧ Hid (Below w.heap.size w wr)) (fun _ i _ => l.length - (intOf i).toNat)
  case atStart => exact ⟨0, by omega, rfl, Lib.hid (World.ownsRow_nil _ _ _ _), Lib.hid (Below.refl _ _)⟩
  case round =>
    obtain ⟨k, hk, rfl, hrow, hbel⟩ := hrel
    by_cases hlt : k < l.length
    · obtain ⟨g, o, rfl, hg, hc⟩ := HA.out (by omega)
      have hce := (hc k hlt).below hg hbel.out
      have c0 := hce.1
      have hsm := HL.out.each l[k] (List.getElem_mem hlt)
      obtain ⟨x, hx⟩ : ∃ x, l[k] = x := ⟨_, rfl⟩
      rw [hx] at c0 hsm hce
      have HX := Lib.hid hx; have HSM := Lib.hid hsm; have HCE := Lib.hid hce
      have hglt : g < wr.heap.size := Nat.lt_of_lt_of_le hg hbel.out.size
      have hvs := vals_succ (n := nm) hlt
      rw [hx] at hvs
      have hvl := Hd.vals_len (l.take k) nm
      rw [List.length_take] at hvl
      have hvl2 : (Hd.vals (l.take k) nm).length ≤ 1000 := by omega
      clear hc hce hx hsm hvl
      cases hf : Hd.foldB x.name nm with
      | false =>
        rw [hf] at hvs
        have hcall := fun W => rfold_val HSM.out.1 hnm W hf
        have HVS : Hid (Hd.vals (l.take (k + 1)) nm = Hd.vals (l.take k) nm) := Lib.hid (by simpa using hvs)
        clear hf hvs
        go_wp2_with fail
        refine (hcall _).mono ?_
        rintro e w1 ⟨rfl, hb1⟩
        clear hcall
        have HR1 := Lib.hid (owns_below hrow.out hb1)
        have HB1 := Lib.hid (hbel.out.trans (hb1.mono hbel.out.size))
        go_wp2_with fail
        exact ⟨⟨k + 1, by omega, by go_num, by rw [HVS.out]; exact HR1, HB1⟩, by simp [intOf]; omega⟩
      | true =>
        rw [hf] at hvs
        have hcall := fun W => rfold_val HSM.out.1 hnm W hf
        have hcall2 := fun W => rtrim_val x.value (by have := HSM.out.2; omega) W
        have HVS : Hid (Hd.vals (l.take (k + 1)) nm = Hd.vals (l.take k) nm ++ [Oct.trim x.value]) := Lib.hid (by simpa using hvs)
        clear hf hvs
        go_wp2_with fail
        refine (hcall _).mono ?_
        rintro e w1 ⟨rfl, hb1⟩
        clear hcall
        have HR1 := Lib.hid (owns_below hrow.out hb1)
        have HB1 := Lib.hid (hbel.out.trans (hb1.mono hbel.out.size))
        have d1 := (HCE.out.below hglt hb1).2
        have hws : w.heap.size ≤ w1.heap.size := HB1.out.size
        clear c0
        go_wp2_with fail
        refine (hcall2 _).mono ?_
        rintro e w2 ⟨rfl, hw2⟩
        rw [hw2]
        clear hcall2 hw2
        obtain ⟨y, hy⟩ : ∃ y, Oct.trim x.value = y := ⟨_, rfl⟩
        rw [hy] at HVS ⊢
        clear hy
        go_wp2_with (at_builtin; refine wpList_append_own _ rfl _ _ 36 rfl w.heap.size 9 i0 (.string ⟨#[]⟩) 1 16 Tryz.underlying36 HI.out HZ0.out HZ1.out HZ2.out rfl (by decide) _ _ _ rfl (HR1.out.alloc _) ⟨w1.heap.size, 0, none⟩ 1 1 [.string (bA y)] rfl rfl (cell_one_new _ _ _) (by simp [Value.oneCell']) (by unfold maxLen; omega) (by omega) (by simp; omega) ?_; intro v' w3 hown' hgrow _; obtain ⟨g', cap', rfl⟩ := ownsRow_succ hown')
        obtain ⟨hb3, _⟩ := row_step HR1.out hws hgrow
        exact ⟨⟨k + 1, by omega, by go_num, Lib.hid (by rw [HVS.out]; simpa [Oct.strV] using hown'), Lib.hid (HB1.out.trans hb3)⟩, by simp [intOf]; omega⟩
    · obtain rfl : k = l.length := by omega
      have hrow2 := hrow.out
      rw [List.take_of_length_le (Nat.le_refl _)] at hrow2
      have HR := Lib.hid hrow2
      clear hrow hrow2
      go_wp2_with fail
      go_ret
      exact ⟨_, rfl, hbel.out, HR.out⟩

namespace Hd
/-- How far the scan has come: the parts that are whole, where the next one begins, the place, within quotes or not. -/
structure PI (s : List UInt8) (acc : List (List UInt8)) (f k : Nat) (o : Bool) : Prop where
  le : k ≤ s.length + 1
  fk : f ≤ k
  fs : f ≤ s.length
  cnt : acc.length ≤ f
  is : parts s = acc ++ partsF o false ((s.drop f).take (k - f)) (s.drop k)
theorem PI.zero (s : List UInt8) : PI s [] 0 0 false := ⟨by omega, by omega, by omega, by simp, by simp [parts]⟩
variable {s : List UInt8} {acc : List (List UInt8)} {f k : Nat} {o : Bool}
theorem cur_at (hf : f ≤ k) (hk : k < s.length) : (s.drop f).take (k + 1 - f) = (s.drop f).take (k - f) ++ [s[k]] := by
  have e : k + 1 - f = (k - f) + 1 := by omega
  rw [e, List.take_succ_eq_append_getElem (by rw [List.length_drop]; omega)]
  congr 2
  rw [List.getElem_drop]
  congr 1; omega
theorem PI.over (h : PI s acc f k o) (hk : s.length ≤ k) : parts s = acc ++ [Oct.trim (s.drop f)] := by
  have := h.is
  rw [List.drop_eq_nil_of_le hk, parts_end, List.take_of_length_le (by rw [List.length_drop]; omega)] at this
  exact this
theorem PI.quote (h : PI s acc f k o) (hk : k < s.length) (hc : s[k] = 34) : PI s acc f (k + 1) (!o) := by
  refine ⟨by omega, by have := h.fk; omega, h.fs, h.cnt, ?_⟩
  rw [h.is, drop_at hk, cur_at h.fk hk, hc, parts_quote]
theorem PI.back (h : PI s acc f k true) (hk : k < s.length) (hc : s[k] = 92) : PI s acc f (k + 2) true := by
  refine ⟨by omega, by have := h.fk; omega, h.fs, h.cnt, ?_⟩
  rw [h.is, drop_at hk, hc, parts_back]
  have e := cur_at h.fk hk
  rw [hc] at e
  rw [← e]
  by_cases hk2 : k + 1 < s.length
  · have e2 := cur_at (f := f) (k := k + 1) (by have := h.fk; omega) hk2
    rw [drop_at hk2, parts_esc, ← e2]
  · have e1 : s.drop (k + 1) = [] := List.drop_eq_nil_of_le (by omega)
    have e2 : s.drop (k + 2) = [] := List.drop_eq_nil_of_le (by omega)
    rw [e1, e2, parts_end, parts_end, List.take_of_length_le (by rw [List.length_drop]; omega), List.take_of_length_le (by rw [List.length_drop]; omega)]
theorem PI.comma (h : PI s acc f k false) (hk : k < s.length) (hc : s[k] = 44) : PI s (acc ++ [Oct.trim ((s.drop f).take (k - f))]) (k + 1) (k + 1) false := by
  refine ⟨by omega, Nat.le_refl _, by omega, by have := h.cnt; have := h.fk; simp; omega, ?_⟩
  rw [h.is, drop_at hk, hc, parts_comma, Nat.sub_self]
  simp
theorem PI.open (h : PI s acc f k true) (hk : k < s.length) (h1 : s[k] ≠ 34) (h2 : s[k] ≠ 92) : PI s acc f (k + 1) true := by
  refine ⟨by omega, by have := h.fk; omega, h.fs, h.cnt, ?_⟩
  rw [h.is, drop_at hk, cur_at h.fk hk, parts_open h1 h2]
theorem PI.shut (h : PI s acc f k false) (hk : k < s.length) (h1 : s[k] ≠ 34) (h2 : s[k] ≠ 44) : PI s acc f (k + 1) false := by
  refine ⟨by omega, by have := h.fk; omega, h.fs, h.cnt, ?_⟩
  rw [h.is, drop_at hk, cur_at h.fk hk, parts_shut h1 h2]
end Hd
theorem mid_ext (s : ByteArray) (f k : Nat) : s.extract f k = bA ((s.data.toList.drop f).take (k - f)) := by
  rw [Lib.extract_eq]
end Go.Proofs.YtgddmihojladfaaGreatDoor

/- The contract of the document's Combined. -/
namespace Go.Proofs.YtgddmihojladfaaGreatDoor
open Go.RowKit

theorem jn_take {sep : List UInt8} {vs : List (List UInt8)} {k : Nat} (hk : k < vs.length) : Hd.jn sep (vs.take (k + 1)) = (if k = 0 then [] else Hd.jn sep (vs.take k) ++ sep) ++ vs[k] := by
  cases vs with
  | nil => simp at hk
  | cons a l =>
    cases k with
    | zero => simp [Hd.jn]
    | succ j =>
      have hj : j < l.length := by simpa using hk
      rw [List.take_succ_cons, List.take_succ_cons, if_neg (by omega), Hd.jn, Hd.jn, List.take_succ_eq_append_getElem hj, List.flatMap_append]
      simp
theorem jn_take_le {sep : List UInt8} {vs : List (List UInt8)} {m : Nat} (hm : ∀ v ∈ vs, v.length ≤ m) (k : Nat) : (Hd.jn sep (vs.take k)).length ≤ k * (m + sep.length) := by
  have h := jn_le sep m (vs.take k) (fun v hv => hm v (List.mem_of_mem_take hv))
  rw [List.length_take] at h
  exact Nat.le_trans h (Nat.mul_le_mul_right _ (Nat.min_le_left _ _))
set_option maxHeartbeats 2000000 in
theorem rcombined_any (A : Option Addr) (c n : Nat) (l : List Hd.Hdr) (nm : List UInt8) (w : World) (hn : l.length = n) (hl : SmallH l) (hnm : nm.length ≤ 10000) (hA : SeenH w A l) :
    Calls Tryz.prog 44 #[.slice A n c, .string (bA nm)] w fun e w' => e = .returned (.tuple #[.string (bA (Hd.comb l nm)), .bool (Hd.hasB l nm)]) ∧ Below w.heap.size w w' := by
  have hcall := rvalues_any A c n l nm w hn hl hnm hA
  have hve : ∀ v ∈ Hd.vals l nm, v.length ≤ 5000 := Hd.vals_each (fun x hx => (hl.each x hx).2)
  have hvl := Hd.vals_len l nm
  have hll := hl.len
  have HC : Hid (Hd.comb l nm = Hd.jn [44, 32] (Hd.vals l nm)) := Lib.hid rfl
  have HH := Lib.hid (has_len l nm)
  obtain ⟨vs, hvs⟩ : ∃ vs, Hd.vals l nm = vs := ⟨_, rfl⟩
  rw [hvs] at hcall hve hvl HC HH
  have HVE := Lib.hid hve
  clear hA hl hvs hve
  go_enter Tryz.func44, Tryz.ntmps44
  go_wp2_with fail
  refine hcall.mono ?_
  rintro e w1 ⟨v, rfl, hb1, hr1⟩
  clear hcall
  have hv : ∃ A2 c2, v = .slice A2 vs.length c2 := by
    rcases owns_view hr1 with ⟨rfl, h0⟩ | ⟨g, cap, rfl, _⟩
    · exact ⟨none, 0, by rw [h0]; rfl⟩
    · exact ⟨_, _, rfl⟩
  obtain ⟨A2, c2, rfl⟩ := hv
  have HR1 := Lib.hid hr1
  have HB1 := Lib.hid hb1
  clear hr1 hb1
  go_wp2
  go_loopw [7, 8] (fun ov i wr => ∃ k : Nat, k ≤ vs.length ∧ i = .int .i64 k ∧ ov = .string (bA (Hd.jn [44, 32] (vs.take k))) ∧ wr = w1) (fun _ i _ => vs.length - (intOf i).toNat)
  case atStart => exact ⟨0, by omega, rfl, rfl, rfl⟩
  case round =>
    obtain ⟨k, hk, rfl, rfl, rfl⟩ := hrel
    by_cases hlt : k < vs.length
    · rcases owns_view HR1.out with ⟨e1, h0⟩ | ⟨g, cap, e1, _, hg, _, hc⟩
      · exfalso; rw [h0] at hlt; simp at hlt
      · cases e1
        obtain ⟨x, hx⟩ : ∃ x, vs[k] = x := ⟨_, rfl⟩
        have hxl : x.length ≤ 5000 := by rw [← hx]; exact HVE.out _ (List.getElem_mem hlt)
        have hce : wr.cell? ⟨g, k, none⟩ = some (.string (bA x)) := by rw [← hx]; exact hc k hlt
        have hj := jn_take (sep := [44, 32]) hlt
        have hle : (Hd.jn [44, 32] (vs.take k)).length ≤ k * 5002 := jn_take_le (sep := [44, 32]) (m := 5000) HVE.out k
        rw [hx] at hj
        obtain ⟨acc, hacc⟩ : ∃ acc, Hd.jn [44, 32] (vs.take k) = acc := ⟨_, rfl⟩
        rw [hacc] at hj hle ⊢
        have HJ := Lib.hid hj
        have hsa : (bA acc).size ≤ 100000000 := by rw [bA_size]; omega
        have hsx : (bA x).size ≤ 100000000 := by rw [bA_size]; omega
        clear hc hx hj hacc
        by_cases hk0 : k = 0
        · subst hk0
          have h0 : ¬ ((0 : Int) < ((0 : Nat) : Int)) := by decide
          obtain rfl : acc = [] := List.length_eq_zero_iff.1 (by omega)
          go_wp2_with fail
          exact ⟨⟨1, by omega, rfl, by rw [show (1 : Nat) = 0 + 1 from rfl, HJ.out, bA_app]; rfl, trivial⟩, by simp [intOf]; omega⟩
        · have h0 : (0 : Int) < (k : Int) := by omega
          go_wp2_with fail
          exact ⟨⟨k + 1, by omega, by go_num, by rw [HJ.out, if_neg hk0, show ({ data := #[44, 32] } : ByteArray) = bA [44, 32] from rfl, bA_app, bA_app], trivial⟩, by simp [intOf]; omega⟩
    · obtain rfl : k = vs.length := by omega
      go_wp2_with fail
      go_ret2
      exact ⟨by rw [HC.out, HH.out, List.take_of_length_le (Nat.le_refl _)]; rfl, HB1.out⟩
end Go.Proofs.YtgddmihojladfaaGreatDoor
