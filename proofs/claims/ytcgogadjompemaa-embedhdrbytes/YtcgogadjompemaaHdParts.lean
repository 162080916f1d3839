/- The contracts of headers.partEnd and appendParts. -/
import Derived.Test.YtcgogadjompemaaHdSeen
import Derived.Test.YtcgogadjompemaaOctText
import Derived.Test.YtcgogadjompemaaOctOut
import Derived.RangeFuncBox
import Derived.Maps.AppendAt
namespace Go.Proofs.Ytcgogadjompemaa
open Go.RowKit

namespace Hd
/-- Where the first part ends. -/
def endF : Bool → Bool → List UInt8 → Nat
  | _, _, [] => 0
  | o, e, c :: r =>
    if e then 1 + endF o false r
    else if c == 34 then 1 + endF (!o) false r
    else if o && c == 92 then 1 + endF o true r
    else if !o && c == 44 then 0
    else 1 + endF o false r
theorem endF_le : ∀ (r : List UInt8) (o e : Bool), endF o e r ≤ r.length
  | [], _, _ => by simp [endF]
  | c :: r, o, e => by
    have h1 := endF_le r o false; have h2 := endF_le r (!o) false; have h3 := endF_le r o true
    rw [endF, List.length_cons]
    repeat' split
    all_goals omega
/-- The parts by where the first one ends. -/
theorem partsF_end : ∀ (r : List UInt8) (o e : Bool) (acc : List UInt8), partsF o e acc r = Oct.trim (acc ++ r.take (endF o e r)) :: (if endF o e r = r.length then [] else parts (r.drop (endF o e r + 1)))
  | [], o, e, acc => by simp [partsF, endF]
  | c :: r, o, e, acc => by
    rw [partsF, endF]
    split
    · rw [partsF_end r]; simp [Nat.add_comm 1]
    split
    · rw [partsF_end r]; simp [Nat.add_comm 1]
    split
    · rw [partsF_end r]; simp [Nat.add_comm 1]
    split
    · rename_i h
      have ho : o = false := by rw [Bool.and_eq_true] at h; simpa using h.1
      subst ho
      simp [parts]
    · rw [partsF_end r]; simp [Nat.add_comm 1]
theorem parts_first (s : List UInt8) : parts s = Oct.trim (s.take (endF false false s)) :: (if endF false false s = s.length then [] else parts (s.drop (endF false false s + 1))) := by
  have := partsF_end s false false []
  simpa [parts] using this
section
variable {o : Bool} {r : List UInt8} {c : UInt8}
theorem end_quote : endF o false (34 :: r) = 1 + endF (!o) false r := by rw [endF, if_neg (by decide), if_pos (by decide)]
theorem end_back : endF true false (92 :: r) = 1 + endF true true r := by rw [endF, if_neg (by decide), if_neg (by decide), if_pos (by decide)]
theorem end_esc : endF o true (c :: r) = 1 + endF o false r := by rw [endF, if_pos rfl]
theorem end_comma : endF false false (44 :: r) = 0 := by rw [endF, if_neg (by decide), if_neg (by decide), if_neg (by decide), if_pos (by decide)]
theorem end_open (h1 : c ≠ 34) (h2 : c ≠ 92) : endF true false (c :: r) = 1 + endF true false r := by
  rw [endF, if_neg (by decide), if_neg (by simpa using h1), if_neg (by simpa using h2), if_neg (by simp)]
theorem end_shut (h1 : c ≠ 34) (h2 : c ≠ 44) : endF false false (c :: r) = 1 + endF false false r := by
  rw [endF, if_neg (by decide), if_neg (by simpa using h1), if_neg (by simp), if_neg (by simpa using h2)]
end
/-- How far the scan has come: k bytes, or one more than there are. -/
structure EndI (s : List UInt8) (k : Nat) (o : Bool) : Prop where
  le : k ≤ s.length + 1
  is : min k s.length + endF o false (s.drop k) = endF false false s
theorem EndI.zero (s : List UInt8) : EndI s 0 false := ⟨by omega, by simp⟩
theorem EndI.over {s : List UInt8} {k : Nat} {o : Bool} (h : EndI s k o) (hk : s.length ≤ k) : endF false false s = min k s.length := by
  have := h.is
  rw [List.drop_eq_nil_of_le hk, endF] at this; omega
variable {s : List UInt8} {k : Nat} {o : Bool}
theorem drop_at (hk : k < s.length) : s.drop k = s[k] :: s.drop (k + 1) := List.drop_eq_getElem_cons hk
theorem EndI.quote (h : EndI s k o) (hk : k < s.length) (hc : s[k] = 34) : EndI s (k + 1) (!o) := by
  refine ⟨by omega, ?_⟩
  have := h.is
  rw [drop_at hk, hc, end_quote] at this; omega
theorem EndI.comma (h : EndI s k false) (hk : k < s.length) (hc : s[k] = 44) : endF false false s = k := by
  have := h.is
  rw [drop_at hk, hc, end_comma] at this; omega
theorem EndI.back (h : EndI s k true) (hk : k < s.length) (hc : s[k] = 92) : EndI s (k + 2) true := by
  refine ⟨by omega, ?_⟩
  have := h.is
  rw [drop_at hk, hc, end_back] at this
  by_cases hk2 : k + 1 < s.length
  · rw [drop_at hk2, end_esc, show k + 1 + 1 = k + 2 from rfl] at this; omega
  · rw [List.drop_eq_nil_of_le (by omega), endF] at this
    rw [List.drop_eq_nil_of_le (by omega), endF]; omega
theorem EndI.open (h : EndI s k true) (hk : k < s.length) (h1 : s[k] ≠ 34) (h2 : s[k] ≠ 92) : EndI s (k + 1) true := by
  refine ⟨by omega, ?_⟩
  have := h.is
  rw [drop_at hk, end_open h1 h2] at this; omega
theorem EndI.shut (h : EndI s k false) (hk : k < s.length) (h1 : s[k] ≠ 34) (h2 : s[k] ≠ 44) : EndI s (k + 1) false := by
  refine ⟨by omega, ?_⟩
  have := h.is
  rw [drop_at hk, end_shut h1 h2] at this; omega
end Hd

theorem ne_byte7 {c : UInt8} {k : Int} (h : ((c.toNat : Int) == k) = false) (m : UInt8) (hm : (m.toNat : Int) = k) : c ≠ m := by
  rintro rfl
  rw [hm] at h; simp at h
theorem eq_byte {c : UInt8} {k : Int} (h : ((c.toNat : Int) == k) = true) (m : UInt8) (hm : (m.toNat : Int) = k) : c = m := by
  have := beq_iff_eq.1 h
  exact UInt8.toNat_inj.1 (by omega)
set_option maxHeartbeats 2000000 in
theorem partEnd_any (s : ByteArray) (w : World) (hs : s.size ≤ 1000000) : Calls Try.prog 37 #[.string s] w fun e w' => e = .returned (.int .i64 (Hd.endF false false s.data.toList)) ∧ Below w.heap.size w w' := by
  have hsl : s.data.toList.length = s.size := by simp
  have H0 := Lib.hid (Hd.EndI.zero s.data.toList)
  have hEle := Hd.endF_le s.data.toList false false
  go_enter Try.func37, Try.ntmps37
  go_wp2
  go_step3
  go_wp2
  go_step3
  go_wp2
  go_loopw [3, 4] (fun q i wr => ∃ (k m : Nat) (o : Bool), k ≤ s.size + 1 ∧ q = .bool o ∧ i = .int .i64 k ∧ wr = w.drewN m ∧ Hid (Hd.EndI s.data.toList k o)) (fun _ i _ => s.size + 1 - (intOf i).toNat)
  case atStart => exact ⟨0, 0, false, by omega, rfl, rfl, rfl, H0⟩
  case round =>
    obtain ⟨k, m, o, hk, rfl, rfl, rfl, hI⟩ := hrel
    by_cases hlt : k < s.size
    · obtain ⟨c, hc⟩ : ∃ c, s[k] = c := ⟨_, rfl⟩
      have hk2 : k < s.data.toList.length := by omega
      have hcl : Hid (s.data.toList[k] = c) := Lib.hid hc
      go_wp2
      · have h1 : ((c.toNat : Int) == 34) = true := by assumption
        exact ⟨⟨k + 1, m, !o, by omega, rfl, by go_num, rfl, Lib.hid (hI.out.quote hk2 (by rw [hcl.out]; exact eq_byte h1 34 rfl))⟩, by simp [intOf]; omega⟩
      · have h2 : ((c.toNat : Int) == 92) = true := by assumption
        have ho : o = true := by assumption
        subst ho
        exact ⟨⟨k + 2, m, true, by omega, rfl, by simp; omega, rfl, Lib.hid (hI.out.back hk2 (by rw [hcl.out]; exact eq_byte h2 92 rfl))⟩, by simp [intOf]; omega⟩
      · have h1 : ((c.toNat : Int) == 34) = false := by assumption
        have h2 : ((c.toNat : Int) == 92) = true := by assumption
        have ho : o = false := by assumption
        subst ho
        have e := eq_byte h2 92 rfl
        exact ⟨⟨k + 1, m, false, by omega, rfl, by go_num, rfl, Lib.hid (hI.out.shut hk2 (by rw [hcl.out, e]; decide) (by rw [hcl.out, e]; decide))⟩, by simp [intOf]; omega⟩
      · have h3 : ((c.toNat : Int) == 44) = true := by assumption
        have ho : (!o) = true := by assumption
        obtain rfl : o = false := by simpa using ho
        rw [Exit.noGoto_ret]
        go_ret
        exact ⟨Oct.ret_int (by rw [hI.out.comma hk2 (by rw [hcl.out]; exact eq_byte h3 44 rfl)]), below_drewN' (Below.refl _ _) _⟩
      · have h1 : ((c.toNat : Int) == 34) = false := by assumption
        have h3 : ((c.toNat : Int) == 44) = true := by assumption
        have ho : (!o) = false := by assumption
        obtain rfl : o = true := by simpa using ho
        have e := eq_byte h3 44 rfl
        exact ⟨⟨k + 1, m, true, by omega, rfl, by go_num, rfl, Lib.hid (hI.out.open hk2 (by rw [hcl.out, e]; decide) (by rw [hcl.out, e]; decide))⟩, by simp [intOf]; omega⟩
      · have h1 : ((c.toNat : Int) == 34) = false := by assumption
        have h2 : ((c.toNat : Int) == 92) = false := by assumption
        have h3 : ((c.toNat : Int) == 44) = false := by assumption
        have hn : Hid (Hd.EndI s.data.toList (k + 1) o) := Lib.hid (by
          cases o with
          | true => exact hI.out.open hk2 (by rw [hcl.out]; exact ne_byte7 h1 34 rfl) (by rw [hcl.out]; exact ne_byte7 h2 92 rfl)
          | false => exact hI.out.shut hk2 (by rw [hcl.out]; exact ne_byte7 h1 34 rfl) (by rw [hcl.out]; exact ne_byte7 h3 44 rfl))
        exact ⟨⟨k + 1, m, o, by omega, rfl, by go_num, rfl, hn⟩, by simp [intOf]; omega⟩
    · have hov := Lib.hid (hI.out.over (by omega))
      go_wp2
      · have h : s.size < k := by assumption
        first | (rw [Exit.noGoto_ret]; go_ret) | go_ret
        exact ⟨Oct.ret_int (by rw [hov.out]; omega), below_drewN' (Below.refl _ _) _⟩
      · have h : ¬ s.size < k := by assumption
        first | (rw [Exit.noGoto_ret]; go_ret) | go_ret
        exact ⟨Oct.ret_int (by rw [hov.out]; omega), below_drewN' (Below.refl _ _) _⟩
/-- Whatever lies below, and whatever is no cells, stays. -/
def RetRow (base : Nat) (w : World) (ps : List (List UInt8)) (e : Ending) (w' : World) : Prop := ∃ v, e = .returned v ∧ w'.ownsRow base 9 1 v ps.length (ps.map Oct.strV) ∧ Below base w w' ∧ KeepsOthers w w'
theorem row_step {w1 w3 : World} {base : Nat} {v : Value} {n : Nat} {xs : List Value} {o : Obj} (hr : w1.ownsRow base 9 1 v n xs) (hb : base ≤ w1.heap.size) (hg : (w1.alloc o).grownBy w3 v.ownBlock) : Below base w1 w3 ∧ KeepsOthers w1 w3 := by
  refine ⟨((Below.refl base w1).alloc hb o).grown hg (by simp; omega) (fun k hk => (hr.lt k hk).1), (KeepsOthers.alloc w1 o).trans (KeepsOthers.of_grownBy hg fun j o' ej hj => ?_)⟩
  rcases (hr.alloc o).2 with ⟨rfl, _⟩ | ⟨g, cap, cur, rfl, _, hgb, _⟩
  · simp [Value.ownBlock] at ej
  · obtain rfl : g = j := by simpa [Value.ownBlock] using ej
    rw [hgb] at hj; cases hj; rfl
def strLen : Value → Nat
  | .string s => s.size
  | _ => 0
set_option maxHeartbeats 2000000 in
theorem appendParts_any (base : Nat) (v : Value) (ps : List (List UInt8)) (s : ByteArray) (w : World) (hs : s.size ≤ 100000) (hps : ps.length ≤ 10000000) (hb : base ≤ w.heap.size) (hown : w.ownsRow base 9 1 v ps.length (ps.map Oct.strV)) :
    Calls Try.prog 30 #[v, .string s] w (RetRow base w (ps ++ Hd.parts s.data.toList)) := by
  obtain ⟨i0, hi, hz0, hz1, hz2⟩ := info_parts info_string
  have HI := Lib.hid hi; have HZ0 := Lib.hid hz0; have HZ1 := Lib.hid hz1; have HZ2 := Lib.hid hz2
  clear hi hz0 hz1 hz2
  obtain ⟨all, hall⟩ : ∃ all, ps ++ Hd.parts s.data.toList = all := ⟨_, rfl⟩
  rw [hall]
  have HO := Lib.hid hown
  have HALL := Lib.hid hall
  clear hown hall
  go_enter Try.func30, Try.ntmps30
  go_wp2
  go_loopw [0, 1] (fun vv sv wr => ∃ (acc : List (List UInt8)) (t : ByteArray), sv = .string t ∧ t.size ≤ s.size ∧ acc.length + t.size ≤ ps.length + s.size ∧ Hid (acc ++ Hd.parts t.data.toList = all) ∧ Hid (wr.ownsRow base 9 1 vv acc.length (acc.map Oct.strV)) ∧ Hid (Below base w wr) ∧ Hid (KeepsOthers w wr)) (fun _ sv _ => strLen sv)
  case atStart => exact ⟨ps, s, rfl, Nat.le_refl _, Nat.le_refl _, HALL, HO, Lib.hid (Below.refl _ _), Lib.hid (KeepsOthers.refl _)⟩
  case round =>
    obtain ⟨acc, t, rfl, ht, hlen, hin, hrow, hbel, hko⟩ := hrel
    obtain ⟨q, hq⟩ : ∃ q, Hd.endF false false t.data.toList = q := ⟨_, rfl⟩
    have hqt : q ≤ t.size := by
      have := Hd.endF_le t.data.toList false false
      have h2 : t.data.toList.length = t.size := by simp
      omega
    have hcall : ∀ W, Calls Try.prog 37 #[.string t] W fun e w' => e = .returned (.int .i64 q) ∧ Below W.heap.size W w' := fun W => by
      have := partEnd_any t W (by omega)
      rw [hq] at this; exact this
    have hp := Hd.parts_first t.data.toList
    rw [hq] at hp
    have HP := Lib.hid hp
    clear hq hp
    go_wp2_with fail
    refine (hcall _).mono ?_
    rintro e w1 ⟨rfl, hb1⟩
    clear hcall
    obtain ⟨x, hx⟩ : ∃ x, Oct.trim (t.data.toList.take q) = x := ⟨_, rfl⟩
    have hcall : Calls Try.prog 17 #[.string (t.extract 0 q)] w1 fun e w' => e = .returned (.string (bA x)) ∧ w1 = w' := by
      have := otrim_any (t.extract 0 q) w1 (by rw [Byt.take_ext, bA_size, List.length_take]; unfold maxLen; omega)
      rw [Byt.take_ext, show (bA (t.data.toList.take q)).data.toList = t.data.toList.take q from rfl, hx] at this
      rw [Byt.take_ext]; exact this
    have HX := Lib.hid hx
    have hr1 := Lib.hid (owns_below hrow.out hb1)
    have hbel1 := Lib.hid (hbel.out.trans (hb1.mono (Nat.le_trans hb hbel.out.size)))
    have hko1 := Lib.hid (hko.out.trans (⟨hb1.size, fun k o hk _ => (hb1.block k (Array.getElem?_eq_some_iff.1 hk).1).trans hk⟩ : KeepsOthers wr w1))
    have hbs1 : base ≤ w1.heap.size := Nat.le_trans hb hbel1.out.size
    clear hx
    go_wp2_with fail
    refine hcall.mono ?_
    rintro e w2 ⟨rfl, rfl⟩
    clear hcall
    have hx2 := HP.out
    rw [HX.out] at hx2
    by_cases hlast : q = t.size
    · subst hlast
      rw [if_pos (by simp)] at hx2
      have hfin : Hid (acc ++ [x] = all) := Lib.hid (by rw [← hin.out, hx2])
      clear hx2
      go_wp2_with (at_builtin; refine wpList_append_own _ rfl _ _ 26 rfl base 9 i0 (.string ⟨#[]⟩) 1 16 Try.underlying26 HI.out HZ0.out HZ1.out HZ2.out rfl (by decide) _ _ _ rfl (hr1.out.alloc _) ⟨w1.heap.size, 0, none⟩ 1 1 [.string (bA x)] rfl rfl (cell_one_new _ _ _) (by simp [Value.oneCell']) (by unfold maxLen; omega) (by omega) (by simp; omega) ?_; intro v' w3 hown' hgrow _; obtain ⟨g', cap', rfl⟩ := ownsRow_succ hown')
      obtain ⟨hb3, hk3⟩ := row_step hr1.out hbs1 hgrow
      have hrow3 : Hid (w3.ownsRow base 9 1 (.slice (some ⟨g', 0, none⟩) (acc.length + 1) cap') (acc ++ [x]).length ((acc ++ [x]).map Oct.strV)) := Lib.hid (by simpa [Oct.strV] using hown')
      have HB3 := Lib.hid (hbel1.out.trans hb3)
      have HK3 := Lib.hid (hko1.out.trans hk3)
      clear hown' hgrow hb3 hk3
      go_ret
      exact ⟨_, rfl, by rw [← hfin.out]; exact hrow3.out, HB3.out, HK3.out⟩
    · have hq2 : q < t.size := by omega
      rw [if_neg (by simpa using hlast)] at hx2
      have hfin : Hid ((acc ++ [x]) ++ Hd.parts (t.data.toList.drop (q + 1)) = all) := Lib.hid (by rw [← hin.out, hx2]; simp)
      have hqe : ((q : Int) == (t.size : Int)) = false := beq_eq_false_iff_ne.2 (by omega)
      have hqb : (0 : Int) ≤ (q : Int) + 1 ∧ (q : Int) + 1 ≤ (t.size : Int) := by omega
      clear hx2 hlast
      go_wp2_with (at_builtin; refine wpList_append_own _ rfl _ _ 26 rfl base 9 i0 (.string ⟨#[]⟩) 1 16 Try.underlying26 HI.out HZ0.out HZ1.out HZ2.out rfl (by decide) _ _ _ rfl (hr1.out.alloc _) ⟨w1.heap.size, 0, none⟩ 1 1 [.string (bA x)] rfl rfl (cell_one_new _ _ _) (by simp [Value.oneCell']) (by unfold maxLen; omega) (by omega) (by simp; omega) ?_; intro v' w3 hown' hgrow _; obtain ⟨g', cap', rfl⟩ := ownsRow_succ hown')
      obtain ⟨hb3, hk3⟩ := row_step hr1.out hbs1 hgrow
      have hrow3 : Hid (w3.ownsRow base 9 1 (.slice (some ⟨g', 0, none⟩) (acc.length + 1) cap') (acc ++ [x]).length ((acc ++ [x]).map Oct.strV)) := Lib.hid (by simpa [Oct.strV] using hown')
      have HB3 := Lib.hid (hbel1.out.trans hb3)
      have HK3 := Lib.hid (hko1.out.trans hk3)
      clear hown' hgrow hb3 hk3
      have hsz : (bA (t.data.toList.drop (q + 1))).size = t.size - (q + 1) := by rw [bA_size, List.length_drop]; simp
      refine ⟨⟨acc ++ [x], bA (t.data.toList.drop (q + 1)), by rw [Byt.drop_ext], by omega, by rw [List.length_append, hsz]; simp; omega, hfin, hrow3, HB3, HK3⟩, ?_⟩
      rw [Byt.drop_ext]
      show (bA (t.data.toList.drop (q + 1))).size < t.size
      omega
end Go.Proofs.Ytcgogadjompemaa
