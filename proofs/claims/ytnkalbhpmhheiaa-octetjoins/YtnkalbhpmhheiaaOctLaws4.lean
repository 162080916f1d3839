/- The walk of the statement that parts with the byte between are the text. -/
import Derived.Test.YtnkalbhpmhheiaaOctLaws3
import Derived.Test.YtnkalbhpmhheiaaOctMath5
namespace Go.Proofs.Ytnkalbhpmhheiaa
open Go.RowKit

/-- What a round keeps: the text gathered so far. -/
structure JnInv (w wr : World) (c : UInt8) (ps : List (List UInt8)) (k : Nat) (a : ByteArray) : Prop where
  bel : Below w.heap.size w wr
  txt : a.data.toList = Oct.join c (ps.take k)

theorem JnInv.next0 {w wr : World} {c : UInt8} {ps : List (List UInt8)} {a x : ByteArray} (h : JnInv w wr c ps 0 a) (hk : 0 < ps.length) (hx : x = ⟨ps[0].toArray⟩) : JnInv w wr c ps (0 + 1) (a ++ x) := by
  refine ⟨h.bel, ?_⟩
  rw [Oct.join_take c ps 0 hk, ← h.txt, hx]
  simp
theorem JnInv.next {w wr : World} {c : UInt8} {ps : List (List UInt8)} {k : Nat} {a x : ByteArray} {o : Obj} (h : JnInv w wr c ps k a) (hsz : w.heap.size ≤ wr.heap.size) (hk0 : 0 < k) (hk : k < ps.length) (hx : x = ⟨ps[k].toArray⟩) : JnInv w (wr.alloc o) c ps (k + 1) (a ++ ⟨#[c]⟩ ++ x) := by
  refine ⟨h.bel.alloc hsz o, ?_⟩
  rw [Oct.join_take c ps k hk, ← h.txt, hx, if_neg (by omega)]
  simp

set_option maxHeartbeats 1000000 in
theorem walk_OctetJoins (s : ByteArray) (b : Int) (hs : s.size ≤ maxLen) (hb : (Lit.int .u8 b).wf = true) (w : World) :
    Calls Try.prog 6 #[.string s, .int .u8 b] w fun e w' => e = .returned (.bool true) ∧ Below w.heap.size w w' := by
  unfold maxLen at hs
  obtain ⟨c, rfl⟩ := byte_of hb
  clear hb
  by_cases hl : s.size ≤ 2000
  · have hcv := conv_one c
    obtain ⟨ps, hps⟩ : ∃ ps, Oct.split (fun x => x == (c.toNat : Int)) s.data.toList = ps := ⟨_, rfl⟩
    have hjoin := Oct.join_split c s.data.toList
    have hnone := Oct.split_in c s.data.toList
    have hplen := Oct.split_len (fun x => x == (c.toNat : Int)) s.data.toList
    have hppos := Oct.split_pos (fun x => x == (c.toNat : Int)) s.data.toList
    rw [hps] at hjoin hplen hppos
    have hjl := Oct.join_len c ps
    rw [hjoin] at hjl
    have l1 : s.data.toList.length = s.size := by simp
    rw [l1] at hjl hplen
    clear l1
    have HN : Hid (∀ k (h : k < ps.length), Oct.inI c.toNat ps[k] = false) := by subst hps; exact hnone
    have HJ := Lib.hid hjoin
    have HL := Lib.hid hjl
    have HP := Lib.hid hps
    clear hnone hjoin hjl hps
    go_enter Try.func6, Try.ntmps6
    go_wp2_with fail
    refine (awake_any _).mono ?_
    rintro e w1 ⟨rfl, hb1⟩
    go_wp2_with fail
    refine (split_any _ _ _ (by omega)).mono ?_
    rintro e w2 ⟨v2, rfl, hb2, ho2⟩
    rw [HP.out] at ho2
    rcases owns_view ho2 with ⟨rfl, h0⟩ | ⟨g, cap, rfl, hm, hg, _, hcells⟩
    · exfalso; subst h0; simp at hppos
    have HC := Lib.hid hcells
    have hbe := Below.onto hb1 hb2
    clear hcells ho2 hm hb1 hb2
    go_wp2_with fail
    go_loopw [7, 8] (fun tx i wr => ∃ k : Nat, ∃ a : ByteArray, k ≤ ps.length ∧ i = .int .i64 k ∧ tx = .string a ∧ a.size ≤ 2000 ∧ JnInv w2 wr c ps k a) (fun _ i _ => ps.length - (intOf i).toNat)
    case atStart => exact ⟨0, ⟨#[]⟩, Nat.zero_le _, rfl, rfl, by decide, Below.refl _ _, rfl⟩
    case round =>
      obtain ⟨k, a, hk, rfl, rfl, ha, hin⟩ := hrel
      by_cases hlt : k < ps.length
      · obtain ⟨x, hx⟩ : ∃ x : ByteArray, x = ⟨ps[k].toArray⟩ := ⟨_, rfl⟩
        have hxl := HL.out k hlt
        have hxs : x.size = ps[k].length := by rw [hx, size_mk]
        have has : a.size = (Oct.join c (ps.take k)).length := by rw [← hin.txt]; simp
        have hno := HN.out k hlt
        have hce := HC.out k hlt
        rw [← hin.bel.cell (by exact hg)] at hce
        have hxv : Oct.strV ps[k] = .string x := by rw [hx]; rfl
        rw [hxv] at hce
        have hno2 : Oct.inI c.toNat x.data.toList = false := by rw [hx]; exact hno
        have hsz := hin.bel.size
        have hxm : a.size + x.size ≤ 2000 ∧ (0 < k → a.size + 1 + x.size ≤ 2000) := by
          by_cases hk0 : k = 0
          · rw [if_pos hk0] at hxl; omega
          · rw [if_neg hk0] at hxl; omega
        have HX := Lib.hid hx
        have hce2 : (wr.alloc (.cells #[.int .u8 (c.toNat : Int)] 5)).cell? ⟨g, k, none⟩ = some (.string x) := by
          rw [World.cell?_alloc_lt _ _ _ (by show g < _; omega)]; exact hce
        obtain ⟨hxm1, hxm2⟩ := hxm
        clear hx hxs has hno hxv hxl
        rcases Nat.eq_zero_or_pos k with hk0 | hk0
        · subst hk0
          clear hce2 hcv hxm2
          go_wp2_with (go_at_call 27; refine (rin_any _ _ _ (by unfold maxLen; omega)).mono ?_; rintro e w' ⟨rfl, rfl⟩)
          go_roundw
          case rel => exact ⟨0 + 1, a ++ x, by omega, by go_num, rfl, by rw [ByteArray.size_append]; omega, hin.next0 hlt HX.out⟩
          case measure => simp [intOf]; omega
        · have hxm3 := hxm2 hk0
          clear hxm2
          have hk1 : (0 : Int) < (k : Int) := by omega
          go_wp2_with (go_at_call 27; refine (rin_any _ _ _ (by unfold maxLen; omega)).mono ?_; rintro e w' ⟨rfl, rfl⟩)
          go_roundw
          case rel => exact ⟨k + 1, a ++ ⟨#[c]⟩ ++ x, by omega, by go_num, rfl, by rw [size_glue]; omega, hin.next hsz hk0 hlt HX.out⟩
          case measure => simp [intOf]; omega
      · have hfin : a.data.toList = s.data.toList := by
          rw [hin.txt, List.take_of_length_le (by omega), HJ.out]
        have hfin2 : a = s := by
          cases a; cases s; simp only at hfin; congr 1; exact Array.toList_inj.1 hfin
        subst hfin2
        have hpp : (0 : Int) < (ps.length : Int) := by omega
        clear hcv hfin
        go_wp2_with fail
        go_ret
        exact ⟨rfl, Below.onto hbe hin.bel⟩
  · go_enter Try.func6, Try.ntmps6
    go_wp2_with fail
    refine (awake_any _).mono ?_
    rintro e w1 ⟨rfl, hb1⟩
    go_wp2_with fail
    all_goals (go_ret; exact ⟨rfl, hb1⟩)
end Go.Proofs.Ytnkalbhpmhheiaa
