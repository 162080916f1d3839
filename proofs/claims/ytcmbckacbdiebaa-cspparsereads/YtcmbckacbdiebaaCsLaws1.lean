/- The walks of the statements CspparseReads and CspparseHeads. -/
import Derived.Test.YtcmbckacbdiebaaCsAwake
import Derived.Test.YtcmbckacbdiebaaCsSame
import Derived.Test.YtcmbckacbdiebaaHdOpen
namespace Go.Proofs.Ytcmbckacbdiebaa
open Go.RowKit

set_option maxHeartbeats 4000000 in
theorem walk_CspparseReads (s : ByteArray) (w : World) (hs : s.size ≤ maxLen) :
    Calls Try.prog 3 #[.string s] w fun e w' => e = .returned (.bool true) ∧ Below w.heap.size w w' := by
  obtain ⟨S, rfl⟩ : ∃ S, s = bA S := ⟨s.data.toList, rfl⟩
  rw [bA_size] at hs
  unfold maxLen at hs
  by_cases hok : S.length ≤ 4000
  · have hz : ¬ ((4000 : Int) < (S.length : Int)) := by omega
    have c1 := fun W => csOne_any S W (by omega)
    have c2 := fun W => rcsOne_any S W (by omega)
    have hf := one_fit (s := S) (by omega)
    obtain ⟨p, hp⟩ : ∃ p, Cs.one S = p := ⟨_, rfl⟩
    rw [hp] at c1 c2 hf
    have C1 := Lib.hid c1; have C2 := Lib.hid c2; have HF := Lib.hid hf
    clear c1 c2 hf hp hok
    go_enter Try.func3, Try.ntmps3
    go_wp2_with fail
    refine (awake10_any _).mono ?_
    rintro e w1 ⟨rfl, hb1⟩
    have HB1 := Lib.hid hb1
    clear hb1
    go_wp2_with fail
    refine (C1.out _).mono ?_
    rintro e w2 ⟨v2, rfl, hb2, hp2⟩
    have HB2 := Lib.hid (Below.onto HB1.out hb2); have HP2 := Lib.hid hp2
    clear hb2 hp2 C1
    go_wp2_with fail
    refine (C2.out _).mono ?_
    rintro e w3 ⟨v3, rfl, hb3, hp3⟩
    have HB3 := Lib.hid (Below.onto HB2.out hb3); have HP3 := Lib.hid hp3; have HP4 := Lib.hid (HP2.out.below hb3)
    clear hb3 hp3 C2
    go_wp2_with fail
    refine (same_self p _ _ _ HF.out HP4.out.at HP3.out.at).mono ?_
    rintro e w4 ⟨rfl, hb4⟩
    have HB4 := Lib.hid (Below.onto HB3.out hb4)
    clear hb4
    go_wp2_with fail
    go_ret
    exact ⟨rfl, HB4.out⟩
  · have hz : (4000 : Int) < (S.length : Int) := by omega
    go_enter Try.func3, Try.ntmps3
    go_wp2_with fail
    refine (awake10_any _).mono ?_
    rintro e w1 ⟨rfl, hb1⟩
    go_wp2_with fail
    go_ret
    exact ⟨rfl, hb1⟩
theorem heads_fit {l : List Hd.Hdr} (hl : SmallH l) : (∀ p ∈ Cs.heads l, FitP p) ∧ (Cs.heads l).length ≤ 5001000 := by
  have hv : ∀ v ∈ Hd.vals l Cs.nH, v.length ≤ 5000 := Hd.vals_each (fun x hx => (hl.each x hx).2)
  constructor
  · intro p hp
    unfold Cs.heads at hp
    obtain ⟨v, h1, h2⟩ := List.mem_flatMap.1 hp
    unfold Cs.pols at h2
    obtain ⟨q, h3, rfl⟩ := List.mem_map.1 (List.mem_filter.1 h2).1
    have h4 := Cs.part_len h3
    have h5 := hv v h1
    exact one_fit (by omega)
  · have h1 := Cs.manyP_len (m := 5000) (Hd.vals l Cs.nH) hv
    have h2 := Hd.vals_len l Cs.nH
    have h3 := hl.len
    have h4 : (Hd.vals l Cs.nH).length * (5000 + 1) ≤ 1000 * 5001 := Nat.mul_le_mul (by omega) (Nat.le_refl _)
    have e : Cs.heads l = Cs.manyP (Hd.vals l Cs.nH) := rfl
    rw [e]; omega
set_option maxHeartbeats 4000000 in
theorem walk_CspparseHeads (A : Option Addr) (c : Nat) (l : List Hd.Hdr) (w : World) (hw : WideHs w A c l) :
    Calls Try.prog 4 #[.slice A l.length c] w fun e w' => e = .returned (.bool true) ∧ Below w.heap.size w w' := by
  have HS := Lib.hid hw.seen
  cases hlow : lowB l with
  | true =>
    have hl := low_small hlow
    have c1 := fun W h => csHead_any A c l.length l W rfl hl h
    have c2 := fun W h => rcsHead_any A c l.length l W rfl hl h
    obtain ⟨hf, hlen⟩ := heads_fit hl
    obtain ⟨ps, hps⟩ : ∃ ps, Cs.heads l = ps := ⟨_, rfl⟩
    rw [hps] at c1 c2 hf hlen
    have C1 := Lib.hid c1; have C2 := Lib.hid c2; have HF := Lib.hid hf
    clear hl c1 c2 hf hps hw
    go_enter Try.func4, Try.ntmps4
    go_wp2_with fail
    refine (awake10_any _).mono ?_
    rintro e w1 ⟨rfl, hb1⟩
    have HS1 := Lib.hid (HS.out.below hb1); have HB1 := Lib.hid hb1
    clear hb1
    go_wp2_with fail
    have hf := low_any A c l.length l w1 rfl HS1.out
    rw [hlow] at hf
    refine hf.mono ?_
    rintro e w2 ⟨rfl, hw2⟩
    rw [hw2]
    clear hf hw2
    go_wp2_with fail
    refine (C1.out _ HS1.out).mono ?_
    rintro e w3 ⟨v3, rfl, hb3, ho3⟩
    obtain ⟨A3, c3, rfl⟩ := ho3.slice
    have HS3 := Lib.hid (HS1.out.below hb3); have HB3 := Lib.hid (Below.onto HB1.out hb3); have HO3 := Lib.hid ho3.seen
    clear hb3 ho3
    go_wp2_with fail
    refine (C2.out _ HS3.out).mono ?_
    rintro e w4 ⟨v4, rfl, hb4, ho4⟩
    obtain ⟨A4, c4, rfl⟩ := ho4.slice
    have HB4 := Lib.hid (Below.onto HB3.out hb4); have HO4 := Lib.hid ho4.seen; have HO5 := Lib.hid (HO3.out.below hb4)
    clear hb4 ho4
    go_wp2_with fail
    refine (sameL_self A3 A4 c3 c4 ps _ (by omega) HF.out HO5.out HO4.out).mono ?_
    rintro e w5 ⟨rfl, hb5⟩
    have HB5 := Lib.hid (Below.onto HB4.out hb5)
    clear hb5
    go_wp2_with fail
    go_ret
    exact ⟨rfl, HB5.out⟩
  | false =>
    clear hw
    go_enter Try.func4, Try.ntmps4
    go_wp2_with fail
    refine (awake10_any _).mono ?_
    rintro e w1 ⟨rfl, hb1⟩
    have HS1 := Lib.hid (HS.out.below hb1); have HB1 := Lib.hid hb1
    clear hb1
    go_wp2_with fail
    have hf := low_any A c l.length l w1 rfl HS1.out
    rw [hlow] at hf
    refine hf.mono ?_
    rintro e w2 ⟨rfl, hw2⟩
    rw [hw2]
    clear hf hw2
    go_wp2_with fail
    go_ret
    exact ⟨rfl, HB1.out⟩
end Go.Proofs.Ytcmbckacbdiebaa
