/- The walks of the statements EmbedhdrNames and EmbedhdrReads. -/
import Derived.Test.YtcgogadjompemaaEmAwake
import Derived.Test.YtcgogadjompemaaEmRef
import Derived.Test.YtcgogadjompemaaHdOpen
namespace Go.Proofs.Ytcgogadjompemaa
open Go.RowKit

set_option maxHeartbeats 1000000 in
theorem walk_EmbedhdrNames (w : World) : Calls Try.prog 3 #[] w fun e w' => e = .returned (.bool true) ∧ Below w.heap.size w w' := by
  go_enter Try.func3, Try.ntmps3
  go_wp2_with fail
  refine (awake9_any _).mono ?_
  rintro e w1 ⟨rfl, hb1⟩
  go_wp2_with fail
  go_ret
  exact ⟨rfl, hb1⟩
set_option maxHeartbeats 4000000 in
theorem walk_EmbedhdrReads (A : Option Addr) (c : Nat) (l : List Hd.Hdr) (w : World) (hw : WideHs w A c l) :
    Calls Try.prog 4 #[.slice A l.length c] w fun e w' => e = .returned (.bool true) ∧ Below w.heap.size w w' := by
  have HS := Lib.hid hw.seen
  cases hlow : lowB l with
  | true =>
    have hl := low_small hlow
    have c1 := fun W h => corp_any A c l.length l W rfl hl h
    have c2 := fun W h => rcorp_any A c l.length l W rfl hl h
    have c3 := fun W h => xfo_any A c l.length l W rfl hl h
    have c4 := fun W h => rxfo_any A c l.length l W rfl hl h
    obtain ⟨x, hx⟩ : ∃ x, Em.corpL l = x := ⟨_, rfl⟩
    obtain ⟨y, hy⟩ : ∃ y, Em.xfoL l = y := ⟨_, rfl⟩
    rw [hx] at c1 c2; rw [hy] at c3 c4
    have C1 := Lib.hid c1; have C2 := Lib.hid c2; have C3 := Lib.hid c3; have C4 := Lib.hid c4
    clear hl c1 c2 c3 c4 hx hy hw
    go_enter Try.func4, Try.ntmps4
    go_wp2_with fail
    refine (awake9_any _).mono ?_
    rintro e w1 ⟨rfl, hb1⟩
    have HS1 := Lib.hid (HS.out.below hb1); have HB1 := Lib.hid hb1
    clear hb1
    go_wp2_with fail
    have hf := low_any A c l.length l w1 rfl HS1.out
    rw [hlow] at hf
    refine hf.mono ?_
    rintro e w2 ⟨rfl, hw2⟩
    rw [hw2]
    clear hf hw2
    go_wp2_with fail
    refine (C1.out _ HS1.out).mono ?_
    rintro e w3 ⟨rfl, hb3⟩
    have HS3 := Lib.hid (HS1.out.below hb3); have HB3 := Lib.hid (Below.onto HB1.out hb3)
    clear hb3
    go_wp2_with fail
    refine (C2.out _ HS3.out).mono ?_
    rintro e w4 ⟨rfl, hb4⟩
    have HS4 := Lib.hid (HS3.out.below hb4); have HB4 := Lib.hid (Below.onto HB3.out hb4)
    clear hb4
    go_wp2_with fail
    refine (C3.out _ HS4.out).mono ?_
    rintro e w5 ⟨rfl, hb5⟩
    have HS5 := Lib.hid (HS4.out.below hb5); have HB5 := Lib.hid (Below.onto HB4.out hb5)
    clear hb5
    go_wp2_with fail
    refine (C4.out _ HS5.out).mono ?_
    rintro e w6 ⟨rfl, hb6⟩
    have HB6 := Lib.hid (Below.onto HB5.out hb6)
    clear hb6
    go_wp2_with fail
    go_ret
    exact ⟨rfl, HB6.out⟩
  | false =>
    clear hw
    go_enter Try.func4, Try.ntmps4
    go_wp2_with fail
    refine (awake9_any _).mono ?_
    rintro e w1 ⟨rfl, hb1⟩
    have HS1 := Lib.hid (HS.out.below hb1); have HB1 := Lib.hid hb1
    clear hb1
    go_wp2_with fail
    have hf := low_any A c l.length l w1 rfl HS1.out
    rw [hlow] at hf
    refine hf.mono ?_
    rintro e w2 ⟨rfl, hw2⟩
    rw [hw2]
    clear hf hw2
    go_wp2_with fail
    go_ret
    exact ⟨rfl, HB1.out⟩
end Go.Proofs.Ytcgogadjompemaa
