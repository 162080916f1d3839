/- The walk of CoopReads. -/
import Derived.Test.YtgddmihojladfaaGreatDoorCoAwake
import Derived.Test.YtgddmihojladfaaGreatDoorCoRefs
import Derived.Test.YtgddmihojladfaaGreatDoorHdOpen
namespace Go.Proofs.YtgddmihojladfaaGreatDoor
open Go.RowKit

set_option maxHeartbeats 4000000 in
set_option maxRecDepth 20000 in
theorem walk_CoopReads (A : Option Addr) (c : Nat) (l : List Hd.Hdr) (sec : Bool) (k : Int) (w : World) (hW : WideHs w A c l) (_ : (Lit.int .i64 k).wf = true) :
    Calls Tryz.prog 4 #[.slice A l.length c, .bool sec, .int .i64 k] w fun e w' => e = .returned (.bool true) ∧ Below w.heap.size w w' := by
  have hS := hW.seen
  have HS := Lib.hid hS
  have hlow := fun W (h : SeenH W A l) => low_any A c l.length l W rfl h
  obtain ⟨b, hb⟩ : ∃ b, lowB l = b := ⟨_, rfl⟩
  rw [hb] at hlow
  have HLOW := Lib.hid hlow
  clear hS hW hlow
  cases b with
  | false =>
    clear hb
    go_enter Tryz.func4, Tryz.ntmps4
    go_wp2_with fail
    refine (awake8_any _).mono ?_
    rintro e w1 ⟨rfl, hb1⟩
    go_wp2_with fail
    refine (HLOW.out _ (HS.out.below hb1)).mono ?_
    rintro e w2 ⟨rfl, rfl⟩
    go_wp2_with fail
    go_ret
    exact ⟨rfl, hb1⟩
  | true =>
    have hsm := low_small hb
    have hpl : (Co.plain l).length ≤ 100000 := by have := plain_le l; have := low_len hb; omega
    have p1 := fun W (h : SeenH W A l) => plain_any A c l.length l W rfl hsm h
    have p2 := fun W (h : SeenH W A l) => rplain_any A c l.length l W rfl hsm h
    have p3 := fun A B c d W (h : SeenH W A (Co.plain l)) (h' : SeenH W B (Co.plain l)) => same_self A B c d (Co.plain l).length (Co.plain l) W rfl hpl h h'
    have c1 := fun W (h : SeenH W A l) => coop_any A c l.length l sec W rfl hsm h
    have c2 := fun W (h : SeenH W A l) => rcoop_any A c l.length l sec W rfl hsm h
    have c3 := fun W (h : SeenH W A l) => coep_any A c l.length l sec W rfl hsm h
    have c4 := fun W (h : SeenH W A l) => rcoep_any A c l.length l sec W rfl hsm h
    obtain ⟨⟨x1, x2, x3, x4⟩, hX⟩ : ∃ X, Co.coopL l sec = X := ⟨_, rfl⟩
    obtain ⟨⟨y1, y2, y3, y4⟩, hY⟩ : ∃ Y, Co.coepL l sec = Y := ⟨_, rfl⟩
    rw [hX] at c1 c2
    rw [hY] at c3 c4
    unfold plV plC at c1 c2 c3 c4
    dsimp only at c1 c2 c3 c4
    have P1 := Lib.hid p1; have P2 := Lib.hid p2; have P3 := Lib.hid p3; have C1 := Lib.hid c1; have C2 := Lib.hid c2; have C3 := Lib.hid c3; have C4 := Lib.hid c4
    clear p1 p2 p3 c1 c2 c3 c4 hX hY hb hsm hpl
    obtain ⟨PL, hPL⟩ : ∃ PL, Co.plain l = PL := ⟨_, rfl⟩
    rw [hPL] at P1 P2 P3
    clear hPL
    go_enter Tryz.func4, Tryz.ntmps4
    go_wp2_with fail
    refine (awake8_any _).mono ?_
    rintro e w1 ⟨rfl, hb1⟩
    go_wp2_with fail
    refine (HLOW.out _ (HS.out.below hb1)).mono ?_
    rintro e w2 ⟨rfl, rfl⟩
    go_wp2_with fail
    refine (P1.out _ (HS.out.below hb1)).mono ?_
    rintro e w2 ⟨v2, rfl, hb2, ho2⟩
    obtain ⟨A2, c2, rfl, hs2, _⟩ := ho2.slice
    have hw2 := Below.onto hb1 hb2
    go_wp2_with fail
    refine (P2.out _ (HS.out.below hw2)).mono ?_
    rintro e w3 ⟨v3, rfl, hb3, ho3⟩
    obtain ⟨A3, c3, rfl, hs3, _⟩ := ho3.slice
    have hw3 := Below.onto hw2 hb3
    have hs2' := hs2.below hb3
    clear hb1 hb2 hb3 hw2 ho2 ho3 hs2
    go_wp2_with fail
    refine (P3.out _ _ _ _ _ hs2' hs3).mono ?_
    rintro e w4 ⟨rfl, hb4⟩
    have hw4 := Below.onto hw3 hb4
    clear hs2' hs3 hw3 hb4
    go_wp2_with fail
    refine (C1.out _ (HS.out.below hw4)).mono ?_
    rintro e w5 ⟨rfl, hb5⟩
    have hw5 := Below.onto hw4 hb5
    go_wp2_with fail
    refine (C2.out _ (HS.out.below hw5)).mono ?_
    rintro e w6 ⟨rfl, hb6⟩
    have hw6 := Below.onto hw5 hb6
    clear hw4 hw5 hb5 hb6
    go_wp2_with fail
    refine (C3.out _ (HS.out.below hw6)).mono ?_
    rintro e w7 ⟨rfl, hb7⟩
    have hw7 := Below.onto hw6 hb7
    go_wp2_with fail
    refine (C4.out _ (HS.out.below hw7)).mono ?_
    rintro e w8 ⟨rfl, hb8⟩
    have hw8 := Below.onto hw7 hb8
    clear hw6 hw7 hb7 hb8
    go_wp2_with fail
    refine (isolates_any _ _).mono ?_
    rintro e w9 ⟨rfl, rfl⟩
    go_wp2_with fail
    refine (risolates_any _ _).mono ?_
    rintro e w9 ⟨rfl, rfl⟩
    go_wp2_with fail
    all_goals
      go_ret
      exact ⟨by simp, hw8⟩
end Go.Proofs.YtgddmihojladfaaGreatDoor
