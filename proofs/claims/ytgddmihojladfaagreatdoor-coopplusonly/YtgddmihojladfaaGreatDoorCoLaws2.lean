/- The walk of CoopReports. -/
import Derived.Test.YtgddmihojladfaaGreatDoorCoAwake
import Derived.Test.YtgddmihojladfaaGreatDoorHdOpen
namespace Go.Proofs.YtgddmihojladfaaGreatDoor
open Go.RowKit

/-- What stands while the calls of one statement are made: a list of headers, and policies in blocks. -/
structure RdyB (w0 : World) (A : Option Addr) (l : List Hd.Hdr) (Ls : List (Nat × TypeId × Co.Pol)) (W : World) : Prop where
  b : Below w0.heap.size w0 W
  seen : SeenH W A l
  boxes : ∀ t ∈ Ls, CBox W t.1 t.2.1 (plC t.2.2)
theorem RdyB.on {w0 : World} {A : Option Addr} {l : List Hd.Hdr} {Ls : List (Nat × TypeId × Co.Pol)} {W W' : World} (h : RdyB w0 A l Ls W) (hb : Below W.heap.size W W') : RdyB w0 A l Ls W' :=
  ⟨Below.onto h.b hb, h.seen.below hb, fun t ht => (h.boxes t ht).keep hb⟩
theorem RdyB.box {w0 : World} {A : Option Addr} {l : List Hd.Hdr} {Ls : List (Nat × TypeId × Co.Pol)} {W : World} (h : RdyB w0 A l Ls W) (t : TypeId) (p : Co.Pol) : RdyB w0 A l ((W.heap.size, t, p) :: Ls) (W.alloc (.cells (plC p) t)) := by
  have hb : Below W.heap.size W (W.alloc (.cells (plC p) t)) := (Below.refl _ W).alloc (Nat.le_refl _) _
  refine ⟨Below.onto h.b hb, h.seen.below hb, fun t' ht => ?_⟩
  rcases List.mem_cons.1 ht with rfl | ht
  · exact CBox.new _ _ _
  · exact (h.boxes t' ht).keep hb
theorem small_plain {l : List Hd.Hdr} (h : SmallH l) : SmallH (Co.plain l) := ⟨Nat.le_trans (plain_le l) h.len, fun x hx => h.each x (List.mem_filter.1 hx).1⟩
set_option maxHeartbeats 8000000 in
set_option maxRecDepth 20000 in
theorem walk_CoopReports (A : Option Addr) (c : Nat) (l : List Hd.Hdr) (w : World) (hW : WideHs w A c l) :
    Calls Tryz.prog 5 #[.slice A l.length c] w fun e w' => e = .returned (.bool true) ∧ Below w.heap.size w w' := by
  have hS := hW.seen
  have HS := Lib.hid hS
  have hlow := fun W (h : SeenH W A l) => low_any A c l.length l W rfl h
  obtain ⟨b, hb⟩ : ∃ b, lowB l = b := ⟨_, rfl⟩
  rw [hb] at hlow
  have HLOW := Lib.hid hlow
  clear hS hW hlow
  cases b with
  | false =>
    clear hb
    go_enter Tryz.func5, Tryz.ntmps5
    go_wp2_with fail
    refine (awake8_any _).mono ?_
    rintro e w1 ⟨rfl, hb1⟩
    go_wp2_with fail
    refine (HLOW.out _ (HS.out.below hb1)).mono ?_
    rintro e w2 ⟨rfl, rfl⟩
    go_wp2_with fail
    go_ret
    exact ⟨rfl, hb1⟩
  | true =>
    have hsm := low_small hb
    have p1 := fun W (h : SeenH W A l) => plain_any A c l.length l W rfl hsm h
    have c1 := fun W (h : SeenH W A l) => coop_any A c l.length l true W rfl hsm h
    have c2 := fun A c W (h : SeenH W A (Co.plain l)) => coop_any A c (Co.plain l).length (Co.plain l) true W rfl (small_plain hsm) h
    have c3 := fun W (h : SeenH W A l) => coep_any A c l.length l true W rfl hsm h
    have c4 := fun A c W (h : SeenH W A (Co.plain l)) => coep_any A c (Co.plain l).length (Co.plain l) true W rfl (small_plain hsm) h
    rw [Co.coop_plain] at c2
    rw [Co.coep_plain] at c4
    obtain ⟨⟨x1, x2, x3, x4⟩, hX⟩ : ∃ X, Co.coopL l true = X := ⟨_, rfl⟩
    obtain ⟨⟨y1, y2, y3, y4⟩, hY⟩ : ∃ Y, Co.coepL l true = Y := ⟨_, rfl⟩
    rw [hX] at c1 c2
    rw [hY] at c3 c4
    unfold plV plC at c1 c2 c3 c4
    dsimp only at c1 c2 c3 c4
    obtain ⟨PL, hPL⟩ : ∃ PL, Co.plain l = PL := ⟨_, rfl⟩
    rw [hPL] at p1 c2 c4
    have P1 := Lib.hid p1; have C1 := Lib.hid c1; have C2 := Lib.hid c2; have C3 := Lib.hid c3; have C4 := Lib.hid c4
    clear p1 c1 c2 c3 c4 hX hY hb hsm hPL
    go_enter Tryz.func5, Tryz.ntmps5
    go_wp2_with fail
    refine (awake8_any _).mono ?_
    rintro e w1 ⟨rfl, hb1⟩
    go_wp2_with fail
    refine (HLOW.out _ (HS.out.below hb1)).mono ?_
    rintro e w2 ⟨rfl, rfl⟩
    have r1 : RdyB w A l [] _ := ⟨hb1, HS.out.below hb1, fun t ht => by simp at ht⟩
    clear hb1 HLOW HS
    go_wp2_with fail
    refine (C1.out _ r1.seen).mono ?_
    rintro e w2 ⟨rfl, hb2⟩
    have r2 := (r1.on hb2).box 28 ⟨x1, x2, x3, x4⟩
    clear r1 hb2 C1
    unfold plC at r2
    go_wp2_with fail
    refine (P1.out _ r2.seen).mono ?_
    rintro e w3 ⟨v3, rfl, hb3, ho3⟩
    obtain ⟨A3, c3, rfl, hs3, _⟩ := ho3.slice
    have r3 := r2.on hb3
    clear r2 hb3 ho3
    go_wp2_with fail
    refine (C2.out _ _ _ hs3).mono ?_
    rintro e w4 ⟨rfl, hb4⟩
    have r4 := (r3.on hb4).box 28 ⟨x1, x2, 0, []⟩
    clear r3 hb4 C2 hs3
    unfold plC at r4
    go_wp2_with fail
    refine (C3.out _ r4.seen).mono ?_
    rintro e w5 ⟨rfl, hb5⟩
    have r5 := (r4.on hb5).box 30 ⟨y1, y2, y3, y4⟩
    clear r4 hb5 C3
    unfold plC at r5
    go_wp2_with fail
    refine (P1.out _ r5.seen).mono ?_
    rintro e w6 ⟨v6, rfl, hb6, ho6⟩
    obtain ⟨A6, c6, rfl, hs6, _⟩ := ho6.slice
    have r6 := r5.on hb6
    clear r5 hb6 ho6 P1
    go_wp2_with fail
    refine (C4.out _ _ _ hs6).mono ?_
    rintro e w7 ⟨rfl, hb7⟩
    have r7 := (r6.on hb7).box 30 ⟨y1, y2, 0, []⟩
    clear r6 hb7 C4 hs6
    have k1 := r7.boxes _ (.head _)
    have k2 := r7.boxes _ (.tail _ (.head _))
    have k3 := r7.boxes _ (.tail _ (.tail _ (.head _)))
    have k4 := r7.boxes _ (.tail _ (.tail _ (.tail _ (.head _))))
    dsimp only at k1 k2 k3 k4
    have a0 := k1.c 0; have a1 := k1.c 1; have a2 := k1.c 2; have a3 := k1.c 3
    have b0 := k2.c 0; have b1 := k2.c 1
    have d0 := k3.c 0; have d1 := k3.c 1; have d2 := k3.c 2; have d3 := k3.c 3
    have e0 := k4.c 0; have e1 := k4.c 1
    have HB := Lib.hid r7.b
    unfold plC at a0 a1 a2 a3 b0 b1 d0 d1 d2 d3 e0 e1 HB
    clear k1 k2 k3 k4 r7
    go_wp2_with fail
    all_goals
      go_ret
      exact ⟨by simp, HB.out⟩
end Go.Proofs.YtgddmihojladfaaGreatDoor
