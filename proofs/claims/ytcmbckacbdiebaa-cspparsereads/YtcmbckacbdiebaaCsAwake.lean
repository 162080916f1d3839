/- The contracts of the statements' lines and of their head (awake). -/
import Derived.Test.YtcmbckacbdiebaaCsText
import Derived.Test.YtcmbckacbdiebaaHdLine
namespace Go.Proofs.Ytcmbckacbdiebaa
open Go.RowKit

theorem csp_line (s : ByteArray) (w : World) : Calls Try.prog 19 #[.string s] w fun e w' => e = .returned (.agg #[.string (bA Cs.nHG), .string s]) ∧ Below w.heap.size w w' := by
  go_enter Try.func19, Try.ntmps19
  go_wp2_with fail
  exact bodyPost_ret (results_line rfl _ w _ _ rfl) rfl ⟨rfl, (Below.refl _ w).alloc (Nat.le_refl _) _⟩
def cw0 : List UInt8 := [70, 114, 97, 109, 101, 45, 65, 110, 99, 101, 115, 116, 111, 114, 115, 32, 97, 32, 32, 98, 59, 32, 115, 97, 110, 100, 98, 111, 120, 59, 32, 102, 114, 97, 109, 101, 45, 97, 110, 99, 101, 115, 116, 111, 114, 115, 32, 99]
def cw1 : List UInt8 := [115, 97, 110, 100, 98, 111, 120, 32, 120, 44, 32, 105, 109, 103, 45, 115, 114, 99, 32, 121]
def cw2 : List UInt8 := [102, 114, 97, 109, 101, 45, 97, 110, 99, 101, 115, 116, 111, 114, 115, 32, 39, 110, 111, 110, 101, 39]
def cwN : List UInt8 := [39, 110, 111, 110, 101, 39]
def cwT : List UInt8 := [102, 114, 97, 109, 101, 45, 97, 110, 99, 101, 115, 116, 111, 114, 115, 32, 97, 32, 98, 59, 32, 115, 97, 110, 100, 98, 111, 120]
theorem one_is {s : List UInt8} {a b : Option (List (List UInt8))} (h1 : Cs.firstD (Cs.dirs s) Cs.nA = a) (h2 : Cs.firstD (Cs.dirs s) Cs.nB = b) : Cs.one s = Cs.mk a b := by unfold Cs.one; rw [h1, h2]
theorem cw0V : Cs.one cw0 = ⟨true, [[97], [98]], true, []⟩ := one_is (a := some [[97], [98]]) (b := some []) (by decide +kernel) (by decide +kernel)
theorem cw1V : Cs.pols cw1 = [⟨false, [], true, [[120]]⟩] := by
  unfold Cs.pols
  rw [show Oct.split Cs.comma cw1 = [[115, 97, 110, 100, 98, 111, 120, 32, 120], [32, 105, 109, 103, 45, 115, 114, 99, 32, 121]] by decide +kernel, List.map_cons, List.map_singleton,
    one_is (s := [115, 97, 110, 100, 98, 111, 120, 32, 120]) (a := none) (b := some [[120]]) (by decide +kernel) (by decide +kernel),
    one_is (s := [32, 105, 109, 103, 45, 115, 114, 99, 32, 121]) (a := none) (b := none) (by decide +kernel) (by decide +kernel)]
  rfl
theorem cw2V : Cs.pols cw2 = [⟨true, [cwN], false, []⟩] := by
  unfold Cs.pols
  rw [show Oct.split Cs.comma cw2 = [cw2] by decide +kernel, List.map_singleton, one_is (s := cw2) (a := some [cwN]) (b := none) (by decide +kernel) (by decide +kernel)]
  rfl
theorem cwH : Cs.heads [⟨Cs.nHG, cw1⟩, ⟨Cs.nHG, cw2⟩] = [⟨false, [], true, [[120]]⟩, ⟨true, [cwN], false, []⟩] := by rw [Cs.heads_two, cw1V, cw2V]; rfl
theorem cwTV : Cs.text ⟨true, [[97], [98]], true, []⟩ = cwT := by decide +kernel
theorem cwFit : FitP ⟨true, [[97], [98]], true, []⟩ := ⟨by decide, by decide⟩
set_option maxHeartbeats 4000000 in
set_option maxRecDepth 20000 in
theorem awake10_any (w : World) : Calls Try.prog 9 #[] w fun e w' => e = .returned (.bool true) ∧ Below w.heap.size w w' := by
  have k1 := csOne_any cw0 w (by decide)
  rw [cw0V] at k1
  have k2 := fun W A c (h : SeenH W A [⟨Cs.nHG, cw1⟩, ⟨Cs.nHG, cw2⟩]) => csHead_any A c 2 [⟨Cs.nHG, cw1⟩, ⟨Cs.nHG, cw2⟩] W rfl (small_two (by decide) (by decide) (by decide) (by decide)) h
  simp only [cwH] at k2
  have k3 := fun v W h => csText_any ⟨true, [[97], [98]], true, []⟩ v W cwFit (by decide) (by decide) h
  simp only [cwTV] at k3
  have K1 := Lib.hid k1; have K2 := Lib.hid k2; have K3 := Lib.hid k3
  clear k1 k2 k3
  go_enter Try.func9, Try.ntmps9
  go_wp2_with fail
  refine K1.out.mono ?_
  rintro e w1 ⟨v, rfl, hb1, A1, c1, A2, c2, rfl, t1, t2⟩
  have HX1 := Lib.hid (CBox.new w1 26 (polC ⟨true, [[97], [98]], true, []⟩ A1 c1 A2 c2))
  have HB1 : Hid (Below w.heap.size w (w1.alloc (.cells (polC ⟨true, [[97], [98]], true, []⟩ A1 c1 A2 c2) 26))) := Lib.hid (hb1.alloc hb1.size _)
  have HT1 := Lib.hid (t1.below ((Below.refl _ _).alloc (Nat.le_refl _) (.cells (polC ⟨true, [[97], [98]], true, []⟩ A1 c1 A2 c2) 26)))
  have HT2 := Lib.hid (t2.below ((Below.refl _ _).alloc (Nat.le_refl _) (.cells (polC ⟨true, [[97], [98]], true, []⟩ A1 c1 A2 c2) 26)))
  clear hb1 t1 t2
  unfold polC at *
  dsimp only [List.length_cons, List.length_nil] at *
  go_wp2_with fail
  refine (csp_line _ _).mono ?_
  rintro e w2 ⟨rfl, hb2⟩
  have HX2 := Lib.hid (HX1.out.keep hb2); have HB2 := Lib.hid (Below.onto HB1.out hb2); have HT3 := Lib.hid (HT1.out.below hb2); have HT4 := Lib.hid (HT2.out.below hb2)
  clear hb2
  go_wp2_with fail
  refine (csp_line _ _).mono ?_
  rintro e w3 ⟨rfl, hb3⟩
  have HX3 := Lib.hid (HX2.out.keep hb3); have HB3 := Lib.hid (Below.onto HB2.out hb3); have HT5 := Lib.hid (HT3.out.below hb3); have HT6 := Lib.hid (HT4.out.below hb3)
  clear hb3
  unfold bA Cs.nHG
  go_wp2_with fail
  refine (K2.out _ _ _ (two_line w3 Cs.nHG cw1 Cs.nHG cw2)).mono ?_
  rintro e w4 ⟨v4, rfl, hb4, ho4⟩
  have hb5 : Below w3.heap.size w3 w4 := Below.onto1 (Below.refl _ w3) hb4
  have HX4 := Lib.hid (HX3.out.keep hb5); have HB4 := Lib.hid (Below.onto HB3.out hb5)
  have hT7 := HT5.out.below hb5; have hT8 := HT6.out.below hb5
  have hP : PolAt w4 ⟨true, [[97], [98]], true, []⟩ (.agg (polC ⟨true, [[97], [98]], true, []⟩ A1 c1 A2 c2)) := ⟨A1, c1, A2, c2, rfl, hT7.seen, hT8.seen⟩
  have K := Lib.hid (K3.out _ w4 hP)
  obtain ⟨A4, c4, rfl⟩ := ho4.slice
  obtain ⟨g4, o4, rfl, hg4, hc4⟩ := ho4.seen (by decide)
  obtain ⟨B1, d1, B2, d2, x1, x2, x3⟩ := hc4 0 (by decide)
  obtain ⟨B3, d3, B4, d4, y1, y2, y3⟩ := hc4 1 (by decide)
  have e0 : w4.cell? ⟨g4, o4 + 3, none⟩ = some (.slice B2 1 d2) := by have := x1 3 (by omega); simpa [polC] using this
  have e1 : w4.cell? ⟨g4, o4 + 4, none⟩ = some (.bool true) := by have := y1 0 (by omega); simpa [polC] using this
  obtain ⟨g5, o5, rfl, hg5, hc5⟩ := x3.seen (by decide)
  have e2 : w4.cell? ⟨g5, o5, none⟩ = some (.string ⟨#[120]⟩) := hc5 0 (by decide)
  obtain ⟨g6, o6, rfl, hg6, hc6⟩ := hT7.seen (by decide)
  have e3 : w4.cell? ⟨g6, o6 + 1, none⟩ = some (.string ⟨#[98]⟩) := hc6 1 (by decide)
  have z0 : w4.cell? ⟨w1.heap.size, 0, none⟩ = some (.bool true) := HX4.out.c 0
  have z1 : w4.cell? ⟨w1.heap.size, 1, none⟩ = some (.slice (some ⟨g6, o6, none⟩) 2 c1) := HX4.out.c 1
  have z2 : w4.cell? ⟨w1.heap.size, 2, none⟩ = some (.bool true) := HX4.out.c 2
  have z3 : w4.cell? ⟨w1.heap.size, 3, none⟩ = some (.slice A2 0 c2) := HX4.out.c 3
  have hlen : ([⟨false, [], true, [[120]]⟩, ⟨true, [cwN], false, []⟩] : List Cs.Pol).length = 2 := rfl
  rw [hlen]
  unfold polC at K
  dsimp only [List.length_cons, List.length_nil] at K
  clear ho4 hc4 x1 x2 x3 y1 y2 y3 hc5 hc6 hT7 hT8 hP hb4 hb5 HX1 HX2 HX3 HB1 HB2 HB3 HT1 HT2 HT3 HT4 HT5 HT6 K1 K2 K3 hlen
  go_wp2_with fail
  refine K.out.mono ?_
  rintro e w5 ⟨rfl, hb5⟩
  have HB5 := Lib.hid (Below.onto HB4.out hb5)
  clear hb5
  unfold bA cwT
  go_wp2_with fail
  go_ret
  exact ⟨rfl, HB5.out⟩
end Go.Proofs.Ytcmbckacbdiebaa
