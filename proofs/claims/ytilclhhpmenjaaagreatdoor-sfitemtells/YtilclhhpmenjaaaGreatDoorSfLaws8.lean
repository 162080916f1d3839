/- The walk of SfitemTells. -/
import Derived.Test.YtilclhhpmenjaaaGreatDoorSfRef17
import Derived.Test.YtilclhhpmenjaaaGreatDoorSfSmall
namespace Go.Proofs.YtilclhhpmenjaaaGreatDoor
open Go.RowKit Go.Shelf Go.Maps Go.Deep

theorem textV_form (o : Option (List UInt8)) : ∃ (X : List UInt8) (E : Int), textV o = .tuple #[.string (bA X), .int .i64 E] := ⟨_, _, rfl⟩
set_option maxHeartbeats 4000000 in
set_option maxRecDepth 100000 in
theorem walk_SfitemTells (k n : Int) (t : List UInt8) (A : Option Addr) (c : Nat) (l : List Sf.Par) (w : World) (hI : WideI w n t A l) (hT : Tab w) (hM : TabM w) :
    Calls Tryz.prog 6 #[.agg #[.int .i64 k, .int .i64 n, .string (bA t), .slice A l.length c]] w fun e w' => e = .returned (.bool true) ∧ Below w.heap.size w w' := by
  have hb0 : Below w.heap.size w (w.alloc (.cells (iC k n t (.slice A l.length c)) 25)) := (Below.refl _ _).alloc (Nat.le_refl _) _
  have HB0 := Lib.hid hb0
  have HX0 := Lib.hid (CBox.new w 25 (iC k n t (.slice A l.length c)))
  have H := Lib.hid (awake_any _ (hT.below hb0) (hM.below hb0))
  have HT := Lib.hid hT; have HM := Lib.hid hM; have HS := Lib.hid hI.seen
  have HF := Lib.hid (fun (W : World) (h : SeenP W A l) => few_any k n t A c l W h hI.text hI.len)
  cases hf : fewB t l with
  | false =>
    rw [hf] at HF
    clear hf hI hb0 hT hM
    go_enter Tryz.func6, Tryz.ntmps6
    go_wp2_with fail
    refine H.out.mono ?_
    rintro e w1 ⟨rfl, hb1⟩
    have HB1 := Lib.hid (onto HB0.out hb1)
    have HX1 := Lib.hid (HX0.out.keep hb1)
    obtain ⟨c0, c1, c2, c3, _, _, _, _⟩ := HX1.out.all4
    clear hb1 HX0
    go_wp2_with fail
    refine (HF.out _ (HS.out.below HB1.out)).mono ?_
    rintro e w2 ⟨rfl, hb2⟩
    have HB2 := Lib.hid (onto HB1.out hb2)
    clear c0 c1 c2 c3 hb2 HF
    go_wp2_with fail
    go_ret
    exact ⟨rfl, HB2.out⟩
  | true =>
    have HSm := Lib.hid (small_few (k := k) hf hI.n0 hI.n1 hI.each)
    rw [hf] at HF
    obtain ⟨X, E, hX⟩ := textV_form (Sf.text ⟨k, n, t, l⟩)
    obtain ⟨Y, F, hY⟩ := textV_form (Sf.tailF [] l)
    have H1 := Lib.hid (fun (W : World) (hb : Below w.heap.size w W) => text_any k n t A c l W HSm.out (HS.out.below hb) (HT.out.below hb) (HM.out.below hb))
    have H2 := Lib.hid (fun (W : World) (hb : Below w.heap.size w W) => rtext_any k n t A c l W HSm.out (HS.out.below hb) (HT.out.below hb))
    have H3 := Lib.hid (fun (W : World) (hb : Below w.heap.size w W) => tail_any A c l W (HS.out.below hb) HSm.out.params (HT.out.below hb) (HM.out.below hb))
    have H4 := Lib.hid (fun (W : World) (hb : Below w.heap.size w W) => rtail_any A c l W (HS.out.below hb) HSm.out.params (HT.out.below hb))
    rw [hX] at H1 H2
    rw [hY] at H3 H4
    clear hf hI hb0 hT hM hX hY
    go_enter Tryz.func6, Tryz.ntmps6
    go_wp2_with fail
    refine H.out.mono ?_
    rintro e w1 ⟨rfl, hb1⟩
    have HB1 := Lib.hid (onto HB0.out hb1)
    have HX1 := Lib.hid (HX0.out.keep hb1)
    obtain ⟨c0, c1, c2, c3, _, _, _, _⟩ := HX1.out.all4
    clear hb1 HX0
    go_wp2_with fail
    refine (HF.out _ (HS.out.below HB1.out)).mono ?_
    rintro e w2 ⟨rfl, hb2⟩
    have HB2 := Lib.hid (onto HB1.out hb2)
    have HX2 := Lib.hid (HX1.out.keep hb2)
    clear c0 c1 c2 c3 hb2 HF HX1
    obtain ⟨c0, c1, c2, c3, _, _, _, _⟩ := HX2.out.all4
    go_wp2_with fail
    refine (H1.out _ HB2.out).mono ?_
    rintro e w3 ⟨rfl, hb3⟩
    have HB3 := Lib.hid (onto HB2.out hb3)
    have HX3 := Lib.hid (HX2.out.keep hb3)
    clear c0 c1 c2 c3 hb3 HX2
    obtain ⟨c0, c1, c2, c3, _, _, _, _⟩ := HX3.out.all4
    go_wp2_with fail
    refine (H2.out _ HB3.out).mono ?_
    rintro e w4 ⟨rfl, hb4⟩
    have HB4 := Lib.hid (onto HB3.out hb4)
    have HX4 := Lib.hid (HX3.out.keep hb4)
    clear c0 c1 c2 c3 hb4 HX3
    obtain ⟨c0, c1, c2, c3, _, _, _, _⟩ := HX4.out.all4
    go_wp2_with fail
    refine (H3.out _ HB4.out).mono ?_
    rintro e w5 ⟨rfl, hb5⟩
    have HB5 := Lib.hid (onto HB4.out hb5)
    have HX5 := Lib.hid (HX4.out.keep hb5)
    clear c0 c1 c2 c3 hb5 HX4
    obtain ⟨c0, c1, c2, c3, _, _, _, _⟩ := HX5.out.all4
    go_wp2_with fail
    refine (H4.out _ HB5.out).mono ?_
    rintro e w6 ⟨rfl, hb6⟩
    have HB6 := Lib.hid (onto HB5.out hb6)
    clear c0 c1 c2 c3 hb6 HX5
    go_wp2_with fail
    go_ret
    exact ⟨rfl, HB6.out⟩
end Go.Proofs.YtilclhhpmenjaaaGreatDoor
