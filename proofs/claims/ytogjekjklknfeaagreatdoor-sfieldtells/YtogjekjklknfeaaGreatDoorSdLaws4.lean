/- The walk of SfieldTells. -/
import Derived.Test.YtogjekjklknfeaaGreatDoorSdSize
import Derived.Test.YtogjekjklknfeaaGreatDoorSdTell3
namespace Go.Proofs.YtogjekjklknfeaaGreatDoor
open Go.RowKit Go.Shelf Go.Maps Go.Deep

theorem textV_formL (o : Option (List UInt8)) : ∃ (X : List UInt8) (E : Int), textV o = .tuple #[.string (bA X), .int .i64 E] := ⟨_, _, rfl⟩
set_option maxHeartbeats 4000000 in
set_option maxRecDepth 100000 in
theorem walk_SfieldTells (A : Option Addr) (c : Nat) (l : List Sf.Mem) (w : World) (hA : WideL w A l) (hT : Tab w) (hM : TabM w) :
    Calls Tryz.prog 4 #[.slice A l.length c] w fun e w' => e = .returned (.bool true) ∧ Below w.heap.size w w' := by
  have H0 := Lib.hid (awake_sf w hT hM)
  have HT := Lib.hid hT; have HM := Lib.hid hM; have HS := Lib.hid hA.seen
  have HF := Lib.hid (fun (W : World) (h : SeenM W A l) => few_sf A c l W h hA.len)
  cases hf : fewM l with
  | false =>
    rw [hf] at HF
    clear hf hA hT hM
    go_enter Tryz.func4, Tryz.ntmps4
    go_wp2_with fail
    refine H0.out.mono ?_
    rintro e w1 ⟨rfl, hb1⟩
    have HB1 := Lib.hid hb1
    clear hb1 H0
    go_wp2_with fail
    refine (HF.out _ (HS.out.below HB1.out)).mono ?_
    rintro e w2 ⟨rfl, hb2⟩
    have HB2 := Lib.hid (onto HB1.out hb2)
    clear hb2 HF
    go_wp2_with fail
    go_ret
    exact ⟨rfl, HB2.out⟩
  | true =>
    obtain ⟨hl, hs⟩ := few_small hf hA.each
    have hS : ∀ m ∈ l, SmallM m := fun m hm => (hs m hm).1
    rw [hf] at HF
    obtain ⟨X, E, hX⟩ := textV_formL (Sf.textL false l)
    obtain ⟨Y, F, hY⟩ := textV_formL (Sf.textL true l)
    have H1 := Lib.hid (fun (W : World) (hb : Below w.heap.size w W) => listText_any A c l W (HS.out.below hb) (by omega) hS (fun h => jn_small h hl hs) (HT.out.below hb) (HM.out.below hb))
    have H2 := Lib.hid (fun (W : World) (hb : Below w.heap.size w W) => rlistText_any A c l W (HS.out.below hb) hl hS (HT.out.below hb))
    have H3 := Lib.hid (fun (W : World) (hb : Below w.heap.size w W) => dictText_any A c l W (HS.out.below hb) (by omega) hS (fun h => jn_small h hl hs) (HT.out.below hb) (HM.out.below hb))
    have H4 := Lib.hid (fun (W : World) (hb : Below w.heap.size w W) => rdictText_any A c l W (HS.out.below hb) hl hS (HT.out.below hb))
    rw [hX] at H1 H2
    rw [hY] at H3 H4
    clear hf hA hT hM hX hY hl hs hS
    go_enter Tryz.func4, Tryz.ntmps4
    go_wp2_with fail
    refine H0.out.mono ?_
    rintro e w1 ⟨rfl, hb1⟩
    have HB1 := Lib.hid hb1
    clear hb1 H0
    go_wp2_with fail
    refine (HF.out _ (HS.out.below HB1.out)).mono ?_
    rintro e w2 ⟨rfl, hb2⟩
    have HB2 := Lib.hid (onto HB1.out hb2)
    clear hb2 HF
    go_wp2_with fail
    refine (H1.out _ HB2.out).mono ?_
    rintro e w3 ⟨rfl, hb3⟩
    have HB3 := Lib.hid (onto HB2.out hb3)
    clear hb3 H1
    go_wp2_with fail
    refine (H2.out _ HB3.out).mono ?_
    rintro e w4 ⟨rfl, hb4⟩
    have HB4 := Lib.hid (onto HB3.out hb4)
    clear hb4 H2
    go_wp2_with fail
    refine (H3.out _ HB4.out).mono ?_
    rintro e w5 ⟨rfl, hb5⟩
    have HB5 := Lib.hid (onto HB4.out hb5)
    clear hb5 H3
    go_wp2_with fail
    refine (H4.out _ HB5.out).mono ?_
    rintro e w6 ⟨rfl, hb6⟩
    have HB6 := Lib.hid (onto HB5.out hb6)
    clear hb6 H4
    go_wp2_with fail
    go_ret
    exact ⟨rfl, HB6.out⟩
end Go.Proofs.YtogjekjklknfeaaGreatDoor
