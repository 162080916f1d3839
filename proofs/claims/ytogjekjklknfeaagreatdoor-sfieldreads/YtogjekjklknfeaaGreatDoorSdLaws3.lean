/- The walk of the statement on what is read (SfieldReads). -/
import Derived.Test.YtogjekjklknfeaaGreatDoorSdLaws1
import Derived.Test.YtogjekjklknfeaaGreatDoorPkRef
namespace Go.Proofs.YtogjekjklknfeaaGreatDoor
open Go.RowKit Go.Shelf Go.Maps Go.Deep

theorem rlist_is (s : List UInt8) (hs : s.length ≤ maxLen) (w : World) : Calls Tryz.prog 11 #[.string (bA s)] w fun e w' => ∃ A c, e = .returned (.tuple #[.slice A (lst (Sf.readL false s)).length c, .int .i64 (er (Sf.readL false s))]) ∧ Below w.heap.size w w' ∧ LV w' w.heap.size (.slice A (lst (Sf.readL false s)).length c) (lst (Sf.readL false s)) := by
  refine (rlist_any s w hs).mono ?_
  rintro e w' ⟨hb, ⟨l, v, ho, rfl, hv⟩ | ⟨ho, rfl⟩⟩
  · obtain ⟨A, c, rfl⟩ := hv.slice
    rw [ho]
    exact ⟨A, c, rfl, hb, hv⟩
  · rw [ho]
    exact ⟨none, 0, rfl, hb, LV.nil _ _⟩
theorem rdict_is (s : List UInt8) (hs : s.length ≤ maxLen) (w : World) : Calls Tryz.prog 13 #[.string (bA s)] w fun e w' => ∃ A c, e = .returned (.tuple #[.slice A (lst (Sf.readL true s)).length c, .int .i64 (er (Sf.readL true s))]) ∧ Below w.heap.size w w' ∧ LV w' w.heap.size (.slice A (lst (Sf.readL true s)).length c) (lst (Sf.readL true s)) := by
  refine (rdict_any s w hs).mono ?_
  rintro e w' ⟨hb, ⟨l, v, ho, rfl, hv⟩ | ⟨ho, rfl⟩⟩
  · obtain ⟨A, c, rfl⟩ := hv.slice
    rw [ho]
    exact ⟨A, c, rfl, hb, hv⟩
  · rw [ho]
    exact ⟨none, 0, rfl, hb, LV.nil _ _⟩
set_option maxHeartbeats 4000000 in
set_option maxRecDepth 100000 in
theorem walk_SfieldReads (s : ByteArray) (w : World) (hs : s.size ≤ maxLen) (hT : Tab w) (hM : TabM w) :
    Calls Tryz.prog 3 #[.string s] w fun e w' => e = .returned (.bool true) ∧ Below w.heap.size w w' := by
  obtain ⟨S, rfl⟩ : ∃ S, s = bA S := ⟨s.data.toList, rfl⟩
  rw [bA_size] at hs
  have H0 := Lib.hid (awake_sf w hT hM)
  have HA := Lib.hid (fun W => list_is S hs W)
  have HB := Lib.hid (fun W => rlist_is S hs W)
  have HC := Lib.hid (fun W => dict_is S hs W)
  have HD := Lib.hid (fun W => rdict_is S hs W)
  unfold maxLen at hs
  clear hT hM
  by_cases hl : S.length ≤ 5000
  · have hl' : (S.length : Int) ≤ 5000 := by omega
    have hla : (lst (Sf.readL false S)).length ≤ maxLen := by
      cases h : Sf.readL false S with
      | none => simp [lst, maxLen]
      | some l => have := read_len h; simp only [lst, Option.getD_some]; unfold maxLen; omega
    have hlb : (lst (Sf.readL true S)).length ≤ maxLen := by
      cases h : Sf.readL true S with
      | none => simp [lst, maxLen]
      | some l => have := read_len h; simp only [lst, Option.getD_some]; unfold maxLen; omega
    obtain ⟨oa, hoa⟩ : ∃ o, Sf.readL false S = o := ⟨_, rfl⟩
    obtain ⟨ob, hob⟩ : ∃ o, Sf.readL true S = o := ⟨_, rfl⟩
    rw [hoa] at HA HB hla
    rw [hob] at HC HD hlb
    obtain ⟨la, hla2⟩ : ∃ l, lst oa = l := ⟨_, rfl⟩
    obtain ⟨lb, hlb2⟩ : ∃ l, lst ob = l := ⟨_, rfl⟩
    obtain ⟨ea, hea⟩ : ∃ n, er oa = n := ⟨_, rfl⟩
    obtain ⟨eb, heb⟩ : ∃ n, er ob = n := ⟨_, rfl⟩
    rw [hla2] at HA HB hla
    rw [hlb2] at HC HD hlb
    rw [hea] at HA HB
    rw [heb] at HC HD
    have HLA := Lib.hid hla; have HLB := Lib.hid hlb
    clear hoa hob hla2 hlb2 hea heb hla hlb hl
    go_enter Tryz.func3, Tryz.ntmps3
    go_wp2_with fail
    refine H0.out.mono ?_
    rintro e w1 ⟨rfl, hb1⟩
    have HB1 := Lib.hid hb1
    clear hb1 H0
    go_wp2_with fail
    refine (HA.out _).mono ?_
    rintro e w2 ⟨A1, k1, rfl, hb2, hv1⟩
    have HB2 := Lib.hid (onto HB1.out hb2); have HV1 := Lib.hid hv1.seen
    clear hb2 hv1 HA HB1
    go_wp2_with fail
    refine (HB.out _).mono ?_
    rintro e w3 ⟨A2, k2, rfl, hb3, hv2⟩
    have HB3 := Lib.hid (onto HB2.out hb3); have HW1 := Lib.hid (HV1.out.below hb3); have HW2 := Lib.hid hv2.seen
    clear hb3 hv2 HB HB2 HV1
    go_wp2_with fail
    refine (HC.out _).mono ?_
    rintro e w4 ⟨A3, k3, rfl, hb4, hv3⟩
    have HB4 := Lib.hid (onto HB3.out hb4); have HX1 := Lib.hid (HW1.out.below hb4); have HX2 := Lib.hid (HW2.out.below hb4); have HX3 := Lib.hid hv3.seen
    clear hb4 hv3 HC HB3 HW1 HW2
    go_wp2_with fail
    refine (HD.out _).mono ?_
    rintro e w5 ⟨A4, k4, rfl, hb5, hv4⟩
    have HB5 := Lib.hid (onto HB4.out hb5); have HY1 := Lib.hid (HX1.out.below hb5); have HY2 := Lib.hid (HX2.out.below hb5); have HY3 := Lib.hid (HX3.out.below hb5); have HY4 := Lib.hid hv4.seen
    clear hb5 hv4 HD HB4 HX1 HX2 HX3
    have H6 := Lib.hid (same_yes A1 A2 k1 k2 la w5 HY1.out HY2.out HLA.out)
    go_wp2_with fail
    refine H6.out.mono ?_
    rintro e w6 ⟨rfl, hb6⟩
    have HB6 := Lib.hid (onto HB5.out hb6)
    have H7 := Lib.hid (same_yes A3 A4 k3 k4 lb w6 (HY3.out.below hb6) (HY4.out.below hb6) HLB.out)
    clear hb6 H6 HB5 HY1 HY2 HY3 HY4
    go_wp2_with fail
    refine H7.out.mono ?_
    rintro e w7 ⟨rfl, hb7⟩
    have HB7 := Lib.hid (onto HB6.out hb7)
    clear hb7 H7 HB6
    go_wp2_with fail
    go_ret
    exact ⟨rfl, HB7.out⟩
  · have hl' : (5000 : Int) < (S.length : Int) := by omega
    clear hl HA HB HC HD
    go_enter Tryz.func3, Tryz.ntmps3
    go_wp2_with fail
    refine H0.out.mono ?_
    rintro e w1 ⟨rfl, hb1⟩
    have HB1 := Lib.hid hb1
    clear hb1 H0
    go_wp2_with fail
    go_ret
    exact ⟨rfl, HB1.out⟩
end Go.Proofs.YtogjekjklknfeaaGreatDoor
