/- The walk of SfieldBack. (Written by mkbk.py.) -/
import Derived.Test.YtogjekjklknfeaaGreatDoorSdSize
import Derived.Test.YtogjekjklknfeaaGreatDoorSdLaws1
namespace Go.Proofs.YtogjekjklknfeaaGreatDoor
open Go.RowKit Go.Shelf Go.Maps Go.Deep

theorem tl_none {o : Option (List UInt8)} (h : o = none) : textV o = .tuple #[.string (bA []), .int .i64 50] := by rw [h]; rfl
theorem tl_some {o : Option (List UInt8)} {t : List UInt8} (h : o = some t) : textV o = .tuple #[.string (bA t), .int .i64 0] := by rw [h]; rfl
set_option maxHeartbeats 8000000 in
set_option maxRecDepth 100000 in
theorem walk_SfieldBack (A : Option Addr) (c : Nat) (l : List Sf.Mem) (s : ByteArray) (w : World) (hA : WideL w A l) (hs : s.size ≤ maxLen) (hT : Tab w) (hM : TabM w) :
    Calls Tryz.prog 5 #[.slice A l.length c, .string s] w fun e w' => e = .returned (.bool true) ∧ Below w.heap.size w w' := by
  obtain ⟨S, rfl⟩ : ∃ S, s = bA S := ⟨s.data.toList, rfl⟩
  rw [bA_size] at hs
  have HSN := Lib.hid hs
  unfold maxLen at hs
  have H0 := Lib.hid (awake_sf w hT hM)
  have HT := Lib.hid hT; have HM := Lib.hid hM; have HS := Lib.hid hA.seen; have HLN := Lib.hid hA.len
  have HF := Lib.hid (fun (W : World) (h : SeenM W A l) => few_sf A c l W h hA.len)
  cases hf : fewM l with
  | false =>
    rw [hf] at HF
    clear hf hA hT hM
    go_enter Tryz.func5, Tryz.ntmps5
    go_wp2_with fail
    refine H0.out.mono ?_
    rintro e w1 ⟨rfl, hb1⟩
    have HB1 := Lib.hid hb1
    clear hb1 H0
    go_wp2_with fail
    refine (HF.out _ (HS.out.below HB1.out)).mono ?_
    rintro e w2 ⟨rfl, hb2⟩
    have HB2 := Lib.hid (onto HB1.out hb2)
    clear hb2 HF
    go_wp2_with fail
    go_ret
    exact ⟨rfl, HB2.out⟩
  | true =>
    obtain ⟨hl, hs2⟩ := few_small hf hA.each
    have hS : ∀ m ∈ l, SmallM m := fun m hm => (hs2 m hm).1
    rw [hf] at HF
    have H1 := Lib.hid (fun (W : World) (hb : Below w.heap.size w W) => listText_any A c l W (HS.out.below hb) (by omega) hS (fun h => jn_small h hl hs2) (HT.out.below hb) (HM.out.below hb))
    have H2 := Lib.hid (fun (W : World) (hb : Below w.heap.size w W) => dictText_any A c l W (HS.out.below hb) (by omega) hS (fun h => jn_small h hl hs2) (HT.out.below hb) (HM.out.below hb))
    clear hf hA hT hM hl hs2 hS
    by_cases hS1 : S.length ≤ 1000
    · have hS' : (S.length : Int) ≤ 1000 := by omega
      have HS1 := Lib.hid hS1
      clear hs hS1
      go_enter Tryz.func5, Tryz.ntmps5
      go_wp2_with fail
      refine H0.out.mono ?_
      rintro e w1 ⟨rfl, hb1⟩
      have HB1 := Lib.hid hb1
      clear hb1 H0
      go_wp2_with fail
      refine (HF.out _ (HS.out.below HB1.out)).mono ?_
      rintro e w2 ⟨rfl, hb2⟩
      have HB2 := Lib.hid (onto HB1.out hb2)
      clear hb2 HF
      rcases hx : Sf.textL false l with _ | t
      · have g := H1.out _ HB2.out
        rw [tl_none hx] at g
        have G := Lib.hid g
        clear g hx
        go_wp2_with fail
        refine (G.out).mono ?_
        rintro e w3 ⟨rfl, hb⟩
        have HB3 := Lib.hid (onto HB2.out hb)
        clear hb G
        rcases hx : Sf.textL true l with _ | t
        · have g := H2.out _ HB3.out
          rw [tl_none hx] at g
          have G := Lib.hid g
          clear g hx
          go_wp2_with fail
          refine (G.out).mono ?_
          rintro e w4 ⟨rfl, hb⟩
          have HB4 := Lib.hid (onto HB3.out hb)
          clear hb G
          rcases hx : Sf.readL false S with _ | la
          · have G := Lib.hid (fun W => list_none hx HSN.out W)
            clear hx
            go_wp2_with fail
            refine (G.out _).mono ?_
            rintro e w5 ⟨rfl, hb⟩
            have HB5 := Lib.hid (onto HB4.out hb)
            clear hb G
            rcases hx : Sf.readL true S with _ | la
            · have G := Lib.hid (fun W => dict_none hx HSN.out W)
              clear hx
              go_wp2_with fail
              refine (G.out _).mono ?_
              rintro e w6 ⟨rfl, hb⟩
              have HB6 := Lib.hid (onto HB5.out hb)
              clear hb G
              go_wp2_with fail
              go_ret
              exact ⟨rfl, HB6.out⟩
            · have G := Lib.hid (fun W => dict_some hx HSN.out W)
              obtain ⟨z1, z2, z3⟩ := read_small hx HS1.out
              obtain ⟨t, q1, q2, q3⟩ := Sf.read_again hx HS1.out
              have GL := Lib.hid (fun W => dict_some q3 (by unfold maxLen; omega) W)
              have GT := Lib.hid (fun (A : Option Addr) (c : Nat) (W : World) (h : SeenM W A la) (hT : Tab W) (hM : TabM W) => dictText_any A c la W h z1 z2 (fun _ => by omega) hT hM)
              rw [tl_some q1] at GT
              have HZ : Hid (la.length ≤ maxLen) := Lib.hid (by unfold maxLen; omega)
              clear hx q1 q2 q3 z1 z2 z3
              go_wp2_with fail
              refine (G.out _).mono ?_
              rintro e w6 ⟨A1, k1, rfl, hb, hv⟩
              have HB6 := Lib.hid (onto HB5.out hb)
              have HV := Lib.hid hv.seen
              clear hb hv G
              go_wp2_with fail
              refine (GT.out _ _ _ HV.out (HT.out.below HB6.out) (HM.out.below HB6.out)).mono ?_
              rintro e w7 ⟨rfl, hb⟩
              have HB7 := Lib.hid (onto HB6.out hb)
              have HV2 := Lib.hid (HV.out.below hb)
              clear hb GT HV
              go_wp2_with fail
              refine (GL.out _).mono ?_
              rintro e w8 ⟨A2, k2, rfl, hb, hv⟩
              have HB8 := Lib.hid (onto HB7.out hb)
              have GS := Lib.hid (same_yes A1 A2 k1 k2 la _ (HV2.out.below hb) hv.seen HZ.out)
              clear hb hv GL HV2 HZ
              go_wp2_with fail
              refine (GS.out).mono ?_
              rintro e w9 ⟨rfl, hb⟩
              have HB9 := Lib.hid (onto HB8.out hb)
              clear hb GS
              go_wp2_with fail
              go_ret
              exact ⟨rfl, HB9.out⟩
          · have G := Lib.hid (fun W => list_some hx HSN.out W)
            obtain ⟨z1, z2, z3⟩ := read_small hx HS1.out
            obtain ⟨t, q1, q2, q3⟩ := Sf.read_again hx HS1.out
            have GL := Lib.hid (fun W => list_some q3 (by unfold maxLen; omega) W)
            have GT := Lib.hid (fun (A : Option Addr) (c : Nat) (W : World) (h : SeenM W A la) (hT : Tab W) (hM : TabM W) => listText_any A c la W h z1 z2 (fun _ => by omega) hT hM)
            rw [tl_some q1] at GT
            have HZ : Hid (la.length ≤ maxLen) := Lib.hid (by unfold maxLen; omega)
            clear hx q1 q2 q3 z1 z2 z3
            go_wp2_with fail
            refine (G.out _).mono ?_
            rintro e w5 ⟨A1, k1, rfl, hb, hv⟩
            have HB5 := Lib.hid (onto HB4.out hb)
            have HV := Lib.hid hv.seen
            clear hb hv G
            go_wp2_with fail
            refine (GT.out _ _ _ HV.out (HT.out.below HB5.out) (HM.out.below HB5.out)).mono ?_
            rintro e w6 ⟨rfl, hb⟩
            have HB6 := Lib.hid (onto HB5.out hb)
            have HV2 := Lib.hid (HV.out.below hb)
            clear hb GT HV
            go_wp2_with fail
            refine (GL.out _).mono ?_
            rintro e w7 ⟨A2, k2, rfl, hb, hv⟩
            have HB7 := Lib.hid (onto HB6.out hb)
            have GS := Lib.hid (same_yes A1 A2 k1 k2 la _ (HV2.out.below hb) hv.seen HZ.out)
            clear hb hv GL HV2 HZ
            go_wp2_with fail
            refine (GS.out).mono ?_
            rintro e w8 ⟨rfl, hb⟩
            have HB8 := Lib.hid (onto HB7.out hb)
            clear hb GS
            rcases hx : Sf.readL true S with _ | la
            · have G := Lib.hid (fun W => dict_none hx HSN.out W)
              clear hx
              go_wp2_with fail
              refine (G.out _).mono ?_
              rintro e w9 ⟨rfl, hb⟩
              have HB9 := Lib.hid (onto HB8.out hb)
              clear hb G
              go_wp2_with fail
              go_ret
              exact ⟨rfl, HB9.out⟩
            · have G := Lib.hid (fun W => dict_some hx HSN.out W)
              obtain ⟨z1, z2, z3⟩ := read_small hx HS1.out
              obtain ⟨t, q1, q2, q3⟩ := Sf.read_again hx HS1.out
              have GL := Lib.hid (fun W => dict_some q3 (by unfold maxLen; omega) W)
              have GT := Lib.hid (fun (A : Option Addr) (c : Nat) (W : World) (h : SeenM W A la) (hT : Tab W) (hM : TabM W) => dictText_any A c la W h z1 z2 (fun _ => by omega) hT hM)
              rw [tl_some q1] at GT
              have HZ : Hid (la.length ≤ maxLen) := Lib.hid (by unfold maxLen; omega)
              clear hx q1 q2 q3 z1 z2 z3
              go_wp2_with fail
              refine (G.out _).mono ?_
              rintro e w9 ⟨A1, k1, rfl, hb, hv⟩
              have HB9 := Lib.hid (onto HB8.out hb)
              have HV := Lib.hid hv.seen
              clear hb hv G
              go_wp2_with fail
              refine (GT.out _ _ _ HV.out (HT.out.below HB9.out) (HM.out.below HB9.out)).mono ?_
              rintro e w10 ⟨rfl, hb⟩
              have HB10 := Lib.hid (onto HB9.out hb)
              have HV2 := Lib.hid (HV.out.below hb)
              clear hb GT HV
              go_wp2_with fail
              refine (GL.out _).mono ?_
              rintro e w11 ⟨A2, k2, rfl, hb, hv⟩
              have HB11 := Lib.hid (onto HB10.out hb)
              have GS := Lib.hid (same_yes A1 A2 k1 k2 la _ (HV2.out.below hb) hv.seen HZ.out)
              clear hb hv GL HV2 HZ
              go_wp2_with fail
              refine (GS.out).mono ?_
              rintro e w12 ⟨rfl, hb⟩
              have HB12 := Lib.hid (onto HB11.out hb)
              clear hb GS
              go_wp2_with fail
              go_ret
              exact ⟨rfl, HB12.out⟩
        · by_cases ht : t.length ≤ 4000
          · have g := H2.out _ HB3.out
            rw [tl_some hx] at g
            have G := Lib.hid g
            have GL := Lib.hid (fun W => dict_some (Sf.read_back hx ht) (by unfold maxLen; omega) W)
            have ht' : (t.length : Int) ≤ 4000 := by omega
            clear g hx ht
            go_wp2_with fail
            refine (G.out).mono ?_
            rintro e w4 ⟨rfl, hb⟩
            have HB4 := Lib.hid (onto HB3.out hb)
            clear hb G
            go_wp2_with fail
            refine (GL.out _).mono ?_
            rintro e w5 ⟨A1, k1, rfl, hb, hv⟩
            have HB5 := Lib.hid (onto HB4.out hb)
            have GS := Lib.hid (same_yes A A1 c k1 l _ (HS.out.below HB5.out) hv.seen HLN.out)
            clear hb hv GL
            go_wp2_with fail
            refine (GS.out).mono ?_
            rintro e w6 ⟨rfl, hb⟩
            have HB6 := Lib.hid (onto HB5.out hb)
            clear hb GS ht'
            rcases hx : Sf.readL false S with _ | la
            · have G := Lib.hid (fun W => list_none hx HSN.out W)
              clear hx
              go_wp2_with fail
              refine (G.out _).mono ?_
              rintro e w7 ⟨rfl, hb⟩
              have HB7 := Lib.hid (onto HB6.out hb)
              clear hb G
              rcases hx : Sf.readL true S with _ | la
              · have G := Lib.hid (fun W => dict_none hx HSN.out W)
                clear hx
                go_wp2_with fail
                refine (G.out _).mono ?_
                rintro e w8 ⟨rfl, hb⟩
                have HB8 := Lib.hid (onto HB7.out hb)
                clear hb G
                go_wp2_with fail
                go_ret
                exact ⟨rfl, HB8.out⟩
              · have G := Lib.hid (fun W => dict_some hx HSN.out W)
                obtain ⟨z1, z2, z3⟩ := read_small hx HS1.out
                obtain ⟨t, q1, q2, q3⟩ := Sf.read_again hx HS1.out
                have GL := Lib.hid (fun W => dict_some q3 (by unfold maxLen; omega) W)
                have GT := Lib.hid (fun (A : Option Addr) (c : Nat) (W : World) (h : SeenM W A la) (hT : Tab W) (hM : TabM W) => dictText_any A c la W h z1 z2 (fun _ => by omega) hT hM)
                rw [tl_some q1] at GT
                have HZ : Hid (la.length ≤ maxLen) := Lib.hid (by unfold maxLen; omega)
                clear hx q1 q2 q3 z1 z2 z3
                go_wp2_with fail
                refine (G.out _).mono ?_
                rintro e w8 ⟨A1, k1, rfl, hb, hv⟩
                have HB8 := Lib.hid (onto HB7.out hb)
                have HV := Lib.hid hv.seen
                clear hb hv G
                go_wp2_with fail
                refine (GT.out _ _ _ HV.out (HT.out.below HB8.out) (HM.out.below HB8.out)).mono ?_
                rintro e w9 ⟨rfl, hb⟩
                have HB9 := Lib.hid (onto HB8.out hb)
                have HV2 := Lib.hid (HV.out.below hb)
                clear hb GT HV
                go_wp2_with fail
                refine (GL.out _).mono ?_
                rintro e w10 ⟨A2, k2, rfl, hb, hv⟩
                have HB10 := Lib.hid (onto HB9.out hb)
                have GS := Lib.hid (same_yes A1 A2 k1 k2 la _ (HV2.out.below hb) hv.seen HZ.out)
                clear hb hv GL HV2 HZ
                go_wp2_with fail
                refine (GS.out).mono ?_
                rintro e w11 ⟨rfl, hb⟩
                have HB11 := Lib.hid (onto HB10.out hb)
                clear hb GS
                go_wp2_with fail
                go_ret
                exact ⟨rfl, HB11.out⟩
            · have G := Lib.hid (fun W => list_some hx HSN.out W)
              obtain ⟨z1, z2, z3⟩ := read_small hx HS1.out
              obtain ⟨t, q1, q2, q3⟩ := Sf.read_again hx HS1.out
              have GL := Lib.hid (fun W => list_some q3 (by unfold maxLen; omega) W)
              have GT := Lib.hid (fun (A : Option Addr) (c : Nat) (W : World) (h : SeenM W A la) (hT : Tab W) (hM : TabM W) => listText_any A c la W h z1 z2 (fun _ => by omega) hT hM)
              rw [tl_some q1] at GT
              have HZ : Hid (la.length ≤ maxLen) := Lib.hid (by unfold maxLen; omega)
              clear hx q1 q2 q3 z1 z2 z3
              go_wp2_with fail
              refine (G.out _).mono ?_
              rintro e w7 ⟨A1, k1, rfl, hb, hv⟩
              have HB7 := Lib.hid (onto HB6.out hb)
              have HV := Lib.hid hv.seen
              clear hb hv G
              go_wp2_with fail
              refine (GT.out _ _ _ HV.out (HT.out.below HB7.out) (HM.out.below HB7.out)).mono ?_
              rintro e w8 ⟨rfl, hb⟩
              have HB8 := Lib.hid (onto HB7.out hb)
              have HV2 := Lib.hid (HV.out.below hb)
              clear hb GT HV
              go_wp2_with fail
              refine (GL.out _).mono ?_
              rintro e w9 ⟨A2, k2, rfl, hb, hv⟩
              have HB9 := Lib.hid (onto HB8.out hb)
              have GS := Lib.hid (same_yes A1 A2 k1 k2 la _ (HV2.out.below hb) hv.seen HZ.out)
              clear hb hv GL HV2 HZ
              go_wp2_with fail
              refine (GS.out).mono ?_
              rintro e w10 ⟨rfl, hb⟩
              have HB10 := Lib.hid (onto HB9.out hb)
              clear hb GS
              rcases hx : Sf.readL true S with _ | la
              · have G := Lib.hid (fun W => dict_none hx HSN.out W)
                clear hx
                go_wp2_with fail
                refine (G.out _).mono ?_
                rintro e w11 ⟨rfl, hb⟩
                have HB11 := Lib.hid (onto HB10.out hb)
                clear hb G
                go_wp2_with fail
                go_ret
                exact ⟨rfl, HB11.out⟩
              · have G := Lib.hid (fun W => dict_some hx HSN.out W)
                obtain ⟨z1, z2, z3⟩ := read_small hx HS1.out
                obtain ⟨t, q1, q2, q3⟩ := Sf.read_again hx HS1.out
                have GL := Lib.hid (fun W => dict_some q3 (by unfold maxLen; omega) W)
                have GT := Lib.hid (fun (A : Option Addr) (c : Nat) (W : World) (h : SeenM W A la) (hT : Tab W) (hM : TabM W) => dictText_any A c la W h z1 z2 (fun _ => by omega) hT hM)
                rw [tl_some q1] at GT
                have HZ : Hid (la.length ≤ maxLen) := Lib.hid (by unfold maxLen; omega)
                clear hx q1 q2 q3 z1 z2 z3
                go_wp2_with fail
                refine (G.out _).mono ?_
                rintro e w11 ⟨A1, k1, rfl, hb, hv⟩
                have HB11 := Lib.hid (onto HB10.out hb)
                have HV := Lib.hid hv.seen
                clear hb hv G
                go_wp2_with fail
                refine (GT.out _ _ _ HV.out (HT.out.below HB11.out) (HM.out.below HB11.out)).mono ?_
                rintro e w12 ⟨rfl, hb⟩
                have HB12 := Lib.hid (onto HB11.out hb)
                have HV2 := Lib.hid (HV.out.below hb)
                clear hb GT HV
                go_wp2_with fail
                refine (GL.out _).mono ?_
                rintro e w13 ⟨A2, k2, rfl, hb, hv⟩
                have HB13 := Lib.hid (onto HB12.out hb)
                have GS := Lib.hid (same_yes A1 A2 k1 k2 la _ (HV2.out.below hb) hv.seen HZ.out)
                clear hb hv GL HV2 HZ
                go_wp2_with fail
                refine (GS.out).mono ?_
                rintro e w14 ⟨rfl, hb⟩
                have HB14 := Lib.hid (onto HB13.out hb)
                clear hb GS
                go_wp2_with fail
                go_ret
                exact ⟨rfl, HB14.out⟩
          · have g := H2.out _ HB3.out
            rw [tl_some hx] at g
            have G := Lib.hid g
            have ht' : decide ((t.length : Int) ≤ 4000) = false := decide_eq_false (by omega)
            clear g hx ht
            go_wp2_with fail
            refine (G.out).mono ?_
            rintro e w4 ⟨rfl, hb⟩
            have HB4 := Lib.hid (onto HB3.out hb)
            clear hb G
            rcases hx : Sf.readL false S with _ | la
            · have G := Lib.hid (fun W => list_none hx HSN.out W)
              clear hx
              go_wp2_with fail
              refine (G.out _).mono ?_
              rintro e w5 ⟨rfl, hb⟩
              have HB5 := Lib.hid (onto HB4.out hb)
              clear hb G
              rcases hx : Sf.readL true S with _ | la
              · have G := Lib.hid (fun W => dict_none hx HSN.out W)
                clear hx
                go_wp2_with fail
                refine (G.out _).mono ?_
                rintro e w6 ⟨rfl, hb⟩
                have HB6 := Lib.hid (onto HB5.out hb)
                clear hb G
                go_wp2_with fail
                go_ret
                exact ⟨rfl, HB6.out⟩
              · have G := Lib.hid (fun W => dict_some hx HSN.out W)
                obtain ⟨z1, z2, z3⟩ := read_small hx HS1.out
                obtain ⟨t, q1, q2, q3⟩ := Sf.read_again hx HS1.out
                have GL := Lib.hid (fun W => dict_some q3 (by unfold maxLen; omega) W)
                have GT := Lib.hid (fun (A : Option Addr) (c : Nat) (W : World) (h : SeenM W A la) (hT : Tab W) (hM : TabM W) => dictText_any A c la W h z1 z2 (fun _ => by omega) hT hM)
                rw [tl_some q1] at GT
                have HZ : Hid (la.length ≤ maxLen) := Lib.hid (by unfold maxLen; omega)
                clear hx q1 q2 q3 z1 z2 z3
                go_wp2_with fail
                refine (G.out _).mono ?_
                rintro e w6 ⟨A1, k1, rfl, hb, hv⟩
                have HB6 := Lib.hid (onto HB5.out hb)
                have HV := Lib.hid hv.seen
                clear hb hv G
                go_wp2_with fail
                refine (GT.out _ _ _ HV.out (HT.out.below HB6.out) (HM.out.below HB6.out)).mono ?_
                rintro e w7 ⟨rfl, hb⟩
                have HB7 := Lib.hid (onto HB6.out hb)
                have HV2 := Lib.hid (HV.out.below hb)
                clear hb GT HV
                go_wp2_with fail
                refine (GL.out _).mono ?_
                rintro e w8 ⟨A2, k2, rfl, hb, hv⟩
                have HB8 := Lib.hid (onto HB7.out hb)
                have GS := Lib.hid (same_yes A1 A2 k1 k2 la _ (HV2.out.below hb) hv.seen HZ.out)
                clear hb hv GL HV2 HZ
                go_wp2_with fail
                refine (GS.out).mono ?_
                rintro e w9 ⟨rfl, hb⟩
                have HB9 := Lib.hid (onto HB8.out hb)
                clear hb GS
                go_wp2_with fail
                go_ret
                exact ⟨rfl, HB9.out⟩
            · have G := Lib.hid (fun W => list_some hx HSN.out W)
              obtain ⟨z1, z2, z3⟩ := read_small hx HS1.out
              obtain ⟨t, q1, q2, q3⟩ := Sf.read_again hx HS1.out
              have GL := Lib.hid (fun W => list_some q3 (by unfold maxLen; omega) W)
              have GT := Lib.hid (fun (A : Option Addr) (c : Nat) (W : World) (h : SeenM W A la) (hT : Tab W) (hM : TabM W) => listText_any A c la W h z1 z2 (fun _ => by omega) hT hM)
              rw [tl_some q1] at GT
              have HZ : Hid (la.length ≤ maxLen) := Lib.hid (by unfold maxLen; omega)
              clear hx q1 q2 q3 z1 z2 z3
              go_wp2_with fail
              refine (G.out _).mono ?_
              rintro e w5 ⟨A1, k1, rfl, hb, hv⟩
              have HB5 := Lib.hid (onto HB4.out hb)
              have HV := Lib.hid hv.seen
              clear hb hv G
              go_wp2_with fail
              refine (GT.out _ _ _ HV.out (HT.out.below HB5.out) (HM.out.below HB5.out)).mono ?_
              rintro e w6 ⟨rfl, hb⟩
              have HB6 := Lib.hid (onto HB5.out hb)
              have HV2 := Lib.hid (HV.out.below hb)
              clear hb GT HV
              go_wp2_with fail
              refine (GL.out _).mono ?_
              rintro e w7 ⟨A2, k2, rfl, hb, hv⟩
              have HB7 := Lib.hid (onto HB6.out hb)
              have GS := Lib.hid (same_yes A1 A2 k1 k2 la _ (HV2.out.below hb) hv.seen HZ.out)
              clear hb hv GL HV2 HZ
              go_wp2_with fail
              refine (GS.out).mono ?_
              rintro e w8 ⟨rfl, hb⟩
              have HB8 := Lib.hid (onto HB7.out hb)
              clear hb GS
              rcases hx : Sf.readL true S with _ | la
              · have G := Lib.hid (fun W => dict_none hx HSN.out W)
                clear hx
                go_wp2_with fail
                refine (G.out _).mono ?_
                rintro e w9 ⟨rfl, hb⟩
                have HB9 := Lib.hid (onto HB8.out hb)
                clear hb G
                go_wp2_with fail
                go_ret
                exact ⟨rfl, HB9.out⟩
              · have G := Lib.hid (fun W => dict_some hx HSN.out W)
                obtain ⟨z1, z2, z3⟩ := read_small hx HS1.out
                obtain ⟨t, q1, q2, q3⟩ := Sf.read_again hx HS1.out
                have GL := Lib.hid (fun W => dict_some q3 (by unfold maxLen; omega) W)
                have GT := Lib.hid (fun (A : Option Addr) (c : Nat) (W : World) (h : SeenM W A la) (hT : Tab W) (hM : TabM W) => dictText_any A c la W h z1 z2 (fun _ => by omega) hT hM)
                rw [tl_some q1] at GT
                have HZ : Hid (la.length ≤ maxLen) := Lib.hid (by unfold maxLen; omega)
                clear hx q1 q2 q3 z1 z2 z3
                go_wp2_with fail
                refine (G.out _).mono ?_
                rintro e w9 ⟨A1, k1, rfl, hb, hv⟩
                have HB9 := Lib.hid (onto HB8.out hb)
                have HV := Lib.hid hv.seen
                clear hb hv G
                go_wp2_with fail
                refine (GT.out _ _ _ HV.out (HT.out.below HB9.out) (HM.out.below HB9.out)).mono ?_
                rintro e w10 ⟨rfl, hb⟩
                have HB10 := Lib.hid (onto HB9.out hb)
                have HV2 := Lib.hid (HV.out.below hb)
                clear hb GT HV
                go_wp2_with fail
                refine (GL.out _).mono ?_
                rintro e w11 ⟨A2, k2, rfl, hb, hv⟩
                have HB11 := Lib.hid (onto HB10.out hb)
                have GS := Lib.hid (same_yes A1 A2 k1 k2 la _ (HV2.out.below hb) hv.seen HZ.out)
                clear hb hv GL HV2 HZ
                go_wp2_with fail
                refine (GS.out).mono ?_
                rintro e w12 ⟨rfl, hb⟩
                have HB12 := Lib.hid (onto HB11.out hb)
                clear hb GS
                go_wp2_with fail
                go_ret
                exact ⟨rfl, HB12.out⟩
      · by_cases ht : t.length ≤ 4000
        · have g := H1.out _ HB2.out
          rw [tl_some hx] at g
          have G := Lib.hid g
          have GL := Lib.hid (fun W => list_some (Sf.read_back hx ht) (by unfold maxLen; omega) W)
          have ht' : (t.length : Int) ≤ 4000 := by omega
          clear g hx ht
          go_wp2_with fail
          refine (G.out).mono ?_
          rintro e w3 ⟨rfl, hb⟩
          have HB3 := Lib.hid (onto HB2.out hb)
          clear hb G
          go_wp2_with fail
          refine (GL.out _).mono ?_
          rintro e w4 ⟨A1, k1, rfl, hb, hv⟩
          have HB4 := Lib.hid (onto HB3.out hb)
          have GS := Lib.hid (same_yes A A1 c k1 l _ (HS.out.below HB4.out) hv.seen HLN.out)
          clear hb hv GL
          go_wp2_with fail
          refine (GS.out).mono ?_
          rintro e w5 ⟨rfl, hb⟩
          have HB5 := Lib.hid (onto HB4.out hb)
          clear hb GS ht'
          rcases hx : Sf.textL true l with _ | t
          · have g := H2.out _ HB5.out
            rw [tl_none hx] at g
            have G := Lib.hid g
            clear g hx
            go_wp2_with fail
            refine (G.out).mono ?_
            rintro e w6 ⟨rfl, hb⟩
            have HB6 := Lib.hid (onto HB5.out hb)
            clear hb G
            rcases hx : Sf.readL false S with _ | la
            · have G := Lib.hid (fun W => list_none hx HSN.out W)
              clear hx
              go_wp2_with fail
              refine (G.out _).mono ?_
              rintro e w7 ⟨rfl, hb⟩
              have HB7 := Lib.hid (onto HB6.out hb)
              clear hb G
              rcases hx : Sf.readL true S with _ | la
              · have G := Lib.hid (fun W => dict_none hx HSN.out W)
                clear hx
                go_wp2_with fail
                refine (G.out _).mono ?_
                rintro e w8 ⟨rfl, hb⟩
                have HB8 := Lib.hid (onto HB7.out hb)
                clear hb G
                go_wp2_with fail
                go_ret
                exact ⟨rfl, HB8.out⟩
              · have G := Lib.hid (fun W => dict_some hx HSN.out W)
                obtain ⟨z1, z2, z3⟩ := read_small hx HS1.out
                obtain ⟨t, q1, q2, q3⟩ := Sf.read_again hx HS1.out
                have GL := Lib.hid (fun W => dict_some q3 (by unfold maxLen; omega) W)
                have GT := Lib.hid (fun (A : Option Addr) (c : Nat) (W : World) (h : SeenM W A la) (hT : Tab W) (hM : TabM W) => dictText_any A c la W h z1 z2 (fun _ => by omega) hT hM)
                rw [tl_some q1] at GT
                have HZ : Hid (la.length ≤ maxLen) := Lib.hid (by unfold maxLen; omega)
                clear hx q1 q2 q3 z1 z2 z3
                go_wp2_with fail
                refine (G.out _).mono ?_
                rintro e w8 ⟨A1, k1, rfl, hb, hv⟩
                have HB8 := Lib.hid (onto HB7.out hb)
                have HV := Lib.hid hv.seen
                clear hb hv G
                go_wp2_with fail
                refine (GT.out _ _ _ HV.out (HT.out.below HB8.out) (HM.out.below HB8.out)).mono ?_
                rintro e w9 ⟨rfl, hb⟩
                have HB9 := Lib.hid (onto HB8.out hb)
                have HV2 := Lib.hid (HV.out.below hb)
                clear hb GT HV
                go_wp2_with fail
                refine (GL.out _).mono ?_
                rintro e w10 ⟨A2, k2, rfl, hb, hv⟩
                have HB10 := Lib.hid (onto HB9.out hb)
                have GS := Lib.hid (same_yes A1 A2 k1 k2 la _ (HV2.out.below hb) hv.seen HZ.out)
                clear hb hv GL HV2 HZ
                go_wp2_with fail
                refine (GS.out).mono ?_
                rintro e w11 ⟨rfl, hb⟩
                have HB11 := Lib.hid (onto HB10.out hb)
                clear hb GS
                go_wp2_with fail
                go_ret
                exact ⟨rfl, HB11.out⟩
            · have G := Lib.hid (fun W => list_some hx HSN.out W)
              obtain ⟨z1, z2, z3⟩ := read_small hx HS1.out
              obtain ⟨t, q1, q2, q3⟩ := Sf.read_again hx HS1.out
              have GL := Lib.hid (fun W => list_some q3 (by unfold maxLen; omega) W)
              have GT := Lib.hid (fun (A : Option Addr) (c : Nat) (W : World) (h : SeenM W A la) (hT : Tab W) (hM : TabM W) => listText_any A c la W h z1 z2 (fun _ => by omega) hT hM)
              rw [tl_some q1] at GT
              have HZ : Hid (la.length ≤ maxLen) := Lib.hid (by unfold maxLen; omega)
              clear hx q1 q2 q3 z1 z2 z3
              go_wp2_with fail
              refine (G.out _).mono ?_
              rintro e w7 ⟨A1, k1, rfl, hb, hv⟩
              have HB7 := Lib.hid (onto HB6.out hb)
              have HV := Lib.hid hv.seen
              clear hb hv G
              go_wp2_with fail
              refine (GT.out _ _ _ HV.out (HT.out.below HB7.out) (HM.out.below HB7.out)).mono ?_
              rintro e w8 ⟨rfl, hb⟩
              have HB8 := Lib.hid (onto HB7.out hb)
              have HV2 := Lib.hid (HV.out.below hb)
              clear hb GT HV
              go_wp2_with fail
              refine (GL.out _).mono ?_
              rintro e w9 ⟨A2, k2, rfl, hb, hv⟩
              have HB9 := Lib.hid (onto HB8.out hb)
              have GS := Lib.hid (same_yes A1 A2 k1 k2 la _ (HV2.out.below hb) hv.seen HZ.out)
              clear hb hv GL HV2 HZ
              go_wp2_with fail
              refine (GS.out).mono ?_
              rintro e w10 ⟨rfl, hb⟩
              have HB10 := Lib.hid (onto HB9.out hb)
              clear hb GS
              rcases hx : Sf.readL true S with _ | la
              · have G := Lib.hid (fun W => dict_none hx HSN.out W)
                clear hx
                go_wp2_with fail
                refine (G.out _).mono ?_
                rintro e w11 ⟨rfl, hb⟩
                have HB11 := Lib.hid (onto HB10.out hb)
                clear hb G
                go_wp2_with fail
                go_ret
                exact ⟨rfl, HB11.out⟩
              · have G := Lib.hid (fun W => dict_some hx HSN.out W)
                obtain ⟨z1, z2, z3⟩ := read_small hx HS1.out
                obtain ⟨t, q1, q2, q3⟩ := Sf.read_again hx HS1.out
                have GL := Lib.hid (fun W => dict_some q3 (by unfold maxLen; omega) W)
                have GT := Lib.hid (fun (A : Option Addr) (c : Nat) (W : World) (h : SeenM W A la) (hT : Tab W) (hM : TabM W) => dictText_any A c la W h z1 z2 (fun _ => by omega) hT hM)
                rw [tl_some q1] at GT
                have HZ : Hid (la.length ≤ maxLen) := Lib.hid (by unfold maxLen; omega)
                clear hx q1 q2 q3 z1 z2 z3
                go_wp2_with fail
                refine (G.out _).mono ?_
                rintro e w11 ⟨A1, k1, rfl, hb, hv⟩
                have HB11 := Lib.hid (onto HB10.out hb)
                have HV := Lib.hid hv.seen
                clear hb hv G
                go_wp2_with fail
                refine (GT.out _ _ _ HV.out (HT.out.below HB11.out) (HM.out.below HB11.out)).mono ?_
                rintro e w12 ⟨rfl, hb⟩
                have HB12 := Lib.hid (onto HB11.out hb)
                have HV2 := Lib.hid (HV.out.below hb)
                clear hb GT HV
                go_wp2_with fail
                refine (GL.out _).mono ?_
                rintro e w13 ⟨A2, k2, rfl, hb, hv⟩
                have HB13 := Lib.hid (onto HB12.out hb)
                have GS := Lib.hid (same_yes A1 A2 k1 k2 la _ (HV2.out.below hb) hv.seen HZ.out)
                clear hb hv GL HV2 HZ
                go_wp2_with fail
                refine (GS.out).mono ?_
                rintro e w14 ⟨rfl, hb⟩
                have HB14 := Lib.hid (onto HB13.out hb)
                clear hb GS
                go_wp2_with fail
                go_ret
                exact ⟨rfl, HB14.out⟩
          · by_cases ht : t.length ≤ 4000
            · have g := H2.out _ HB5.out
              rw [tl_some hx] at g
              have G := Lib.hid g
              have GL := Lib.hid (fun W => dict_some (Sf.read_back hx ht) (by unfold maxLen; omega) W)
              have ht' : (t.length : Int) ≤ 4000 := by omega
              clear g hx ht
              go_wp2_with fail
              refine (G.out).mono ?_
              rintro e w6 ⟨rfl, hb⟩
              have HB6 := Lib.hid (onto HB5.out hb)
              clear hb G
              go_wp2_with fail
              refine (GL.out _).mono ?_
              rintro e w7 ⟨A1, k1, rfl, hb, hv⟩
              have HB7 := Lib.hid (onto HB6.out hb)
              have GS := Lib.hid (same_yes A A1 c k1 l _ (HS.out.below HB7.out) hv.seen HLN.out)
              clear hb hv GL
              go_wp2_with fail
              refine (GS.out).mono ?_
              rintro e w8 ⟨rfl, hb⟩
              have HB8 := Lib.hid (onto HB7.out hb)
              clear hb GS ht'
              rcases hx : Sf.readL false S with _ | la
              · have G := Lib.hid (fun W => list_none hx HSN.out W)
                clear hx
                go_wp2_with fail
                refine (G.out _).mono ?_
                rintro e w9 ⟨rfl, hb⟩
                have HB9 := Lib.hid (onto HB8.out hb)
                clear hb G
                rcases hx : Sf.readL true S with _ | la
                · have G := Lib.hid (fun W => dict_none hx HSN.out W)
                  clear hx
                  go_wp2_with fail
                  refine (G.out _).mono ?_
                  rintro e w10 ⟨rfl, hb⟩
                  have HB10 := Lib.hid (onto HB9.out hb)
                  clear hb G
                  go_wp2_with fail
                  go_ret
                  exact ⟨rfl, HB10.out⟩
                · have G := Lib.hid (fun W => dict_some hx HSN.out W)
                  obtain ⟨z1, z2, z3⟩ := read_small hx HS1.out
                  obtain ⟨t, q1, q2, q3⟩ := Sf.read_again hx HS1.out
                  have GL := Lib.hid (fun W => dict_some q3 (by unfold maxLen; omega) W)
                  have GT := Lib.hid (fun (A : Option Addr) (c : Nat) (W : World) (h : SeenM W A la) (hT : Tab W) (hM : TabM W) => dictText_any A c la W h z1 z2 (fun _ => by omega) hT hM)
                  rw [tl_some q1] at GT
                  have HZ : Hid (la.length ≤ maxLen) := Lib.hid (by unfold maxLen; omega)
                  clear hx q1 q2 q3 z1 z2 z3
                  go_wp2_with fail
                  refine (G.out _).mono ?_
                  rintro e w10 ⟨A1, k1, rfl, hb, hv⟩
                  have HB10 := Lib.hid (onto HB9.out hb)
                  have HV := Lib.hid hv.seen
                  clear hb hv G
                  go_wp2_with fail
                  refine (GT.out _ _ _ HV.out (HT.out.below HB10.out) (HM.out.below HB10.out)).mono ?_
                  rintro e w11 ⟨rfl, hb⟩
                  have HB11 := Lib.hid (onto HB10.out hb)
                  have HV2 := Lib.hid (HV.out.below hb)
                  clear hb GT HV
                  go_wp2_with fail
                  refine (GL.out _).mono ?_
                  rintro e w12 ⟨A2, k2, rfl, hb, hv⟩
                  have HB12 := Lib.hid (onto HB11.out hb)
                  have GS := Lib.hid (same_yes A1 A2 k1 k2 la _ (HV2.out.below hb) hv.seen HZ.out)
                  clear hb hv GL HV2 HZ
                  go_wp2_with fail
                  refine (GS.out).mono ?_
                  rintro e w13 ⟨rfl, hb⟩
                  have HB13 := Lib.hid (onto HB12.out hb)
                  clear hb GS
                  go_wp2_with fail
                  go_ret
                  exact ⟨rfl, HB13.out⟩
              · have G := Lib.hid (fun W => list_some hx HSN.out W)
                obtain ⟨z1, z2, z3⟩ := read_small hx HS1.out
                obtain ⟨t, q1, q2, q3⟩ := Sf.read_again hx HS1.out
                have GL := Lib.hid (fun W => list_some q3 (by unfold maxLen; omega) W)
                have GT := Lib.hid (fun (A : Option Addr) (c : Nat) (W : World) (h : SeenM W A la) (hT : Tab W) (hM : TabM W) => listText_any A c la W h z1 z2 (fun _ => by omega) hT hM)
                rw [tl_some q1] at GT
                have HZ : Hid (la.length ≤ maxLen) := Lib.hid (by unfold maxLen; omega)
                clear hx q1 q2 q3 z1 z2 z3
                go_wp2_with fail
                refine (G.out _).mono ?_
                rintro e w9 ⟨A1, k1, rfl, hb, hv⟩
                have HB9 := Lib.hid (onto HB8.out hb)
                have HV := Lib.hid hv.seen
                clear hb hv G
                go_wp2_with fail
                refine (GT.out _ _ _ HV.out (HT.out.below HB9.out) (HM.out.below HB9.out)).mono ?_
                rintro e w10 ⟨rfl, hb⟩
                have HB10 := Lib.hid (onto HB9.out hb)
                have HV2 := Lib.hid (HV.out.below hb)
                clear hb GT HV
                go_wp2_with fail
                refine (GL.out _).mono ?_
                rintro e w11 ⟨A2, k2, rfl, hb, hv⟩
                have HB11 := Lib.hid (onto HB10.out hb)
                have GS := Lib.hid (same_yes A1 A2 k1 k2 la _ (HV2.out.below hb) hv.seen HZ.out)
                clear hb hv GL HV2 HZ
                go_wp2_with fail
                refine (GS.out).mono ?_
                rintro e w12 ⟨rfl, hb⟩
                have HB12 := Lib.hid (onto HB11.out hb)
                clear hb GS
                rcases hx : Sf.readL true S with _ | la
                · have G := Lib.hid (fun W => dict_none hx HSN.out W)
                  clear hx
                  go_wp2_with fail
                  refine (G.out _).mono ?_
                  rintro e w13 ⟨rfl, hb⟩
                  have HB13 := Lib.hid (onto HB12.out hb)
                  clear hb G
                  go_wp2_with fail
                  go_ret
                  exact ⟨rfl, HB13.out⟩
                · have G := Lib.hid (fun W => dict_some hx HSN.out W)
                  obtain ⟨z1, z2, z3⟩ := read_small hx HS1.out
                  obtain ⟨t, q1, q2, q3⟩ := Sf.read_again hx HS1.out
                  have GL := Lib.hid (fun W => dict_some q3 (by unfold maxLen; omega) W)
                  have GT := Lib.hid (fun (A : Option Addr) (c : Nat) (W : World) (h : SeenM W A la) (hT : Tab W) (hM : TabM W) => dictText_any A c la W h z1 z2 (fun _ => by omega) hT hM)
                  rw [tl_some q1] at GT
                  have HZ : Hid (la.length ≤ maxLen) := Lib.hid (by unfold maxLen; omega)
                  clear hx q1 q2 q3 z1 z2 z3
                  go_wp2_with fail
                  refine (G.out _).mono ?_
                  rintro e w13 ⟨A1, k1, rfl, hb, hv⟩
                  have HB13 := Lib.hid (onto HB12.out hb)
                  have HV := Lib.hid hv.seen
                  clear hb hv G
                  go_wp2_with fail
                  refine (GT.out _ _ _ HV.out (HT.out.below HB13.out) (HM.out.below HB13.out)).mono ?_
                  rintro e w14 ⟨rfl, hb⟩
                  have HB14 := Lib.hid (onto HB13.out hb)
                  have HV2 := Lib.hid (HV.out.below hb)
                  clear hb GT HV
                  go_wp2_with fail
                  refine (GL.out _).mono ?_
                  rintro e w15 ⟨A2, k2, rfl, hb, hv⟩
                  have HB15 := Lib.hid (onto HB14.out hb)
                  have GS := Lib.hid (same_yes A1 A2 k1 k2 la _ (HV2.out.below hb) hv.seen HZ.out)
                  clear hb hv GL HV2 HZ
                  go_wp2_with fail
                  refine (GS.out).mono ?_
                  rintro e w16 ⟨rfl, hb⟩
                  have HB16 := Lib.hid (onto HB15.out hb)
                  clear hb GS
                  go_wp2_with fail
                  go_ret
                  exact ⟨rfl, HB16.out⟩
            · have g := H2.out _ HB5.out
              rw [tl_some hx] at g
              have G := Lib.hid g
              have ht' : decide ((t.length : Int) ≤ 4000) = false := decide_eq_false (by omega)
              clear g hx ht
              go_wp2_with fail
              refine (G.out).mono ?_
              rintro e w6 ⟨rfl, hb⟩
              have HB6 := Lib.hid (onto HB5.out hb)
              clear hb G
              rcases hx : Sf.readL false S with _ | la
              · have G := Lib.hid (fun W => list_none hx HSN.out W)
                clear hx
                go_wp2_with fail
                refine (G.out _).mono ?_
                rintro e w7 ⟨rfl, hb⟩
                have HB7 := Lib.hid (onto HB6.out hb)
                clear hb G
                rcases hx : Sf.readL true S with _ | la
                · have G := Lib.hid (fun W => dict_none hx HSN.out W)
                  clear hx
                  go_wp2_with fail
                  refine (G.out _).mono ?_
                  rintro e w8 ⟨rfl, hb⟩
                  have HB8 := Lib.hid (onto HB7.out hb)
                  clear hb G
                  go_wp2_with fail
                  go_ret
                  exact ⟨rfl, HB8.out⟩
                · have G := Lib.hid (fun W => dict_some hx HSN.out W)
                  obtain ⟨z1, z2, z3⟩ := read_small hx HS1.out
                  obtain ⟨t, q1, q2, q3⟩ := Sf.read_again hx HS1.out
                  have GL := Lib.hid (fun W => dict_some q3 (by unfold maxLen; omega) W)
                  have GT := Lib.hid (fun (A : Option Addr) (c : Nat) (W : World) (h : SeenM W A la) (hT : Tab W) (hM : TabM W) => dictText_any A c la W h z1 z2 (fun _ => by omega) hT hM)
                  rw [tl_some q1] at GT
                  have HZ : Hid (la.length ≤ maxLen) := Lib.hid (by unfold maxLen; omega)
                  clear hx q1 q2 q3 z1 z2 z3
                  go_wp2_with fail
                  refine (G.out _).mono ?_
                  rintro e w8 ⟨A1, k1, rfl, hb, hv⟩
                  have HB8 := Lib.hid (onto HB7.out hb)
                  have HV := Lib.hid hv.seen
                  clear hb hv G
                  go_wp2_with fail
                  refine (GT.out _ _ _ HV.out (HT.out.below HB8.out) (HM.out.below HB8.out)).mono ?_
                  rintro e w9 ⟨rfl, hb⟩
                  have HB9 := Lib.hid (onto HB8.out hb)
                  have HV2 := Lib.hid (HV.out.below hb)
                  clear hb GT HV
                  go_wp2_with fail
                  refine (GL.out _).mono ?_
                  rintro e w10 ⟨A2, k2, rfl, hb, hv⟩
                  have HB10 := Lib.hid (onto HB9.out hb)
                  have GS := Lib.hid (same_yes A1 A2 k1 k2 la _ (HV2.out.below hb) hv.seen HZ.out)
                  clear hb hv GL HV2 HZ
                  go_wp2_with fail
                  refine (GS.out).mono ?_
                  rintro e w11 ⟨rfl, hb⟩
                  have HB11 := Lib.hid (onto HB10.out hb)
                  clear hb GS
                  go_wp2_with fail
                  go_ret
                  exact ⟨rfl, HB11.out⟩
              · have G := Lib.hid (fun W => list_some hx HSN.out W)
                obtain ⟨z1, z2, z3⟩ := read_small hx HS1.out
                obtain ⟨t, q1, q2, q3⟩ := Sf.read_again hx HS1.out
                have GL := Lib.hid (fun W => list_some q3 (by unfold maxLen; omega) W)
                have GT := Lib.hid (fun (A : Option Addr) (c : Nat) (W : World) (h : SeenM W A la) (hT : Tab W) (hM : TabM W) => listText_any A c la W h z1 z2 (fun _ => by omega) hT hM)
                rw [tl_some q1] at GT
                have HZ : Hid (la.length ≤ maxLen) := Lib.hid (by unfold maxLen; omega)
                clear hx q1 q2 q3 z1 z2 z3
                go_wp2_with fail
                refine (G.out _).mono ?_
                rintro e w7 ⟨A1, k1, rfl, hb, hv⟩
                have HB7 := Lib.hid (onto HB6.out hb)
                have HV := Lib.hid hv.seen
                clear hb hv G
                go_wp2_with fail
                refine (GT.out _ _ _ HV.out (HT.out.below HB7.out) (HM.out.below HB7.out)).mono ?_
                rintro e w8 ⟨rfl, hb⟩
                have HB8 := Lib.hid (onto HB7.out hb)
                have HV2 := Lib.hid (HV.out.below hb)
                clear hb GT HV
                go_wp2_with fail
                refine (GL.out _).mono ?_
                rintro e w9 ⟨A2, k2, rfl, hb, hv⟩
                have HB9 := Lib.hid (onto HB8.out hb)
                have GS := Lib.hid (same_yes A1 A2 k1 k2 la _ (HV2.out.below hb) hv.seen HZ.out)
                clear hb hv GL HV2 HZ
                go_wp2_with fail
                refine (GS.out).mono ?_
                rintro e w10 ⟨rfl, hb⟩
                have HB10 := Lib.hid (onto HB9.out hb)
                clear hb GS
                rcases hx : Sf.readL true S with _ | la
                · have G := Lib.hid (fun W => dict_none hx HSN.out W)
                  clear hx
                  go_wp2_with fail
                  refine (G.out _).mono ?_
                  rintro e w11 ⟨rfl, hb⟩
                  have HB11 := Lib.hid (onto HB10.out hb)
                  clear hb G
                  go_wp2_with fail
                  go_ret
                  exact ⟨rfl, HB11.out⟩
                · have G := Lib.hid (fun W => dict_some hx HSN.out W)
                  obtain ⟨z1, z2, z3⟩ := read_small hx HS1.out
                  obtain ⟨t, q1, q2, q3⟩ := Sf.read_again hx HS1.out
                  have GL := Lib.hid (fun W => dict_some q3 (by unfold maxLen; omega) W)
                  have GT := Lib.hid (fun (A : Option Addr) (c : Nat) (W : World) (h : SeenM W A la) (hT : Tab W) (hM : TabM W) => dictText_any A c la W h z1 z2 (fun _ => by omega) hT hM)
                  rw [tl_some q1] at GT
                  have HZ : Hid (la.length ≤ maxLen) := Lib.hid (by unfold maxLen; omega)
                  clear hx q1 q2 q3 z1 z2 z3
                  go_wp2_with fail
                  refine (G.out _).mono ?_
                  rintro e w11 ⟨A1, k1, rfl, hb, hv⟩
                  have HB11 := Lib.hid (onto HB10.out hb)
                  have HV := Lib.hid hv.seen
                  clear hb hv G
                  go_wp2_with fail
                  refine (GT.out _ _ _ HV.out (HT.out.below HB11.out) (HM.out.below HB11.out)).mono ?_
                  rintro e w12 ⟨rfl, hb⟩
                  have HB12 := Lib.hid (onto HB11.out hb)
                  have HV2 := Lib.hid (HV.out.below hb)
                  clear hb GT HV
                  go_wp2_with fail
                  refine (GL.out _).mono ?_
                  rintro e w13 ⟨A2, k2, rfl, hb, hv⟩
                  have HB13 := Lib.hid (onto HB12.out hb)
                  have GS := Lib.hid (same_yes A1 A2 k1 k2 la _ (HV2.out.below hb) hv.seen HZ.out)
                  clear hb hv GL HV2 HZ
                  go_wp2_with fail
                  refine (GS.out).mono ?_
                  rintro e w14 ⟨rfl, hb⟩
                  have HB14 := Lib.hid (onto HB13.out hb)
                  clear hb GS
                  go_wp2_with fail
                  go_ret
                  exact ⟨rfl, HB14.out⟩
        · have g := H1.out _ HB2.out
          rw [tl_some hx] at g
          have G := Lib.hid g
          have ht' : decide ((t.length : Int) ≤ 4000) = false := decide_eq_false (by omega)
          clear g hx ht
          go_wp2_with fail
          refine (G.out).mono ?_
          rintro e w3 ⟨rfl, hb⟩
          have HB3 := Lib.hid (onto HB2.out hb)
          clear hb G
          rcases hx : Sf.textL true l with _ | t
          · have g := H2.out _ HB3.out
            rw [tl_none hx] at g
            have G := Lib.hid g
            clear g hx
            go_wp2_with fail
            refine (G.out).mono ?_
            rintro e w4 ⟨rfl, hb⟩
            have HB4 := Lib.hid (onto HB3.out hb)
            clear hb G
            rcases hx : Sf.readL false S with _ | la
            · have G := Lib.hid (fun W => list_none hx HSN.out W)
              clear hx
              go_wp2_with fail
              refine (G.out _).mono ?_
              rintro e w5 ⟨rfl, hb⟩
              have HB5 := Lib.hid (onto HB4.out hb)
              clear hb G
              rcases hx : Sf.readL true S with _ | la
              · have G := Lib.hid (fun W => dict_none hx HSN.out W)
                clear hx
                go_wp2_with fail
                refine (G.out _).mono ?_
                rintro e w6 ⟨rfl, hb⟩
                have HB6 := Lib.hid (onto HB5.out hb)
                clear hb G
                go_wp2_with fail
                go_ret
                exact ⟨rfl, HB6.out⟩
              · have G := Lib.hid (fun W => dict_some hx HSN.out W)
                obtain ⟨z1, z2, z3⟩ := read_small hx HS1.out
                obtain ⟨t, q1, q2, q3⟩ := Sf.read_again hx HS1.out
                have GL := Lib.hid (fun W => dict_some q3 (by unfold maxLen; omega) W)
                have GT := Lib.hid (fun (A : Option Addr) (c : Nat) (W : World) (h : SeenM W A la) (hT : Tab W) (hM : TabM W) => dictText_any A c la W h z1 z2 (fun _ => by omega) hT hM)
                rw [tl_some q1] at GT
                have HZ : Hid (la.length ≤ maxLen) := Lib.hid (by unfold maxLen; omega)
                clear hx q1 q2 q3 z1 z2 z3
                go_wp2_with fail
                refine (G.out _).mono ?_
                rintro e w6 ⟨A1, k1, rfl, hb, hv⟩
                have HB6 := Lib.hid (onto HB5.out hb)
                have HV := Lib.hid hv.seen
                clear hb hv G
                go_wp2_with fail
                refine (GT.out _ _ _ HV.out (HT.out.below HB6.out) (HM.out.below HB6.out)).mono ?_
                rintro e w7 ⟨rfl, hb⟩
                have HB7 := Lib.hid (onto HB6.out hb)
                have HV2 := Lib.hid (HV.out.below hb)
                clear hb GT HV
                go_wp2_with fail
                refine (GL.out _).mono ?_
                rintro e w8 ⟨A2, k2, rfl, hb, hv⟩
                have HB8 := Lib.hid (onto HB7.out hb)
                have GS := Lib.hid (same_yes A1 A2 k1 k2 la _ (HV2.out.below hb) hv.seen HZ.out)
                clear hb hv GL HV2 HZ
                go_wp2_with fail
                refine (GS.out).mono ?_
                rintro e w9 ⟨rfl, hb⟩
                have HB9 := Lib.hid (onto HB8.out hb)
                clear hb GS
                go_wp2_with fail
                go_ret
                exact ⟨rfl, HB9.out⟩
            · have G := Lib.hid (fun W => list_some hx HSN.out W)
              obtain ⟨z1, z2, z3⟩ := read_small hx HS1.out
              obtain ⟨t, q1, q2, q3⟩ := Sf.read_again hx HS1.out
              have GL := Lib.hid (fun W => list_some q3 (by unfold maxLen; omega) W)
              have GT := Lib.hid (fun (A : Option Addr) (c : Nat) (W : World) (h : SeenM W A la) (hT : Tab W) (hM : TabM W) => listText_any A c la W h z1 z2 (fun _ => by omega) hT hM)
              rw [tl_some q1] at GT
              have HZ : Hid (la.length ≤ maxLen) := Lib.hid (by unfold maxLen; omega)
              clear hx q1 q2 q3 z1 z2 z3
              go_wp2_with fail
              refine (G.out _).mono ?_
              rintro e w5 ⟨A1, k1, rfl, hb, hv⟩
              have HB5 := Lib.hid (onto HB4.out hb)
              have HV := Lib.hid hv.seen
              clear hb hv G
              go_wp2_with fail
              refine (GT.out _ _ _ HV.out (HT.out.below HB5.out) (HM.out.below HB5.out)).mono ?_
              rintro e w6 ⟨rfl, hb⟩
              have HB6 := Lib.hid (onto HB5.out hb)
              have HV2 := Lib.hid (HV.out.below hb)
              clear hb GT HV
              go_wp2_with fail
              refine (GL.out _).mono ?_
              rintro e w7 ⟨A2, k2, rfl, hb, hv⟩
              have HB7 := Lib.hid (onto HB6.out hb)
              have GS := Lib.hid (same_yes A1 A2 k1 k2 la _ (HV2.out.below hb) hv.seen HZ.out)
              clear hb hv GL HV2 HZ
              go_wp2_with fail
              refine (GS.out).mono ?_
              rintro e w8 ⟨rfl, hb⟩
              have HB8 := Lib.hid (onto HB7.out hb)
              clear hb GS
              rcases hx : Sf.readL true S with _ | la
              · have G := Lib.hid (fun W => dict_none hx HSN.out W)
                clear hx
                go_wp2_with fail
                refine (G.out _).mono ?_
                rintro e w9 ⟨rfl, hb⟩
                have HB9 := Lib.hid (onto HB8.out hb)
                clear hb G
                go_wp2_with fail
                go_ret
                exact ⟨rfl, HB9.out⟩
              · have G := Lib.hid (fun W => dict_some hx HSN.out W)
                obtain ⟨z1, z2, z3⟩ := read_small hx HS1.out
                obtain ⟨t, q1, q2, q3⟩ := Sf.read_again hx HS1.out
                have GL := Lib.hid (fun W => dict_some q3 (by unfold maxLen; omega) W)
                have GT := Lib.hid (fun (A : Option Addr) (c : Nat) (W : World) (h : SeenM W A la) (hT : Tab W) (hM : TabM W) => dictText_any A c la W h z1 z2 (fun _ => by omega) hT hM)
                rw [tl_some q1] at GT
                have HZ : Hid (la.length ≤ maxLen) := Lib.hid (by unfold maxLen; omega)
                clear hx q1 q2 q3 z1 z2 z3
                go_wp2_with fail
                refine (G.out _).mono ?_
                rintro e w9 ⟨A1, k1, rfl, hb, hv⟩
                have HB9 := Lib.hid (onto HB8.out hb)
                have HV := Lib.hid hv.seen
                clear hb hv G
                go_wp2_with fail
                refine (GT.out _ _ _ HV.out (HT.out.below HB9.out) (HM.out.below HB9.out)).mono ?_
                rintro e w10 ⟨rfl, hb⟩
                have HB10 := Lib.hid (onto HB9.out hb)
                have HV2 := Lib.hid (HV.out.below hb)
                clear hb GT HV
                go_wp2_with fail
                refine (GL.out _).mono ?_
                rintro e w11 ⟨A2, k2, rfl, hb, hv⟩
                have HB11 := Lib.hid (onto HB10.out hb)
                have GS := Lib.hid (same_yes A1 A2 k1 k2 la _ (HV2.out.below hb) hv.seen HZ.out)
                clear hb hv GL HV2 HZ
                go_wp2_with fail
                refine (GS.out).mono ?_
                rintro e w12 ⟨rfl, hb⟩
                have HB12 := Lib.hid (onto HB11.out hb)
                clear hb GS
                go_wp2_with fail
                go_ret
                exact ⟨rfl, HB12.out⟩
          · by_cases ht : t.length ≤ 4000
            · have g := H2.out _ HB3.out
              rw [tl_some hx] at g
              have G := Lib.hid g
              have GL := Lib.hid (fun W => dict_some (Sf.read_back hx ht) (by unfold maxLen; omega) W)
              have ht' : (t.length : Int) ≤ 4000 := by omega
              clear g hx ht
              go_wp2_with fail
              refine (G.out).mono ?_
              rintro e w4 ⟨rfl, hb⟩
              have HB4 := Lib.hid (onto HB3.out hb)
              clear hb G
              go_wp2_with fail
              refine (GL.out _).mono ?_
              rintro e w5 ⟨A1, k1, rfl, hb, hv⟩
              have HB5 := Lib.hid (onto HB4.out hb)
              have GS := Lib.hid (same_yes A A1 c k1 l _ (HS.out.below HB5.out) hv.seen HLN.out)
              clear hb hv GL
              go_wp2_with fail
              refine (GS.out).mono ?_
              rintro e w6 ⟨rfl, hb⟩
              have HB6 := Lib.hid (onto HB5.out hb)
              clear hb GS ht'
              rcases hx : Sf.readL false S with _ | la
              · have G := Lib.hid (fun W => list_none hx HSN.out W)
                clear hx
                go_wp2_with fail
                refine (G.out _).mono ?_
                rintro e w7 ⟨rfl, hb⟩
                have HB7 := Lib.hid (onto HB6.out hb)
                clear hb G
                rcases hx : Sf.readL true S with _ | la
                · have G := Lib.hid (fun W => dict_none hx HSN.out W)
                  clear hx
                  go_wp2_with fail
                  refine (G.out _).mono ?_
                  rintro e w8 ⟨rfl, hb⟩
                  have HB8 := Lib.hid (onto HB7.out hb)
                  clear hb G
                  go_wp2_with fail
                  go_ret
                  exact ⟨rfl, HB8.out⟩
                · have G := Lib.hid (fun W => dict_some hx HSN.out W)
                  obtain ⟨z1, z2, z3⟩ := read_small hx HS1.out
                  obtain ⟨t, q1, q2, q3⟩ := Sf.read_again hx HS1.out
                  have GL := Lib.hid (fun W => dict_some q3 (by unfold maxLen; omega) W)
                  have GT := Lib.hid (fun (A : Option Addr) (c : Nat) (W : World) (h : SeenM W A la) (hT : Tab W) (hM : TabM W) => dictText_any A c la W h z1 z2 (fun _ => by omega) hT hM)
                  rw [tl_some q1] at GT
                  have HZ : Hid (la.length ≤ maxLen) := Lib.hid (by unfold maxLen; omega)
                  clear hx q1 q2 q3 z1 z2 z3
                  go_wp2_with fail
                  refine (G.out _).mono ?_
                  rintro e w8 ⟨A1, k1, rfl, hb, hv⟩
                  have HB8 := Lib.hid (onto HB7.out hb)
                  have HV := Lib.hid hv.seen
                  clear hb hv G
                  go_wp2_with fail
                  refine (GT.out _ _ _ HV.out (HT.out.below HB8.out) (HM.out.below HB8.out)).mono ?_
                  rintro e w9 ⟨rfl, hb⟩
                  have HB9 := Lib.hid (onto HB8.out hb)
                  have HV2 := Lib.hid (HV.out.below hb)
                  clear hb GT HV
                  go_wp2_with fail
                  refine (GL.out _).mono ?_
                  rintro e w10 ⟨A2, k2, rfl, hb, hv⟩
                  have HB10 := Lib.hid (onto HB9.out hb)
                  have GS := Lib.hid (same_yes A1 A2 k1 k2 la _ (HV2.out.below hb) hv.seen HZ.out)
                  clear hb hv GL HV2 HZ
                  go_wp2_with fail
                  refine (GS.out).mono ?_
                  rintro e w11 ⟨rfl, hb⟩
                  have HB11 := Lib.hid (onto HB10.out hb)
                  clear hb GS
                  go_wp2_with fail
                  go_ret
                  exact ⟨rfl, HB11.out⟩
              · have G := Lib.hid (fun W => list_some hx HSN.out W)
                obtain ⟨z1, z2, z3⟩ := read_small hx HS1.out
                obtain ⟨t, q1, q2, q3⟩ := Sf.read_again hx HS1.out
                have GL := Lib.hid (fun W => list_some q3 (by unfold maxLen; omega) W)
                have GT := Lib.hid (fun (A : Option Addr) (c : Nat) (W : World) (h : SeenM W A la) (hT : Tab W) (hM : TabM W) => listText_any A c la W h z1 z2 (fun _ => by omega) hT hM)
                rw [tl_some q1] at GT
                have HZ : Hid (la.length ≤ maxLen) := Lib.hid (by unfold maxLen; omega)
                clear hx q1 q2 q3 z1 z2 z3
                go_wp2_with fail
                refine (G.out _).mono ?_
                rintro e w7 ⟨A1, k1, rfl, hb, hv⟩
                have HB7 := Lib.hid (onto HB6.out hb)
                have HV := Lib.hid hv.seen
                clear hb hv G
                go_wp2_with fail
                refine (GT.out _ _ _ HV.out (HT.out.below HB7.out) (HM.out.below HB7.out)).mono ?_
                rintro e w8 ⟨rfl, hb⟩
                have HB8 := Lib.hid (onto HB7.out hb)
                have HV2 := Lib.hid (HV.out.below hb)
                clear hb GT HV
                go_wp2_with fail
                refine (GL.out _).mono ?_
                rintro e w9 ⟨A2, k2, rfl, hb, hv⟩
                have HB9 := Lib.hid (onto HB8.out hb)
                have GS := Lib.hid (same_yes A1 A2 k1 k2 la _ (HV2.out.below hb) hv.seen HZ.out)
                clear hb hv GL HV2 HZ
                go_wp2_with fail
                refine (GS.out).mono ?_
                rintro e w10 ⟨rfl, hb⟩
                have HB10 := Lib.hid (onto HB9.out hb)
                clear hb GS
                rcases hx : Sf.readL true S with _ | la
                · have G := Lib.hid (fun W => dict_none hx HSN.out W)
                  clear hx
                  go_wp2_with fail
                  refine (G.out _).mono ?_
                  rintro e w11 ⟨rfl, hb⟩
                  have HB11 := Lib.hid (onto HB10.out hb)
                  clear hb G
                  go_wp2_with fail
                  go_ret
                  exact ⟨rfl, HB11.out⟩
                · have G := Lib.hid (fun W => dict_some hx HSN.out W)
                  obtain ⟨z1, z2, z3⟩ := read_small hx HS1.out
                  obtain ⟨t, q1, q2, q3⟩ := Sf.read_again hx HS1.out
                  have GL := Lib.hid (fun W => dict_some q3 (by unfold maxLen; omega) W)
                  have GT := Lib.hid (fun (A : Option Addr) (c : Nat) (W : World) (h : SeenM W A la) (hT : Tab W) (hM : TabM W) => dictText_any A c la W h z1 z2 (fun _ => by omega) hT hM)
                  rw [tl_some q1] at GT
                  have HZ : Hid (la.length ≤ maxLen) := Lib.hid (by unfold maxLen; omega)
                  clear hx q1 q2 q3 z1 z2 z3
                  go_wp2_with fail
                  refine (G.out _).mono ?_
                  rintro e w11 ⟨A1, k1, rfl, hb, hv⟩
                  have HB11 := Lib.hid (onto HB10.out hb)
                  have HV := Lib.hid hv.seen
                  clear hb hv G
                  go_wp2_with fail
                  refine (GT.out _ _ _ HV.out (HT.out.below HB11.out) (HM.out.below HB11.out)).mono ?_
                  rintro e w12 ⟨rfl, hb⟩
                  have HB12 := Lib.hid (onto HB11.out hb)
                  have HV2 := Lib.hid (HV.out.below hb)
                  clear hb GT HV
                  go_wp2_with fail
                  refine (GL.out _).mono ?_
                  rintro e w13 ⟨A2, k2, rfl, hb, hv⟩
                  have HB13 := Lib.hid (onto HB12.out hb)
                  have GS := Lib.hid (same_yes A1 A2 k1 k2 la _ (HV2.out.below hb) hv.seen HZ.out)
                  clear hb hv GL HV2 HZ
                  go_wp2_with fail
                  refine (GS.out).mono ?_
                  rintro e w14 ⟨rfl, hb⟩
                  have HB14 := Lib.hid (onto HB13.out hb)
                  clear hb GS
                  go_wp2_with fail
                  go_ret
                  exact ⟨rfl, HB14.out⟩
            · have g := H2.out _ HB3.out
              rw [tl_some hx] at g
              have G := Lib.hid g
              have ht' : decide ((t.length : Int) ≤ 4000) = false := decide_eq_false (by omega)
              clear g hx ht
              go_wp2_with fail
              refine (G.out).mono ?_
              rintro e w4 ⟨rfl, hb⟩
              have HB4 := Lib.hid (onto HB3.out hb)
              clear hb G
              rcases hx : Sf.readL false S with _ | la
              · have G := Lib.hid (fun W => list_none hx HSN.out W)
                clear hx
                go_wp2_with fail
                refine (G.out _).mono ?_
                rintro e w5 ⟨rfl, hb⟩
                have HB5 := Lib.hid (onto HB4.out hb)
                clear hb G
                rcases hx : Sf.readL true S with _ | la
                · have G := Lib.hid (fun W => dict_none hx HSN.out W)
                  clear hx
                  go_wp2_with fail
                  refine (G.out _).mono ?_
                  rintro e w6 ⟨rfl, hb⟩
                  have HB6 := Lib.hid (onto HB5.out hb)
                  clear hb G
                  go_wp2_with fail
                  go_ret
                  exact ⟨rfl, HB6.out⟩
                · have G := Lib.hid (fun W => dict_some hx HSN.out W)
                  obtain ⟨z1, z2, z3⟩ := read_small hx HS1.out
                  obtain ⟨t, q1, q2, q3⟩ := Sf.read_again hx HS1.out
                  have GL := Lib.hid (fun W => dict_some q3 (by unfold maxLen; omega) W)
                  have GT := Lib.hid (fun (A : Option Addr) (c : Nat) (W : World) (h : SeenM W A la) (hT : Tab W) (hM : TabM W) => dictText_any A c la W h z1 z2 (fun _ => by omega) hT hM)
                  rw [tl_some q1] at GT
                  have HZ : Hid (la.length ≤ maxLen) := Lib.hid (by unfold maxLen; omega)
                  clear hx q1 q2 q3 z1 z2 z3
                  go_wp2_with fail
                  refine (G.out _).mono ?_
                  rintro e w6 ⟨A1, k1, rfl, hb, hv⟩
                  have HB6 := Lib.hid (onto HB5.out hb)
                  have HV := Lib.hid hv.seen
                  clear hb hv G
                  go_wp2_with fail
                  refine (GT.out _ _ _ HV.out (HT.out.below HB6.out) (HM.out.below HB6.out)).mono ?_
                  rintro e w7 ⟨rfl, hb⟩
                  have HB7 := Lib.hid (onto HB6.out hb)
                  have HV2 := Lib.hid (HV.out.below hb)
                  clear hb GT HV
                  go_wp2_with fail
                  refine (GL.out _).mono ?_
                  rintro e w8 ⟨A2, k2, rfl, hb, hv⟩
                  have HB8 := Lib.hid (onto HB7.out hb)
                  have GS := Lib.hid (same_yes A1 A2 k1 k2 la _ (HV2.out.below hb) hv.seen HZ.out)
                  clear hb hv GL HV2 HZ
                  go_wp2_with fail
                  refine (GS.out).mono ?_
                  rintro e w9 ⟨rfl, hb⟩
                  have HB9 := Lib.hid (onto HB8.out hb)
                  clear hb GS
                  go_wp2_with fail
                  go_ret
                  exact ⟨rfl, HB9.out⟩
              · have G := Lib.hid (fun W => list_some hx HSN.out W)
                obtain ⟨z1, z2, z3⟩ := read_small hx HS1.out
                obtain ⟨t, q1, q2, q3⟩ := Sf.read_again hx HS1.out
                have GL := Lib.hid (fun W => list_some q3 (by unfold maxLen; omega) W)
                have GT := Lib.hid (fun (A : Option Addr) (c : Nat) (W : World) (h : SeenM W A la) (hT : Tab W) (hM : TabM W) => listText_any A c la W h z1 z2 (fun _ => by omega) hT hM)
                rw [tl_some q1] at GT
                have HZ : Hid (la.length ≤ maxLen) := Lib.hid (by unfold maxLen; omega)
                clear hx q1 q2 q3 z1 z2 z3
                go_wp2_with fail
                refine (G.out _).mono ?_
                rintro e w5 ⟨A1, k1, rfl, hb, hv⟩
                have HB5 := Lib.hid (onto HB4.out hb)
                have HV := Lib.hid hv.seen
                clear hb hv G
                go_wp2_with fail
                refine (GT.out _ _ _ HV.out (HT.out.below HB5.out) (HM.out.below HB5.out)).mono ?_
                rintro e w6 ⟨rfl, hb⟩
                have HB6 := Lib.hid (onto HB5.out hb)
                have HV2 := Lib.hid (HV.out.below hb)
                clear hb GT HV
                go_wp2_with fail
                refine (GL.out _).mono ?_
                rintro e w7 ⟨A2, k2, rfl, hb, hv⟩
                have HB7 := Lib.hid (onto HB6.out hb)
                have GS := Lib.hid (same_yes A1 A2 k1 k2 la _ (HV2.out.below hb) hv.seen HZ.out)
                clear hb hv GL HV2 HZ
                go_wp2_with fail
                refine (GS.out).mono ?_
                rintro e w8 ⟨rfl, hb⟩
                have HB8 := Lib.hid (onto HB7.out hb)
                clear hb GS
                rcases hx : Sf.readL true S with _ | la
                · have G := Lib.hid (fun W => dict_none hx HSN.out W)
                  clear hx
                  go_wp2_with fail
                  refine (G.out _).mono ?_
                  rintro e w9 ⟨rfl, hb⟩
                  have HB9 := Lib.hid (onto HB8.out hb)
                  clear hb G
                  go_wp2_with fail
                  go_ret
                  exact ⟨rfl, HB9.out⟩
                · have G := Lib.hid (fun W => dict_some hx HSN.out W)
                  obtain ⟨z1, z2, z3⟩ := read_small hx HS1.out
                  obtain ⟨t, q1, q2, q3⟩ := Sf.read_again hx HS1.out
                  have GL := Lib.hid (fun W => dict_some q3 (by unfold maxLen; omega) W)
                  have GT := Lib.hid (fun (A : Option Addr) (c : Nat) (W : World) (h : SeenM W A la) (hT : Tab W) (hM : TabM W) => dictText_any A c la W h z1 z2 (fun _ => by omega) hT hM)
                  rw [tl_some q1] at GT
                  have HZ : Hid (la.length ≤ maxLen) := Lib.hid (by unfold maxLen; omega)
                  clear hx q1 q2 q3 z1 z2 z3
                  go_wp2_with fail
                  refine (G.out _).mono ?_
                  rintro e w9 ⟨A1, k1, rfl, hb, hv⟩
                  have HB9 := Lib.hid (onto HB8.out hb)
                  have HV := Lib.hid hv.seen
                  clear hb hv G
                  go_wp2_with fail
                  refine (GT.out _ _ _ HV.out (HT.out.below HB9.out) (HM.out.below HB9.out)).mono ?_
                  rintro e w10 ⟨rfl, hb⟩
                  have HB10 := Lib.hid (onto HB9.out hb)
                  have HV2 := Lib.hid (HV.out.below hb)
                  clear hb GT HV
                  go_wp2_with fail
                  refine (GL.out _).mono ?_
                  rintro e w11 ⟨A2, k2, rfl, hb, hv⟩
                  have HB11 := Lib.hid (onto HB10.out hb)
                  have GS := Lib.hid (same_yes A1 A2 k1 k2 la _ (HV2.out.below hb) hv.seen HZ.out)
                  clear hb hv GL HV2 HZ
                  go_wp2_with fail
                  refine (GS.out).mono ?_
                  rintro e w12 ⟨rfl, hb⟩
                  have HB12 := Lib.hid (onto HB11.out hb)
                  clear hb GS
                  go_wp2_with fail
                  go_ret
                  exact ⟨rfl, HB12.out⟩
    · have hS' : (1000 : Int) < (S.length : Int) := by omega
      clear hs hS1
      go_enter Tryz.func5, Tryz.ntmps5
      go_wp2_with fail
      refine H0.out.mono ?_
      rintro e w1 ⟨rfl, hb1⟩
      have HB1 := Lib.hid hb1
      clear hb1 H0
      go_wp2_with fail
      refine (HF.out _ (HS.out.below HB1.out)).mono ?_
      rintro e w2 ⟨rfl, hb2⟩
      have HB2 := Lib.hid (onto HB1.out hb2)
      clear hb2 HF
      go_wp2_with fail
      go_ret
      exact ⟨rfl, HB2.out⟩
end Go.Proofs.YtogjekjklknfeaaGreatDoor
