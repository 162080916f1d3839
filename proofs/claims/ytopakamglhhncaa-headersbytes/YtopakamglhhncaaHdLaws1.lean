/- The walks of the statements HeadersNames and HeadersTells. -/
import Derived.Test.YtopakamglhhncaaHdAwake
import Derived.Test.YtopakamglhhncaaHdRef3
import Derived.Test.YtopakamglhhncaaHdOpen
namespace Go.Proofs.Ytopakamglhhncaa
open Go.RowKit

set_option maxHeartbeats 1000000 in
theorem walk_HeadersNames (w : World) : Calls Try.prog 3 #[] w fun e w' => e = .returned (.bool true) ∧ Below w.heap.size w w' := by
  go_enter Try.func3, Try.ntmps3
  go_wp2_with fail
  refine (awake_any _).mono ?_
  rintro e w1 ⟨rfl, hb1⟩
  go_wp2_with fail
  go_ret
  exact ⟨rfl, hb1⟩
theorem texts_same (b1 b2 : Nat) (v1 v2 : Value) (pa : List (List UInt8)) (w : World) (h1 : w.ownsRow b1 9 1 v1 pa.length (pa.map Oct.strV)) (h2 : w.ownsRow b2 9 1 v2 pa.length (pa.map Oct.strV)) :
    Calls Try.prog 11 #[v1, v2] w fun e w' => e = .returned (.bool true) ∧ Below w.heap.size w w' :=
  (texts_any b1 b2 v1 v2 pa pa w h1 h2).mono (by rintro e w' ⟨rfl, hb⟩; exact ⟨Oct.ret_bool (by simp), hb⟩)
set_option maxHeartbeats 4000000 in
theorem walk_HeadersTells (A : Option Addr) (c : Nat) (l : List Hd.Hdr) (nm : ByteArray) (w : World) (hw : WideHs w A c l) (hnm : nm.size ≤ maxLen) :
    Calls Try.prog 4 #[.slice A l.length c, .string nm] w fun e w' => e = .returned (.bool true) ∧ Below w.heap.size w w' := by
  unfold maxLen at hnm
  by_cases hok : fewB l = true ∧ nm.size ≤ 1000
  · obtain ⟨hfew, hn⟩ := hok
    have hl := few_small hfew
    have HL := Lib.hid hl
    have hnmz : ¬ ((1000 : Int) < (nm.size : Int)) := by omega
    have hnl : nm.data.toList.length ≤ 10000 := by simp; omega
    have HS := Lib.hid hw.seen
    clear hl hn hw
    go_enter Try.func4, Try.ntmps4
    go_wp2_with fail
    refine (awake_any _).mono ?_
    rintro e w1 ⟨rfl, hb1⟩
    have HS1 := Lib.hid (HS.out.below hb1); have HB1 := Lib.hid hb1
    clear hb1
    go_wp2_with fail
    have hf := few_any A c l.length l w1 rfl HS1.out
    rw [hfew] at hf
    refine hf.mono ?_
    rintro e w2 ⟨rfl, hw2⟩
    rw [hw2]
    clear hf hw2
    go_wp2_with fail
    have hc := values_any A c l.length l nm.data.toList w1 rfl HL.out hnl HS1.out
    obtain ⟨vs, hvs⟩ : ∃ vs, Hd.vals l nm.data.toList = vs := ⟨_, rfl⟩
    obtain ⟨pt, hpt⟩ : ∃ pt, Hd.partsL l nm.data.toList = pt := ⟨_, rfl⟩
    obtain ⟨cs, hcs⟩ : ∃ cs, Hd.comb l nm.data.toList = cs := ⟨_, rfl⟩
    obtain ⟨hs, hhs⟩ : ∃ hs, Hd.hasB l nm.data.toList = hs := ⟨_, rfl⟩
    have HVS := Lib.hid hvs; have HPT := Lib.hid hpt; have HCS := Lib.hid hcs; have HHS := Lib.hid hhs
    rw [hvs] at hc
    clear hvs hpt hcs hhs
    refine hc.mono ?_
    rintro e w3 ⟨v3, rfl, hb3, hr3⟩
    have HS3 := Lib.hid (HS1.out.below hb3); have HB3 := Lib.hid (Below.onto HB1.out hb3); have HR3 := Lib.hid hr3
    clear hc hb3 hr3
    go_wp2_with fail
    have hc := rvalues_any A c l.length l nm.data.toList w3 rfl HL.out hnl HS3.out
    rw [HVS.out] at hc
    refine hc.mono ?_
    rintro e w4 ⟨v4, rfl, hb4, hr4⟩
    have HS4 := Lib.hid (HS3.out.below hb4); have HB4 := Lib.hid (Below.onto HB3.out hb4); have HR4 := Lib.hid (owns_below HR3.out hb4); have HR4b := Lib.hid hr4
    clear hc hb4 hr4
    go_wp2_with fail
    refine (texts_same _ _ _ _ _ _ HR4.out HR4b.out).mono ?_
    rintro e w5 ⟨rfl, hb5⟩
    have HS5 := Lib.hid (HS4.out.below hb5); have HB5 := Lib.hid (Below.onto HB4.out hb5)
    clear hb5
    go_wp2_with fail
    have hc := parts_any A c l.length l nm.data.toList w5 rfl HL.out hnl HS5.out
    rw [HPT.out] at hc
    refine hc.mono ?_
    rintro e w6 ⟨v6, rfl, hb6, hr6⟩
    have HS6 := Lib.hid (HS5.out.below hb6); have HB6 := Lib.hid (Below.onto HB5.out hb6); have HR6 := Lib.hid hr6
    clear hc hb6 hr6
    go_wp2_with fail
    have hc := rparts_any A c l.length l nm.data.toList w6 rfl HL.out hnl HS6.out
    rw [HPT.out] at hc
    refine hc.mono ?_
    rintro e w7 ⟨v7, rfl, hb7, hr7⟩
    have HS7 := Lib.hid (HS6.out.below hb7); have HB7 := Lib.hid (Below.onto HB6.out hb7); have HR7 := Lib.hid (owns_below HR6.out hb7); have HR7b := Lib.hid hr7
    clear hc hb7 hr7
    go_wp2_with fail
    refine (texts_same _ _ _ _ _ _ HR7.out HR7b.out).mono ?_
    rintro e w8 ⟨rfl, hb8⟩
    have HS8 := Lib.hid (HS7.out.below hb8); have HB8 := Lib.hid (Below.onto HB7.out hb8)
    clear hb8
    go_wp2_with fail
    have hc := combined_any A c l.length l nm.data.toList w8 rfl HL.out hnl HS8.out
    rw [HCS.out, HHS.out] at hc
    refine hc.mono ?_
    rintro e w9 ⟨rfl, hb9⟩
    have HS9 := Lib.hid (HS8.out.below hb9); have HB9 := Lib.hid (Below.onto HB8.out hb9)
    clear hc hb9
    go_wp2_with fail
    have hc := rcombined_any A c l.length l nm.data.toList w9 rfl HL.out hnl HS9.out
    rw [HCS.out, HHS.out] at hc
    refine hc.mono ?_
    rintro e w10 ⟨rfl, hb10⟩
    have HS10 := Lib.hid (HS9.out.below hb10); have HB10 := Lib.hid (Below.onto HB9.out hb10)
    clear hc hb10
    obtain ⟨ck, hck⟩ : ∃ ck, Hd.checkB l = ck := ⟨_, rfl⟩
    have HCK := Lib.hid hck
    clear hck
    go_wp2_with fail
    have hc := check_any A c l.length l w10 rfl HL.out HS10.out
    rw [HCK.out] at hc
    obtain ⟨ev, hev⟩ : ∃ ev : Int, errV ck = .int .i64 ev := ⟨_, rfl⟩
    have HEV := Lib.hid hev
    rw [hev] at hc
    clear hev
    refine hc.mono ?_
    rintro e w11 ⟨rfl, hb11⟩
    have HS11 := Lib.hid (HS10.out.below hb11); have HB11 := Lib.hid (Below.onto HB10.out hb11)
    clear hc hb11
    go_wp2_with fail
    have hc := rcheck_any A c l.length l w11 rfl HL.out HS11.out
    rw [HCK.out, HEV.out] at hc
    refine hc.mono ?_
    rintro e w12 ⟨rfl, hb12⟩
    have HB12 := Lib.hid (Below.onto HB11.out hb12)
    clear hc hb12
    go_wp2_with fail
    go_ret
    exact ⟨rfl, HB12.out⟩
  · have HS := Lib.hid hw.seen
    go_enter Try.func4, Try.ntmps4
    go_wp2_with fail
    refine (awake_any _).mono ?_
    rintro e w1 ⟨rfl, hb1⟩
    have HS1 := Lib.hid (HS.out.below hb1)
    go_wp2_with fail
    have hf := few_any A c l.length l w1 rfl HS1.out
    cases hfew : fewB l with
    | false =>
      rw [hfew] at hf
      refine hf.mono ?_
      rintro e w2 ⟨rfl, hw2⟩
      rw [hw2]
      go_wp2_with fail
      go_ret
      exact ⟨rfl, hb1⟩
    | true =>
      have hnz : (1000 : Int) < (nm.size : Int) := by
        have : ¬ nm.size ≤ 1000 := fun h => hok ⟨hfew, h⟩
        omega
      rw [hfew] at hf
      refine hf.mono ?_
      rintro e w2 ⟨rfl, hw2⟩
      rw [hw2]
      clear hok
      go_wp2_with fail
      go_ret
      exact ⟨rfl, hb1⟩
end Go.Proofs.Ytopakamglhhncaa
