/- The contract of the document's Text. -/
import Derived.Test.YtilclhhpmenjaaaGreatDoorSfRef16
import Derived.Test.YtilclhhpmenjaaaGreatDoorSfText
namespace Go.Proofs.YtilclhhpmenjaaaGreatDoor
open Go.RowKit Go.Shelf Go.Maps Go.Deep

set_option maxHeartbeats 1000000 in
set_option maxRecDepth 20000 in
theorem rtext_any (k n : Int) (t : List UInt8) (A : Option Addr) (cp : Nat) (l : List Sf.Par) (w : World) (hS : SmallI k n t l) (hA : SeenP w A l) (hT : Tab w) :
    Calls Tryz.prog 25 #[.agg #[.int .i64 k, .int .i64 n, .string (bA t), .slice A l.length cp]] w fun e w' => e = .returned (textV (Sf.text ⟨k, n, t, l⟩)) ∧ Below w.heap.size w w' := by
  have hb0 : Below w.heap.size w (w.alloc (.cells (iC k n t (.slice A l.length cp)) 25)) := (Below.refl _ _).alloc (Nat.le_refl _) _
  have H1 := Lib.hid (rval_any k n t _ hS.text (hT.below hb0))
  have HBX := Lib.hid (CBox.new w 25 (iC k n t (.slice A l.length cp)))
  have HB0 := Lib.hid hb0
  have HS := Lib.hid hS; have HA := Lib.hid hA; have HT := Lib.hid hT
  have HX : Hid (Sf.text ⟨k, n, t, l⟩ = match Sf.vtext k n t with | none => none | some a => (Sf.tailF [] l).map fun b => a ++ b) := Lib.hid rfl
  obtain ⟨o, ho⟩ : ∃ o, Sf.text ⟨k, n, t, l⟩ = o := ⟨_, rfl⟩
  rw [ho] at HX ⊢
  have hll := hS.params.len
  clear ho hb0 hS hA hT
  go_enter Tryz.func25, Tryz.ntmps25
  go_wp2_with fail
  refine H1.out.mono ?_
  rintro e w1 ⟨⟨x, rfl, hx⟩, hb1⟩
  have hB1 := HB0.out.trans (hb1.mono HB0.out.size)
  have hx1 := HBX.out.keep hb1
  have c3 : w1.cell? ⟨w.heap.size, 3, none⟩ = some (.slice A l.length cp) := hx1.c 3
  have H2 := Lib.hid (rtail_any A cp l w1 (HA.out.below hB1) HS.out.params (HT.out.below hB1))
  have HB1 := Lib.hid hB1
  clear hB1 hx1 hb1 H1 HBX HB0
  obtain ⟨ov, hov⟩ : ∃ ov, Sf.vtext k n t = ov := ⟨_, rfl⟩
  obtain ⟨ot, hot⟩ : ∃ ot, Sf.tailF [] l = ot := ⟨_, rfl⟩
  have HOV := Lib.hid hov
  have HOT := Lib.hid hot
  rw [hov, hot] at HX
  rw [hot] at H2
  rw [hov] at hx ⊢
  have HXV := Lib.hid hx
  clear hov hot hx
  go_wp2_with fail
  refine H2.out.mono ?_
  rintro e w2 ⟨rfl, hb2⟩
  have HB2 := Lib.hid (HB1.out.trans (hb2.mono HB1.out.size))
  clear hb2 H2 c3
  unfold textV
  cases ov with
  | none =>
    have hn : o = none := HX.out
    subst hn
    rw [Option.isSome_none]
    cases ot with
    | none =>
      go_wp2_with fail
      go_ret2
      exact ⟨rfl, HB2.out⟩
    | some b =>
      go_wp2_with fail
      go_ret2
      exact ⟨rfl, HB2.out⟩
  | some a =>
    have hxa := HXV.out a rfl
    subst hxa
    rw [Option.isSome_some]
    cases ot with
    | none =>
      have hn : o = none := HX.out
      subst hn
      go_wp2_with fail
      go_ret2
      exact ⟨rfl, HB2.out⟩
    | some b =>
      have hn : o = some (a ++ b) := HX.out
      subst hn
      have hal := vtext_len HOV.out HS.out.text
      have hbl := tail_len HOT.out HS.out.params.each
      have hb2 : b.length ≤ 10000 * 60000 := Nat.le_trans hbl (Nat.mul_le_mul hll (Nat.le_refl _))
      clear hbl
      go_wp2_with fail
      go_ret2
      refine ⟨?_, HB2.out⟩
      show Ending.returned (.tuple #[.string (bA a ++ bA b), .int .i64 0]) = _
      rw [bA_app]; rfl
end Go.Proofs.YtilclhhpmenjaaaGreatDoor
