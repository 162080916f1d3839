/- The walk of the statement CspparseBack. -/
import Derived.Test.YtcmbckacbdiebaaCsAwake
namespace Go.Proofs.Ytcmbckacbdiebaa
open Go.RowKit

theorem text_fit {S : List UInt8} (hS : S.length ≤ 2000) : (Cs.dirT Cs.nA (Cs.one S).anc).length ≤ 1000000000 ∧ (Cs.dirT Cs.nB (Cs.one S).box).length ≤ 1000000000 ∧ (Cs.text (Cs.one S)).length ≤ 10000000 := by
  obtain ⟨⟨a1, a2⟩, b1, b2⟩ := Cs.one_words S
  have h1 := Cs.dirT_len (m := 2000) (Cs.one S).anc Cs.nA (fun w hw => Nat.le_trans (a2 w hw) hS)
  have h2 := Cs.dirT_len (m := 2000) (Cs.one S).box Cs.nB (fun w hw => Nat.le_trans (b2 w hw) hS)
  have h3 := Cs.text_len (p := Cs.one S) (m := 2000) (k := 2001) (by omega) (by omega) (fun w hw => Nat.le_trans (a2 w hw) hS) (fun w hw => Nat.le_trans (b2 w hw) hS)
  have e1 : Cs.nA.length = 15 := rfl
  have e2 : Cs.nB.length = 7 := rfl
  have m1 : (Cs.one S).anc.length * (2000 + 1) ≤ 2001 * 2001 := Nat.mul_le_mul (by omega) (Nat.le_refl _)
  have m2 : (Cs.one S).box.length * (2000 + 1) ≤ 2001 * 2001 := Nat.mul_le_mul (by omega) (Nat.le_refl _)
  refine ⟨by omega, by omega, by omega⟩
set_option maxHeartbeats 4000000 in
set_option maxRecDepth 20000 in
theorem walk_CspparseBack (s : ByteArray) (w : World) (hs : s.size ≤ maxLen) :
    Calls Try.prog 6 #[.string s] w fun e w' => e = .returned (.bool true) ∧ Below w.heap.size w w' := by
  obtain ⟨S, rfl⟩ : ∃ S, s = bA S := ⟨s.data.toList, rfl⟩
  rw [bA_size] at hs
  unfold maxLen at hs
  by_cases hok : S.length ≤ 2000
  · have hz : ¬ ((2000 : Int) < (S.length : Int)) := by omega
    have c1 := fun W => csOne_any S W (by omega)
    have hf := one_fit (s := S) (by omega)
    obtain ⟨t1, t2, t3⟩ := text_fit hok
    have c2 := fun v W h => csText_any (Cs.one S) v W hf t1 t2 h
    have c3 := fun W => csOne_any (Cs.text (Cs.one S)) W t3
    rw [Cs.back S] at c3
    have hn := Cs.one_none (s := S)
    obtain ⟨p, hp⟩ : ∃ p, Cs.one S = p := ⟨_, rfl⟩
    rw [hp] at c1 c2 c3 hf hn
    obtain ⟨T, hT⟩ : ∃ T, Cs.text p = T := ⟨_, rfl⟩
    rw [hT] at c2 c3
    have hc4 := fun v1 v2 W h1 h2 => same_self p v1 v2 W hf h1 h2
    have C1 := Lib.hid c1; have C2 := Lib.hid c2; have C3 := Lib.hid c3; have C4 := Lib.hid hc4
    clear c1 c2 c3 hf hp hok t1 t2 t3 hT hc4 hs
    have HN := Lib.hid hn
    clear hn
    go_enter Try.func6, Try.ntmps6
    go_wp2_with fail
    refine (awake10_any _).mono ?_
    rintro e w1 ⟨rfl, hb1⟩
    have HB1 := Lib.hid hb1
    clear hb1
    go_wp2_with fail
    refine (C1.out _).mono ?_
    rintro e w2 ⟨v2, rfl, hb2, A1, c1, A2, c2, rfl, t1, t2⟩
    have hbx := (Below.refl w2.heap.size w2).alloc (Nat.le_refl _) (.cells (polC p A1 c1 A2 c2) 26)
    have HX2 := Lib.hid (CBox.new w2 26 (polC p A1 c1 A2 c2))
    have HP2 : Hid (PolIn (w2.alloc (.cells (polC p A1 c1 A2 c2) 26)) p (.agg (polC p A1 c1 A2 c2))) := Lib.hid ⟨A1, c1, A2, c2, rfl, t1.below hbx, t2.below hbx⟩
    have HB2 : Hid (Below w.heap.size w (w2.alloc (.cells (polC p A1 c1 A2 c2) 26))) := Lib.hid (Below.onto HB1.out (hb2.trans (hbx.mono hb2.size)))
    clear hb2 t1 t2 hbx C1
    unfold polC at *
    have z0 := HX2.out.c 0; have z1 := HX2.out.c 1; have z2 := HX2.out.c 2; have z3 := HX2.out.c 3
    go_wp2_with fail
    refine (C2.out _ _ HP2.out.at).mono ?_
    rintro e w3 ⟨rfl, hb3⟩
    have HX3 := Lib.hid (HX2.out.keep hb3); have HP3 := Lib.hid (HP2.out.below hb3); have HB3 := Lib.hid (Below.onto HB2.out hb3)
    clear hb3 z0 z1 z2 z3 C2
    go_wp2_with fail
    refine (C3.out _).mono ?_
    rintro e w4 ⟨v4, rfl, hb4, A3, c3, A4, c4, rfl, t3, t4⟩
    have hb5 := hb4.alloc hb4.size (.cells #[.bool p.hasAnc, .slice A3 p.anc.length c3, .bool p.hasBox, .slice A4 p.box.length c4] 26)
    have hb6 := (Below.refl w4.heap.size w4).alloc (Nat.le_refl _) (.cells #[.bool p.hasAnc, .slice A3 p.anc.length c3, .bool p.hasBox, .slice A4 p.box.length c4] 26)
    have HX4 := Lib.hid (HX3.out.keep hb5); have HP4 := Lib.hid (HP3.out.below hb5); have HB4 := Lib.hid (Below.onto HB3.out hb5)
    have HP5 : Hid (PolIn _ p (.agg #[.bool p.hasAnc, .slice A3 p.anc.length c3, .bool p.hasBox, .slice A4 p.box.length c4])) := Lib.hid ⟨A3, c3, A4, c4, rfl, t3.below hb6, t4.below hb6⟩
    have z0 := HX4.out.c 0; have z1 := HX4.out.c 1; have z2 := HX4.out.c 2; have z3 := HX4.out.c 3
    clear hb4 hb5 hb6 t3 t4 C3
    unfold polC at *
    go_wp2_with fail
    refine (C4.out _ _ _ HP4.out.at HP5.out.at).mono ?_
    rintro e w5 ⟨rfl, hb7⟩
    have HX5 := Lib.hid (HX4.out.keep hb7); have HB5 := Lib.hid (Below.onto HB4.out hb7)
    clear hb7 z0 z1 z2 z3 C4
    have z0 := HX5.out.c 0; have z1 := HX5.out.c 1; have z2 := HX5.out.c 2; have z3 := HX5.out.c 3
    simp only [List.getElem?_toArray, List.getElem?_cons_zero, List.getElem?_cons_succ] at z0 z1 z2 z3
    obtain ⟨xa, hxa⟩ : ∃ xa, p.hasAnc = xa := ⟨_, rfl⟩
    obtain ⟨xb, hxb⟩ : ∃ xb, p.hasBox = xb := ⟨_, rfl⟩
    obtain ⟨la, hla⟩ : ∃ la, p.anc.length = la := ⟨_, rfl⟩
    obtain ⟨lb, hlb⟩ : ∃ lb, p.box.length = lb := ⟨_, rfl⟩
    have ha0 : xa = false → la = 0 := fun h => by rw [← hla, HN.out.1 (hxa.trans h)]; rfl
    have hb0 : xb = false → lb = 0 := fun h => by rw [← hlb, HN.out.2 (hxb.trans h)]; rfl
    rw [hxa] at z0; rw [hla] at z1; rw [hxb] at z2; rw [hlb] at z3
    clear hxa hxb hla hlb
    cases xa <;> cases xb
    all_goals
      first | obtain rfl := ha0 rfl | skip
      first | obtain rfl := hb0 rfl | skip
      clear ha0 hb0
      go_wp2_with fail
      go_ret
      exact ⟨rfl, HB5.out⟩
  · have hz : (2000 : Int) < (S.length : Int) := by omega
    go_enter Try.func6, Try.ntmps6
    go_wp2_with fail
    refine (awake10_any _).mono ?_
    rintro e w1 ⟨rfl, hb1⟩
    go_wp2_with fail
    go_ret
    exact ⟨rfl, hb1⟩
end Go.Proofs.Ytcmbckacbdiebaa
