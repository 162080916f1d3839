/- The contract of cspparse.Head. -/
import Derived.Test.YtcmbckacbdiebaaCsOne
import Derived.Test.YtcmbckacbdiebaaCsRef3
import Derived.Test.YtcmbckacbdiebaaCsRef2
import Derived.Test.YtcmbckacbdiebaaHdColl
namespace Go.Proofs.Ytcmbckacbdiebaa
open Go.RowKit

theorem split_comma (s : List UInt8) (w : World) (hs : s.length ≤ 100000000) : Calls Try.prog 20 #[.string (bA s), .int .u8 44] w (RetTexts w (Oct.split Cs.comma s)) := csSplit_at s 44 w hs
set_option maxHeartbeats 8000000 in
set_option maxRecDepth 20000 in
theorem csHead_any (A : Option Addr) (c n : Nat) (l : List Hd.Hdr) (w : World) (hn : l.length = n) (hl : SmallH l) (hA : SeenH w A l) :
    Calls Try.prog 15 #[.slice A n c] w (RetPols w (Cs.heads l)) := by
  have hcall := values_any A c n l Cs.nH w hn hl (by decide) hA
  have hve : ∀ v ∈ Hd.vals l Cs.nH, v.length ≤ 5000 := Hd.vals_each (fun x hx => (hl.each x hx).2)
  have hvl := Hd.vals_len l Cs.nH
  have hll := hl.len
  have hL : Cs.heads l = Cs.manyP (Hd.vals l Cs.nH) := rfl
  rw [hL]
  obtain ⟨vs, hvs⟩ : ∃ vs, Hd.vals l Cs.nH = vs := ⟨_, rfl⟩
  rw [hvs] at hcall hve hvl ⊢
  have hvn : vs.length ≤ 1000 := by omega
  have HC := Lib.hid hcall; have HVE := Lib.hid hve
  have HML : Hid (∀ k, (Cs.manyP (vs.take k)).length ≤ 5001000) := Lib.hid fun k => by
    have h1 := Cs.manyP_len (m := 5000) (vs.take k) (fun v hv => hve v (List.mem_of_mem_take hv))
    have h2 : (vs.take k).length * (5000 + 1) ≤ 1000 * 5001 := Nat.mul_le_mul (by rw [List.length_take]; omega) (Nat.le_refl _)
    omega
  obtain ⟨i0, hi, hz0, hz1, hz2⟩ := info_parts info_pol
  have HI := Lib.hid hi; have HZ0 := Lib.hid hz0; have HZ1 := Lib.hid hz1; have HZ2 := Lib.hid hz2
  clear hcall hve hL hvs hl hA hvl hi hz0 hz1 hz2 hn
  go_enter Try.func15, Try.ntmps15
  go_wp2_with fail
  refine HC.out.mono ?_
  rintro e w1 ⟨v, rfl, hb1, hr1⟩
  obtain ⟨A2, c2, rfl, _⟩ := own_cap hr1
  have HR1 := Lib.hid hr1; have HB1 := Lib.hid hb1
  clear hb1 hr1 HC
  go_wp2
  go_loopw [3, 12] (fun ov i wr => ∃ k : Nat, k ≤ vs.length ∧ i = .int .i64 k ∧ Hid (OwnP wr w1.heap.size ov (Cs.manyP (vs.take k))) ∧ Hid (Below w1.heap.size w1 wr)) (fun _ i _ => vs.length - (intOf i).toNat)
  case atStart => exact ⟨0, by omega, rfl, Lib.hid (OwnP.nil _ _), Lib.hid (Below.refl _ _)⟩
  case round =>
    obtain ⟨k, hk, rfl, hrow, hbel⟩ := hrel
    by_cases hlt : k < vs.length
    · rcases owns_view (owns_below HR1.out hbel.out) with ⟨e1, h0⟩ | ⟨g, cap, e1, _, hg, hgb, hc⟩
      · exfalso; rw [h0] at hlt; simp at hlt
      · cases e1
        have hce := hc k hlt
        have hxl : vs[k].length ≤ 5000 := HVE.out _ (List.getElem_mem hlt)
        have hms := Cs.manyP_succ hlt
        have hmlen := HML.out k
        obtain ⟨x, hx⟩ : ∃ x, vs[k] = x := ⟨_, rfl⟩
        rw [hx] at hce hxl hms
        rw [Cs.pols_sel] at hms
        unfold Oct.strV at hce
        have hcall := split_comma x wr (by omega)
        have hql : ∀ q ∈ Oct.split Cs.comma x, q.length ≤ 5000 := fun q hq => Nat.le_trans (Cs.part_len hq) hxl
        have hqn := Oct.split_len Cs.comma x
        obtain ⟨qs, hqs⟩ : ∃ qs, Oct.split Cs.comma x = qs := ⟨_, rfl⟩
        rw [hqs] at hcall hql hqn hms
        have hqn2 : qs.length ≤ 5001 := by omega
        obtain ⟨P, hP⟩ : ∃ P, Cs.manyP (vs.take k) = P := ⟨_, rfl⟩
        rw [hP] at hms hmlen hrow
        have HC := Lib.hid hcall; have HQL := Lib.hid hql; have HMS := Lib.hid hms; have HSL := Lib.hid (fun j => Nat.le_trans (Cs.selQ_len (qs.take j)) (by rw [List.length_take]; exact Nat.min_le_right _ _))
        clear hc hx hcall hql hqn hqs hP hms
        go_wp2_with fail
        refine HC.out.mono ?_
        rintro e w2 ⟨v2, rfl, hb2, hr2⟩
        obtain ⟨A3, c3, rfl, _⟩ := own_cap hr2
        have HR2 := Lib.hid hr2
        have HB2 := Lib.hid (hbel.out.trans (hb2.mono hbel.out.size))
        have HO2 := Lib.hid (hrow.out.below hb2)
        clear hb2 hr2 HC hce
        go_wp2
        go_loopw [3, 19] (fun ov i wq => ∃ j : Nat, j ≤ qs.length ∧ i = .int .i64 j ∧ Hid (OwnP wq w1.heap.size ov (P ++ Cs.selQ (qs.take j))) ∧ Hid (Below w1.heap.size w1 wq) ∧ Hid (wq.ownsRow wr.heap.size 9 1 (.slice A3 qs.length c3) qs.length (qs.map Oct.strV))) (fun _ i _ => qs.length - (intOf i).toNat)
        case atStart => exact ⟨0, by omega, rfl, by rw [show P ++ Cs.selQ (qs.take 0) = P from List.append_nil P]; exact HO2, HB2, HR2⟩
        case round =>
          obtain ⟨j, hj, rfl, hown, hbq, hrq⟩ := hrel
          by_cases hjt : j < qs.length
          · rcases owns_view hrq.out with ⟨e1, h0⟩ | ⟨g2, cap2, e1, _, hg2, hgb2, hc2⟩
            · exfalso; rw [h0] at hjt; simp at hjt
            · cases e1
              have hce2 := hc2 j hjt
              have hql2 : qs[j].length ≤ 5000 := HQL.out _ (List.getElem_mem hjt)
              have hss := Cs.selQ_succ hjt
              have hsl := HSL.out j
              obtain ⟨q, hq⟩ : ∃ q, qs[j] = q := ⟨_, rfl⟩
              rw [hq] at hce2 hql2 hss
              unfold Oct.strV at hce2
              have hcall := csOne_any q wr (by omega)
              obtain ⟨p, hp⟩ : ∃ p, Cs.one q = p := ⟨_, rfl⟩
              rw [hp] at hcall hss
              obtain ⟨S, hS⟩ : ∃ S, Cs.selQ (qs.take j) = S := ⟨_, rfl⟩
              rw [hS] at hss hown hsl
              have HCQ := Lib.hid hcall
              clear hc2 hq hcall hp hS
              go_wp2_with fail
              refine HCQ.out.mono ?_
              rintro e w3 ⟨v3, rfl, hb3, A4, c4, A5, c5, rfl, ht1, ht2⟩
              have HB3 := Lib.hid (hbq.out.trans (hb3.mono hbq.out.size))
              have HO3 := Lib.hid (hown.out.below hb3)
              have HR3 := Lib.hid (owns_below hrq.out hb3)
              have HT1 := Lib.hid ht1; have HT2 := Lib.hid ht2
              clear hb3 ht1 ht2 HCQ hown hrq hbq hce2
              obtain ⟨a1, pa, a2, pb⟩ := p
              unfold polC
              dsimp only at *
              cases hsay : (a1 || a2) with
              | false =>
                have hsy : Cs.says ⟨a1, pa, a2, pb⟩ = false := hsay
                rw [hsy] at hss
                have HSS : Hid (Cs.selQ (qs.take (j + 1)) = S) := Lib.hid (by rw [hss]; simp)
                rw [Bool.or_eq_false_iff] at hsay
                obtain ⟨rfl, rfl⟩ := hsay
                clear hss hsy
                have HB4 := Lib.hid (HB3.out.alloc HB3.out.size (.cells #[.bool false, .slice A4 pa.length c4, .bool false, .slice A5 pb.length c5] 26))
                have HO4 := Lib.hid (HO3.out.below ((Below.refl _ _).alloc (Nat.le_refl _) (.cells #[.bool false, .slice A4 pa.length c4, .bool false, .slice A5 pb.length c5] 26)))
                have HR4 := Lib.hid (World.ownsRow.alloc HR3.out (.cells #[.bool false, .slice A4 pa.length c4, .bool false, .slice A5 pb.length c5] 26))
                clear HB3 HO3 HR3
                go_wp2_with fail
                exact ⟨⟨j + 1, by omega, by go_num, by rw [HSS.out]; exact HO4, HB4, HR4⟩, by simp [intOf]; omega⟩
              | true =>
                have hsy : Cs.says ⟨a1, pa, a2, pb⟩ = true := hsay
                rw [hsy] at hss
                have HSS : Hid (Cs.selQ (qs.take (j + 1)) = S ++ [⟨a1, pa, a2, pb⟩]) := Lib.hid (by rw [hss]; simp)
                have hPS : (P ++ S).length ≤ 6000000 := by rw [List.length_append]; omega
                obtain ⟨cs, hrp, hrow3⟩ := HO3.out
                have HRP := Lib.hid hrp; have HW3 := Lib.hid HB3.out.size
                have hw3 : w1.heap.size ≤ w3.heap.size := HB3.out.size
                have HROW := Lib.hid hrow3
                have HSAY := Lib.hid hsay
                clear hss hsy hrp hsl hsay HO3 hql2 hrow3
                obtain ⟨L, hL⟩ : ∃ L, (P ++ S).length = L := ⟨_, rfl⟩
                rw [hL] at hPS HROW
                have HLL := Lib.hid hL
                clear hL
                have HONE : Hid (RowP w3 [⟨a1, pa, a2, pb⟩] [.bool a1, .slice A4 pa.length c4, .bool a2, .slice A5 pb.length c5]) := Lib.hid (RowP.one (p := ⟨a1, pa, a2, pb⟩) (c := c4) (d := c5) HT1.out HT2.out)
                cases a1 <;> cases a2
                · exact absurd HSAY.out (by decide)
                all_goals
                  go_wp2_with (at_builtin; refine wpList_append_own _ rfl _ _ 32 rfl w1.heap.size 26 i0 (.agg #[.bool false, .slice none 0 0, .bool false, .slice none 0 0]) 4 64 Try.underlying32 HI.out HZ0.out HZ1.out HZ2.out rfl (by decide) _ _ _ rfl ((HROW.out.alloc _).alloc _) ⟨w3.heap.size + 1, 0, none⟩ 1 1 [_, .slice A4 pa.length c4, _, .slice A5 pb.length c5] rfl rfl (cells_new2 _ _ _ _) (by simp [Value.oneCell']) (by unfold maxLen; omega) (by omega) (by simp; omega) ?_; intro v' w5 hown' hgrow _)
                  have hK : KeptT 9 w3 w5 := ((KeptT.alloc _ w3 _).trans (KeptT.alloc _ _ _)).trans (KeptT.row (by decide) ((HROW.out.alloc _).alloc _) hgrow)
                  have hB5 := below_two HB3.out HB3.out.size hgrow (fun k hk => (HROW.out.lt k hk).1)
                  have hO5 := (RowP.app HONE.out HRP.out).kept hK
                  exact ⟨⟨j + 1, by omega, by go_num, by rw [HSS.out, ← List.append_assoc]; exact Lib.hid ⟨_, hO5, by rw [List.length_append, HLL.out]; exact hown'⟩, Lib.hid hB5, Lib.hid (owns_keptT HR3.out hK)⟩, by simp [intOf]; omega⟩
          · obtain rfl : j = qs.length := by omega
            have hown2 := hown.out
            rw [List.take_of_length_le (Nat.le_refl _)] at hown2
            have HN := Lib.hid hown2
            clear hown hown2
            go_wp2_with fail
            exact ⟨⟨k + 1, by omega, by go_num, by rw [HMS.out]; exact HN, hbq⟩, by simp [intOf]; omega⟩
    · obtain rfl : k = vs.length := by omega
      have hrow2 := hrow.out
      rw [List.take_of_length_le (Nat.le_refl _)] at hrow2
      have HN := Lib.hid hrow2
      clear hrow hrow2
      go_wp2_with fail
      go_ret
      obtain ⟨cs, x1, x2⟩ := HN.out
      exact ⟨_, rfl, Below.onto HB1.out hbel.out, cs, x1, owns_base x2 HB1.out.size⟩

end Go.Proofs.Ytcmbckacbdiebaa
