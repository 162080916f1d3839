/- The walk of the statement HeadersPlain. -/
import Derived.Test.YtopakamglhhncaaHdLaws1
import Derived.Maps.AppendAt
namespace Go.Proofs.Ytopakamglhhncaa
open Go.RowKit

namespace Hd
def qA (v : List (List UInt8)) : Bool := v.any fun x => Oct.inI 34 x
theorem qA_snoc (v : List (List UInt8)) (x : List UInt8) : qA (v ++ [x]) = (qA v || Oct.inI 34 x) := by unfold qA; simp
theorem qA_plain {v : List (List UInt8)} (h : qA v = false) : ∀ x ∈ v, ∀ b ∈ x, b ≠ 34 := fun x hx b hb e => by
  subst e
  have : qA v = true := List.any_eq_true.2 ⟨x, hx, List.any_eq_true.2 ⟨34, hb, by decide⟩⟩
  rw [h] at this; cases this
theorem plainL_snoc (v : List (List UInt8)) (x : List UInt8) : plainL (v ++ [x]) = plainL v ++ (Oct.split commaI x).map Oct.trim := by unfold plainL; simp
theorem split_short (x : List UInt8) : (Oct.split commaI x).length ≤ 1 + x.length := by
  rw [split_count]
  have := List.countP_le_length (p := fun b : UInt8 => commaI b.toNat) (l := x)
  omega
theorem plainL_len : ∀ (vs : List (List UInt8)), (∀ v ∈ vs, v.length ≤ 5000) → (plainL vs).length ≤ vs.length * 5001
  | [], _ => by simp [plainL]
  | v :: vs, h => by
    have h1 := plainL_len vs (fun x hx => h x (by simp [hx]))
    have h2 := split_short v
    have h3 := h v (by simp)
    unfold plainL at h1 ⊢
    rw [List.flatMap_cons, List.length_append, List.length_cons, List.length_map]; omega
theorem split_pos (x : List UInt8) : 0 < (Oct.split commaI x).length := by rw [split_count]; omega
theorem st_each (p : Int → Bool) : ∀ (l : List UInt8) (x : List (List UInt8) × List UInt8) (n : Nat), (∀ q ∈ x.1 ++ [x.2], q.length ≤ n) → ∀ q ∈ (l.foldl (Oct.stp p) x).1 ++ [(l.foldl (Oct.stp p) x).2], q.length ≤ n + l.length
  | [], x, n, h => by simpa using h
  | a :: l, x, n, h => by
    rw [List.foldl_cons, List.length_cons, show n + (l.length + 1) = (n + 1) + l.length by omega]
    refine st_each p l (Oct.stp p x a) (n + 1) ?_
    intro q hq
    unfold Oct.stp at hq
    split at hq
    · simp only [List.mem_append, List.mem_singleton] at hq
      rcases hq with (hq | hq) | hq
      · have := h q (by simp [hq]); omega
      · have := h q (by simp [hq]); omega
      · subst hq; simp
    · simp only [List.mem_append, List.mem_singleton] at hq
      rcases hq with hq | hq
      · have := h q (by simp [hq]); omega
      · have := h x.2 (by simp)
        subst hq; simp; exact this
theorem split_each (x : List UInt8) (k : Nat) (h : x.length ≤ k) : ∀ y ∈ Oct.split commaI x, y.length ≤ k := fun y hy => by
  have := st_each commaI x ([], []) 0 (by simp) y hy
  omega
end Hd

set_option maxHeartbeats 4000000 in
theorem walk_HeadersPlain (A : Option Addr) (c : Nat) (l : List Hd.Hdr) (nm : ByteArray) (w : World) (hw : WideHs w A c l) (hnm : nm.size ≤ maxLen) :
    Calls Try.prog 7 #[.slice A l.length c, .string nm] w fun e w' => e = .returned (.bool true) ∧ Below w.heap.size w w' := by
  unfold maxLen at hnm
  by_cases hok : fewB l = true ∧ nm.size ≤ 1000
  · obtain ⟨hfew, hn⟩ := hok
    have hl := few_small hfew
    have HL := Lib.hid hl
    have hnmz : ¬ ((1000 : Int) < (nm.size : Int)) := by omega
    have hnl : nm.data.toList.length ≤ 10000 := by simp; omega
    have HS := Lib.hid hw.seen
    obtain ⟨i0, hi, hz0, hz1, hz2⟩ := info_parts info_string
    have HI := Lib.hid hi; have HZ0 := Lib.hid hz0; have HZ1 := Lib.hid hz1; have HZ2 := Lib.hid hz2
    have hve : ∀ v ∈ Hd.vals l nm.data.toList, v.length ≤ 5000 := Hd.vals_each (fun x hx => (hl.each x hx).2)
    have hvl := Nat.le_trans (Hd.vals_len l nm.data.toList) hl.len
    have hPL : Hd.partsL l nm.data.toList = (Hd.vals l nm.data.toList).flatMap Hd.parts := rfl
    have hPT : ∀ q ∈ Hd.partsL l nm.data.toList, Oct.trim q = q := Hd.partsL_trim
    have hPE : ∀ q ∈ Hd.partsL l nm.data.toList, q.length ≤ 5000 := fun q hq => by
      rw [hPL] at hq
      obtain ⟨v, hv, hq⟩ := List.mem_flatMap.1 hq
      exact Hd.partsF_each v false false [] 5000 (by have := hve v hv; simpa using this) q hq
    have hpl := flat_len _ hve
    rw [← hPL] at hpl
    clear hl hn hw hi hz0 hz1 hz2
    go_enter Try.func7, Try.ntmps7
    go_wp2_with fail
    refine (awake_any _).mono ?_
    rintro e w1 ⟨rfl, hb1⟩
    have HS1 := Lib.hid (HS.out.below hb1); have HB1 := Lib.hid hb1
    clear hb1
    go_wp2_with fail
    have hf := few_any A c l.length l w1 rfl HS1.out
    rw [hfew] at hf
    refine hf.mono ?_
    rintro e w2 ⟨rfl, hw2⟩
    rw [hw2]
    clear hf hw2
    go_wp2_with fail
    have hc := values_any A c l.length l nm.data.toList w1 rfl HL.out hnl HS1.out
    have hc2 := fun W h => parts_any A c l.length l nm.data.toList W rfl HL.out hnl h
    obtain ⟨vs, hvs⟩ : ∃ vs, Hd.vals l nm.data.toList = vs := ⟨_, rfl⟩
    obtain ⟨pt, hpt⟩ : ∃ pt, Hd.partsL l nm.data.toList = pt := ⟨_, rfl⟩
    rw [hvs] at hc hve hvl hPL hpl
    rw [hpt] at hc2 hPL hPT hpl hPE
    have hlens := Hd.lens vs
    rw [← hPL] at hlens
    have HVE := Lib.hid hve; have HPL := Lib.hid hPL; have HPT := Lib.hid hPT; have HLN := Lib.hid hlens; have HPE := Lib.hid hPE
    clear hvs hpt hve hPL hPT hlens hPE
    refine hc.mono ?_
    rintro e w3 ⟨v3, rfl, hb3, hr3⟩
    have HS3 := Lib.hid (HS1.out.below hb3); have HB3 := Lib.hid (Below.onto HB1.out hb3); have HR3 := Lib.hid hr3
    clear hc hb3 hr3
    go_wp2_with fail
    refine (hc2 _ HS3.out).mono ?_
    rintro e w4 ⟨v4, rfl, hb4, hr4⟩
    have HB4 := Lib.hid (Below.onto HB3.out hb4); have HR4 := Lib.hid (owns_below HR3.out hb4)
    have hr4' : w4.ownsRow w3.heap.size 9 1 v4 pt.length (pt.map Oct.strV) := hr4
    have HP4 := Lib.hid hr4'
    obtain ⟨A3, c3, rfl⟩ : ∃ A3 c3, v3 = .slice A3 vs.length c3 := by
      rcases owns_view HR4.out with ⟨rfl, h0⟩ | ⟨g, cap, rfl, _⟩
      · exact ⟨none, 0, by rw [h0]; rfl⟩
      · exact ⟨_, _, rfl⟩
    obtain ⟨A4, c4, rfl⟩ : ∃ A4 c4, v4 = .slice A4 pt.length c4 := by
      rcases owns_view HP4.out with ⟨rfl, h0⟩ | ⟨g, cap, rfl, _⟩
      · exact ⟨none, 0, by rw [h0]; rfl⟩
      · exact ⟨_, _, rfl⟩
    clear hc2 hb4 hr4 hr4' HS HS1 HS3 HR3
    go_wp2
    go_loopw [9, 10, 11] (fun ov qv i wr => ∃ k : Nat, k ≤ vs.length ∧ i = .int .i64 k ∧ qv = .bool (Hd.qA (vs.take k)) ∧ Hid (wr.ownsRow w4.heap.size 9 1 ov (Hd.plainL (vs.take k)).length ((Hd.plainL (vs.take k)).map Oct.strV)) ∧ Hid (Below w4.heap.size w4 wr)) (fun _ _ i _ => vs.length - (intOf i).toNat)
    case atStart => exact ⟨0, by omega, rfl, rfl, Lib.hid (World.ownsRow_nil _ _ _ _), Lib.hid (Below.refl _ _)⟩
    case round =>
      obtain ⟨k, hk, rfl, rfl, hrow, hbel⟩ := hrel
      by_cases hlt : k < vs.length
      · have hrv := owns_below HR4.out hbel.out
        rcases owns_view hrv with ⟨e1, h0⟩ | ⟨g, cap, e1, _, hg, _, hcv⟩
        · exfalso; rw [h0] at hlt; simp at hlt
        · cases e1
          obtain ⟨x, hx⟩ : ∃ x, vs[k] = x := ⟨_, rfl⟩
          have hxl : x.length ≤ 5000 := by rw [← hx]; exact HVE.out _ (List.getElem_mem hlt)
          have hce := hcv k hlt
          rw [hx] at hce
          have htk : vs.take (k + 1) = vs.take k ++ [x] := by rw [List.take_succ_eq_append_getElem hlt, hx]
          have hq1 : Hd.qA (vs.take (k + 1)) = (Hd.qA (vs.take k) || Oct.inI 34 x) := by rw [htk, Hd.qA_snoc]
          have hp1 : Hd.plainL (vs.take (k + 1)) = Hd.plainL (vs.take k) ++ (Oct.split Hd.commaI x).map Oct.trim := by rw [htk, Hd.plainL_snoc]
          have hl1 := Hd.plainL_len (vs.take k) (fun v hv => HVE.out v (List.mem_of_mem_take hv))
          have hl3 : (vs.take k).length ≤ 1000 := by rw [List.length_take]; omega
          have hs2 := Hd.split_short x
          have hs3 := Hd.split_pos x
          have hs4 := Hd.split_each x 5000 hxl
          have hcall1 := fun W => rin_any 34 (bA x) W (by rw [bA_size]; unfold maxLen; omega)
          have hcall2 := fun W => split_any (bA x) 44 W (by rw [bA_size]; omega)
          obtain ⟨acc, hacc⟩ : ∃ acc, Hd.plainL (vs.take k) = acc := ⟨_, rfl⟩
          obtain ⟨ss, hss⟩ : ∃ ss, Oct.split Hd.commaI x = ss := ⟨_, rfl⟩
          obtain ⟨b, hb⟩ : ∃ b, Hd.qA (vs.take k) = b := ⟨_, rfl⟩
          obtain ⟨q, hq⟩ : ∃ q, Oct.inI 34 x = q := ⟨_, rfl⟩
          have hcall1' : ∀ W, Calls Try.prog 23 #[.int .u8 34, .string (bA x)] W fun e w' => e = .returned (.bool q) ∧ W = w' := fun W => by
            have := hcall1 W
            rw [show (bA x).data.toList = x from rfl, hq] at this
            exact this
          have hcall2' : ∀ W, Calls Try.prog 24 #[.string (bA x), .int .u8 44] W (RetTexts W ss) := fun W => by
            have := hcall2 W
            rw [show (bA x).data.toList = x from rfl] at this
            rw [← hss]
            exact this
          rw [hacc] at hrow hp1 hl1
          rw [hss] at hp1 hs2 hs3 hs4
          rw [hb] at hq1 ⊢
          rw [hq] at hq1
          have HQ1 := Lib.hid hq1; have HP1 := Lib.hid hp1; have HS4 := Lib.hid hs4
          have hal : acc.length ≤ 5001000 := by omega
          clear hrv hcv hx htk hq1 hp1 hl1 hl3 hs4 hcall1 hcall2 hacc hss hb hq
          have HC1 := Lib.hid hcall1'; have HC2 := Lib.hid hcall2'
          clear hcall1' hcall2'
          cases b <;> cases q
          all_goals
            go_wp2_with fail
            refine (HC1.out _).mono ?_
            rintro e wx ⟨rfl, hwx⟩
            rw [← hwx]
            clear hwx
            go_wp2_with fail
            refine (HC2.out _).mono ?_
            rintro e w2 ⟨v2, rfl, hb2, hr2⟩
            have hr2' : w2.ownsRow wr.heap.size 9 1 v2 ss.length (ss.map Oct.strV) := hr2
            rcases owns_view hr2' with ⟨_, h0⟩ | ⟨g2, cap2, rfl, _, hg2, hgb2, _⟩
            · exfalso; rw [h0] at hs3; simp at hs3
            have HSS := Lib.hid (owns_base hr2' hbel.out.size)
            have hro := owns_below hrow.out hb2
            have hap : ∀ j, Value.ownBlock u9 = some j → j ≠ g2 := fun j hj => by
              have := (hrow.out.lt j hj).2
              omega
            have hro := Lib.hid hro; have hap := Lib.hid hap
            have hbe2 := Lib.hid (hbel.out.trans (hb2.mono hbel.out.size))
            clear hr2 hr2' hce hb2
            go_wp2
            go_loopw [9, 14] (fun ov2 i2 wi => ∃ m : Nat, m ≤ ss.length ∧ i2 = .int .i64 m ∧ Hid (wi.ownsRow w4.heap.size 9 1 ov2 (acc ++ (ss.take m).map Oct.trim).length ((acc ++ (ss.take m).map Oct.trim).map Oct.strV)) ∧ Hid (∀ j, Value.ownBlock ov2 = some j → j ≠ g2) ∧ Hid (wi.ownsRow w4.heap.size 9 1 (.slice (some ⟨g2, 0, none⟩) ss.length cap2) ss.length (ss.map Oct.strV)) ∧ Hid (Below w4.heap.size w4 wi)) (fun _ i2 _ => ss.length - (intOf i2).toNat)
            case atStart => exact ⟨0, by omega, rfl, by simpa using hro, hap, HSS, hbe2⟩
            case round =>
              obtain ⟨m, hm, rfl, hrow2, hap2, hss2, hbel2⟩ := hrel
              by_cases hlt2 : m < ss.length
              · rcases owns_view hss2.out with ⟨e1, _⟩ | ⟨g', cp, e1, _, hg', _, hcs⟩
                · cases e1
                · cases e1
                  have hyl := HS4.out _ (List.getElem_mem hlt2)
                  have hce := hcs m hlt2
                  have htk2 : acc ++ (ss.take (m + 1)).map Oct.trim = acc ++ (ss.take m).map Oct.trim ++ [Oct.trim ss[m]] := by rw [List.take_succ_eq_append_getElem hlt2, List.map_append, ← List.append_assoc]; rfl
                  have hml : (acc ++ (ss.take m).map Oct.trim).length ≤ 5006002 := by rw [List.length_append, List.length_map, List.length_take]; omega
                  obtain ⟨y, hy⟩ : ∃ y, ss[m] = y := ⟨_, rfl⟩
                  rw [hy] at hyl hce htk2
                  have hcall3 := fun W => trim_val y (by omega) W
                  obtain ⟨z, hz⟩ : ∃ z, Oct.trim y = z := ⟨_, rfl⟩
                  obtain ⟨row, hrw⟩ : ∃ row, acc ++ (ss.take m).map Oct.trim = row := ⟨_, rfl⟩
                  rw [hz] at hcall3 htk2
                  rw [hrw] at hrow2 htk2 hml
                  have HT2 := Lib.hid htk2
                  have hbz := hbel2.out.size
                  clear hcs hyl hy hz hrw htk2 hro hap hbe2 HSS
                  go_wp2_with fail
                  refine (hcall3 _).mono ?_
                  rintro e wt ⟨rfl, hwt⟩
                  rw [← hwt]
                  clear hcall3 hwt
                  go_wp2_with (at_builtin; refine wpList_append_own_at _ rfl _ _ 26 rfl w4.heap.size 9 i0 (.string ⟨#[]⟩) 1 16 Try.underlying26 HI.out HZ0.out HZ1.out HZ2.out rfl (by decide) _ _ _ rfl (hrow2.out.alloc _) ⟨wr.heap.size, 0, none⟩ 1 1 [.string (bA z)] rfl rfl (cell_one_new _ _ _) (by simp [Value.oneCell']) (by unfold maxLen; omega) (by omega) (by simp; omega) ?_; intro v' w5 hown' hgrow _ hat)
                  obtain ⟨hb5, _⟩ := row_step hrow2.out hbz hgrow
                  have hss5 := (hss2.out.alloc _).kept hgrow (.inr fun e => hap2.out _ e.symm rfl)
                  have hap5 : ∀ j, Value.ownBlock v' = some j → j ≠ g2 := fun j hj e => by
                    rcases hat with h | h
                    · exact hap2.out j (h.symm.trans hj) e
                    · have h9 := Option.some.inj (h.symm.trans hj)
                      simp only [World.size_alloc] at h9
                      omega
                  exact ⟨⟨m + 1, by omega, by go_num, Lib.hid (by rw [HT2.out]; simpa [Oct.strV] using hown'), Lib.hid hap5, Lib.hid hss5, Lib.hid (hbel2.out.trans hb5)⟩, by simp [intOf]; omega⟩
              · obtain rfl : m = ss.length := by omega
                have hrow3 := hrow2.out
                rw [List.take_of_length_le (Nat.le_refl _), ← HP1.out] at hrow3
                have HR3 := Lib.hid hrow3
                clear hrow3 hrow2 hro hap hbe2 HSS hss2 hap2
                go_wp2_with fail
                exact ⟨⟨k + 1, by omega, by go_num, by rw [HQ1.out]; rfl, HR3, hbel2⟩, by simp [intOf]; omega⟩
      · obtain rfl : k = vs.length := by omega
        have hrow2 := hrow.out
        rw [List.take_of_length_le (Nat.le_refl _)] at hrow2 ⊢
        have HR5 := Lib.hid hrow2
        obtain ⟨b, hb⟩ : ∃ b, Hd.qA vs = b := ⟨_, rfl⟩
        obtain ⟨pl, hpl2⟩ : ∃ pl, Hd.plainL vs = pl := ⟨_, rfl⟩
        have hfin : b = true ∨ pt = pl := by
          cases hbb : b with
          | true => exact .inl rfl
          | false => exact .inr (by rw [HPL.out, ← hpl2]; exact Hd.plain_same (Hd.qA_plain (hb.trans hbb)))
        have hln := HLN.out
        rw [hpl2] at HR5 hln
        rw [hb]
        have HF := Lib.hid hfin
        have HP5 := Lib.hid (owns_below HP4.out hbel.out)
        have HB5 := Lib.hid (Below.onto HB4.out hbel.out)
        have hz1 : (vs.length : Int) ≤ (pt.length : Int) := by omega
        have hz2 : (pt.length : Int) ≤ (pl.length : Int) := by omega
        have hptl : pt.length ≤ 5001000 := by omega
        obtain ⟨A9, c9, rfl⟩ : ∃ A9 c9, u9 = .slice A9 pl.length c9 := by
          rcases owns_view HR5.out with ⟨e1, h0⟩ | ⟨g, cap, e1, _⟩
          · exact ⟨none, 0, by rw [h0]; exact e1⟩
          · exact ⟨_, _, e1⟩
        clear hrow hrow2 hlt hk HPL HLN hb hpl2 hfin hbel HP4 HR4 hln
        cases b
        all_goals
          have HW := Lib.hid (Below.refl wr.heap.size wr)
          go_wp2
          go_loopw [15] (fun i wi => ∃ m : Nat, m ≤ pt.length ∧ i = .int .i64 m ∧ Hid (Below wr.heap.size wr wi)) (fun i _ => pt.length - (intOf i).toNat)
          case atStart => exact ⟨0, by omega, rfl, Lib.hid (Below.refl _ _)⟩
          case round =>
            obtain ⟨m, hm, rfl, hbel⟩ := hrel
            by_cases hlt : m < pt.length
            · have hrv := owns_below HP5.out hbel.out
              rcases owns_view hrv with ⟨e1, h0⟩ | ⟨g, cap, e1, _, hg, _, hcv⟩
              · exfalso; rw [h0] at hlt; simp at hlt
              · cases e1
                have hyl := HPE.out _ (List.getElem_mem hlt)
                have hyt := HPT.out _ (List.getElem_mem hlt)
                have hce := hcv m hlt
                obtain ⟨y, hy⟩ : ∃ y, pt[m] = y := ⟨_, rfl⟩
                rw [hy] at hyl hyt hce
                have hce2 : wr.cell? ⟨g, m, none⟩ = some (.string (bA y)) := hce
                have HT : Hid (∀ W, Calls Try.prog 22 #[.string (bA y)] W fun e w' => e = .returned (.string (bA y)) ∧ w' = W) := Lib.hid fun W => (trim_val y (by omega) W).mono fun _ _ h => ⟨by rw [h.1, hyt], h.2.symm⟩
                clear hrv hcv hyl hyt hy hce
                go_wp2_with fail
                go_quiet (first | (go_at_call 22; refine Calls.quiet_of_same (HT.out _)))
                go_wp2_with fail
                exact ⟨⟨m + 1, by omega, by go_num, Lib.hid (below_drewN' hbel.out _)⟩, by simp [intOf]; omega⟩
            · obtain rfl : m = pt.length := by omega
              go_wp2_with fail
              have hc := texts_any _ _ _ _ pt pl wr (owns_below HP5.out hbel.out) (owns_below HR5.out hbel.out)
              have HB6 := Lib.hid (Below.onto HB5.out hbel.out)
              cases hs : (pt == pl)
              all_goals
                rw [hs] at hc
                first
                  | (exfalso; rcases HF.out with h | h
                     · cases h
                     · rw [h] at hs; simp at hs; done)
                  | (refine hc.mono ?_
                     rintro e w9 ⟨rfl, hb9⟩
                     have HB9 := Lib.hid (Below.onto HB6.out hb9)
                     clear hs hc hb9 HF
                     go_wp2_with fail
                     go_ret
                     exact ⟨rfl, HB9.out⟩)
  · have HS := Lib.hid hw.seen
    go_enter Try.func7, Try.ntmps7
    go_wp2_with fail
    refine (awake_any _).mono ?_
    rintro e w1 ⟨rfl, hb1⟩
    have HS1 := Lib.hid (HS.out.below hb1)
    go_wp2_with fail
    have hf := few_any A c l.length l w1 rfl HS1.out
    cases hfew : fewB l with
    | false =>
      rw [hfew] at hf
      refine hf.mono ?_
      rintro e w2 ⟨rfl, hw2⟩
      rw [hw2]
      go_wp2_with fail
      go_ret
      exact ⟨rfl, hb1⟩
    | true =>
      have hnz : (1000 : Int) < (nm.size : Int) := by
        have : ¬ nm.size ≤ 1000 := fun h => hok ⟨hfew, h⟩
        omega
      rw [hfew] at hf
      refine hf.mono ?_
      rintro e w2 ⟨rfl, hw2⟩
      rw [hw2]
      clear hok
      go_wp2_with fail
      go_ret
      exact ⟨rfl, hb1⟩
end Go.Proofs.Ytopakamglhhncaa
