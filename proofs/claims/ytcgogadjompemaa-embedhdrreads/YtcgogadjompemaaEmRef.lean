/- The contracts of the document's own answers: glacisref09's Corp, Has and Xfo. -/
import Derived.Test.YtcgogadjompemaaEmCode
import Derived.Test.YtcgogadjompemaaHdRefC
import Derived.Test.YtcgogadjompemaaHdRef2
namespace Go.Proofs.Ytcgogadjompemaa
open Go.RowKit

set_option maxHeartbeats 1000000 in
theorem rcorpW_go (s : List UInt8) (b : Bool) (A : Option Addr) (c n : Nat) (w w0 : World) (H1 : Hid (Calls Try.prog 22 #[.slice A n c, .string (bA Em.nC)] w fun e w' => e = .returned (.tuple #[.string (bA s), .bool b]) ∧ Below w0.heap.size w0 w')) :
    Calls Try.prog 12 #[.slice A n c] w fun e w' => e = .returned (.int .i64 (Em.corpW s)) ∧ Below w0.heap.size w0 w' := by
  unfold Em.corpW
  by_cases h1 : s = Em.wSO
  · rw [if_pos h1]
    have e1 : (s == Em.wSO) = true := beq_iff_eq.2 h1
    unfold Em.wSO at e1
    clear h1
    go_enter Try.func12, Try.ntmps12
    go_wp2_with fail
    refine H1.out.mono ?_
    rintro e w1 ⟨rfl, hb1⟩
    go_wp2_with fail
    go_ret
    exact ⟨rfl, hb1⟩
  · rw [if_neg h1]
    have e1 : (s == Em.wSO) = false := beq_eq_false_iff_ne.2 h1
    unfold Em.wSO at e1
    clear h1
    by_cases h2 : s = Em.wSS
    · rw [if_pos h2]
      have e2 : (s == Em.wSS) = true := beq_iff_eq.2 h2
      unfold Em.wSS at e2
      clear h2
      go_enter Try.func12, Try.ntmps12
      go_wp2_with fail
      refine H1.out.mono ?_
      rintro e w1 ⟨rfl, hb1⟩
      go_wp2_with fail
      go_ret
      exact ⟨rfl, hb1⟩
    · rw [if_neg h2]
      have e2 : (s == Em.wSS) = false := beq_eq_false_iff_ne.2 h2
      unfold Em.wSS at e2
      clear h2
      by_cases h3 : s = Em.wCO
      · rw [if_pos h3]
        have e3 : (s == Em.wCO) = true := beq_iff_eq.2 h3
        unfold Em.wCO at e3
        clear h3
        go_enter Try.func12, Try.ntmps12
        go_wp2_with fail
        refine H1.out.mono ?_
        rintro e w1 ⟨rfl, hb1⟩
        go_wp2_with fail
        go_ret
        exact ⟨rfl, hb1⟩
      · rw [if_neg h3]
        have e3 : (s == Em.wCO) = false := beq_eq_false_iff_ne.2 h3
        unfold Em.wCO at e3
        clear h3
        go_enter Try.func12, Try.ntmps12
        go_wp2_with fail
        refine H1.out.mono ?_
        rintro e w1 ⟨rfl, hb1⟩
        go_wp2_with fail
        go_ret
        exact ⟨rfl, hb1⟩
theorem rcorp_any (A : Option Addr) (c n : Nat) (l : List Hd.Hdr) (w : World) (hn : l.length = n) (hl : SmallH l) (hA : SeenH w A l) :
    Calls Try.prog 12 #[.slice A n c] w fun e w' => e = .returned (.int .i64 (Em.corpL l)) ∧ Below w.heap.size w w' :=
  rcorpW_go (Hd.comb l Em.nC) _ A c n w w (Lib.hid (rcombined_any A c n l Em.nC w hn hl (by decide) hA))

/-! ### is a text among others? -/
theorem own_slice {w : World} {b : Nat} {v : Value} {pa : List (List UInt8)} (h : w.ownsRow b 9 1 v pa.length (pa.map Oct.strV)) : ∃ A c, v = .slice A pa.length c := by
  rcases owns_view h with ⟨rfl, h0⟩ | ⟨g, cap, rfl, _⟩
  · exact ⟨none, 0, by rw [h0]; rfl⟩
  · exact ⟨_, _, rfl⟩
theorem not_among {pa : List (List UInt8)} {k : Nat} {s : List UInt8} (hk : k < pa.length) (h : s ∉ pa.take k) (hne : (pa[k] == s) = false) : s ∉ pa.take (k + 1) := by
  rw [List.take_succ_eq_append_getElem hk, List.mem_append, List.mem_singleton]
  rintro (h2 | h2)
  · exact h h2
  · rw [← h2] at hne; simp at hne
set_option maxHeartbeats 1000000 in
theorem has_any (b : Nat) (v : Value) (pa : List (List UInt8)) (s : List UInt8) (w : World) (h : w.ownsRow b 9 1 v pa.length (pa.map Oct.strV)) (hle : pa.length ≤ 100000000) :
    Calls Try.prog 27 #[v, .string (bA s)] w fun e w' => e = .returned (.bool (decide (s ∈ pa))) ∧ w = w' := by
  obtain ⟨A, c, rfl⟩ := own_slice h
  have HR := Lib.hid h
  clear h
  go_enter Try.func27, Try.ntmps27
  go_wp2
  go_loopw [5] (fun i wr => ∃ k : Nat, k ≤ pa.length ∧ i = .int .i64 k ∧ Hid (s ∉ pa.take k) ∧ wr = w) (fun i _ => pa.length - (intOf i).toNat)
  case atStart => exact ⟨0, by omega, rfl, Lib.hid (by simp), rfl⟩
  case round =>
    obtain ⟨k, hk, rfl, hno, rfl⟩ := hrel
    by_cases hlt : k < pa.length
    · rcases owns_view HR.out with ⟨e1, h0⟩ | ⟨g, cap, e1, _, hg, hgb, hc⟩
      · exfalso; rw [h0] at hlt; simp at hlt
      · cases e1
        have hce := hc k hlt
        have hnx := fun h => not_among hlt hno.out h
        have hyes : ∀ x, pa[k] = x → (x == s) = true → s ∈ pa := fun x hx h => by
          have := beq_iff_eq.1 h
          rw [← this, ← hx]; exact List.getElem_mem hlt
        obtain ⟨x, hx⟩ : ∃ x, pa[k] = x := ⟨_, rfl⟩
        rw [hx] at hce hnx
        have HY := Lib.hid (hyes x hx); have HN := Lib.hid hnx
        unfold Oct.strV at hce
        clear hc hyes hnx hx
        cases heq : x == s with
        | true =>
          have HE := Lib.hid heq
          go_wp2_with fail
          go_ret
          exact ⟨by rw [decide_eq_true (HY.out HE.out)]; rfl, rfl⟩
        | false =>
          have HE := Lib.hid heq
          go_wp2_with fail
          exact ⟨⟨k + 1, by omega, by go_num, Lib.hid (HN.out HE.out), trivial⟩, by simp [intOf]; omega⟩
    · obtain rfl : k = pa.length := by omega
      have hno2 := hno.out
      rw [List.take_of_length_le (Nat.le_refl _)] at hno2
      have HN := Lib.hid hno2
      clear hno hno2
      go_wp2_with fail
      go_ret
      exact ⟨by rw [decide_eq_false HN.out]; rfl, rfl⟩

/-! ### frame options, as the document counts -/
def xfoB (n : Nat) (d s a : Bool) : Int := if 1 < n ∧ (d || s || a) = true then 1 else if n ≠ 1 then 0 else if d = true then 1 else if s = true then 2 else if a = true then 3 else 0
theorem xfoB_many {n : Nat} (h : 1 < n) (d s a : Bool) : xfoB n d s a = if (d || s || a) = true then 1 else 0 := by
  unfold xfoB
  by_cases h2 : (d || s || a) = true
  · rw [if_pos ⟨h, h2⟩, if_pos h2]
  · rw [if_neg (fun x => h2 x.2), if_neg h2, if_pos (by omega)]
theorem xfoB_is (ws : List (List UInt8)) : Em.xfoW ws = xfoB (Em.uniq ws).length (decide (Em.xD ∈ Em.uniq ws)) (decide (Em.xS ∈ Em.uniq ws)) (decide (Em.xA ∈ Em.uniq ws)) := by
  rw [Em.xfo_uniq]
  unfold Em.xfoU xfoB
  simp only [Em.uniq_mem, Bool.or_eq_true, decide_eq_true_eq, or_assoc]
theorem rlow_bA (s : List UInt8) (w : World) (hs : s.length ≤ 5000) : Calls Try.prog 26 #[.string (bA s)] w fun e w' => e = .returned (.string (bA (Oct.lower s))) ∧ Below w.heap.size w w' :=
  rlower_any (bA s) w (by rw [bA_size]; unfold maxLen; omega)
set_option maxHeartbeats 8000000 in
set_option maxRecDepth 20000 in
theorem rxfo_any (A : Option Addr) (c n : Nat) (l : List Hd.Hdr) (w : World) (hn : l.length = n) (hl : SmallH l) (hA : SeenH w A l) :
    Calls Try.prog 14 #[.slice A n c] w fun e w' => e = .returned (.int .i64 (Em.xfoL l)) ∧ Below w.heap.size w w' := by
  have hcall := rparts_any A c n l Em.nX w hn hl (by decide) hA
  have hsm := partsL_small hl Em.nX
  have hln := partsL_len hl Em.nX
  have hxw : Em.xfoL l = Em.xfoW ((Hd.partsL l Em.nX).map Oct.lower) := rfl
  rw [hxw]
  obtain ⟨ps, hps⟩ : ∃ ps, Hd.partsL l Em.nX = ps := ⟨_, rfl⟩
  rw [hps] at hcall hsm hln ⊢
  have hwl : (ps.map Oct.lower).length = ps.length := by rw [List.length_map]
  have hxi : ∀ (k : Nat) (h : k < ps.length), Em.uniq ((ps.map Oct.lower).take (k + 1)) = Em.put (Em.uniq ((ps.map Oct.lower).take k)) (Oct.lower ps[k]) := fun k h => by
    rw [Em.uniq_succ (by omega), List.getElem_map]
  have hul : ∀ k : Nat, (Em.uniq ((ps.map Oct.lower).take k)).length ≤ k := fun k => Nat.le_trans (Em.uniq_le _) (by rw [List.length_take]; omega)
  obtain ⟨ws, hws⟩ : ∃ ws, ps.map Oct.lower = ws := ⟨_, rfl⟩
  rw [hws] at hwl hul ⊢
  simp only [hws] at hxi
  have hB := xfoB_is ws
  obtain ⟨res, hres⟩ : ∃ res, Em.xfoW ws = res := ⟨_, rfl⟩
  rw [hres] at hB ⊢
  have HBX := Lib.hid hB; have HC := Lib.hid hcall; have HSM := Lib.hid hsm; have HXI := Lib.hid hxi; have HUL := Lib.hid hul
  obtain ⟨i0, hi, hz0, hz1, hz2⟩ := info_parts info_string
  have HI := Lib.hid hi; have HZ0 := Lib.hid hz0; have HZ1 := Lib.hid hz1; have HZ2 := Lib.hid hz2
  clear hcall hsm hxw hxi hws hps hl hA hres hB hul hi hz0 hz1 hz2
  go_enter Try.func14, Try.ntmps14
  go_wp2_with fail
  refine HC.out.mono ?_
  rintro e w1 ⟨v, rfl, hb1, hr1⟩
  have hv : ∃ A2 c2, v = .slice A2 ps.length c2 := by
    rcases owns_view hr1 with ⟨rfl, h0⟩ | ⟨g, cap, rfl, _⟩
    · exact ⟨none, 0, by rw [h0]; rfl⟩
    · exact ⟨_, _, rfl⟩
  obtain ⟨A2, c2, rfl⟩ := hv
  have HR1 := Lib.hid hr1; have HB1 := Lib.hid hb1
  clear hb1 hr1 HC
  go_wp2
  go_loopw [4, 5] (fun vv i wr => ∃ k : Nat, k ≤ ps.length ∧ i = .int .i64 k ∧ Hid (wr.ownsRow w1.heap.size 9 1 vv (Em.uniq (ws.take k)).length ((Em.uniq (ws.take k)).map Oct.strV)) ∧ Hid (Below w1.heap.size w1 wr)) (fun _ i _ => ps.length - (intOf i).toNat)
  case atStart => exact ⟨0, by omega, rfl, Lib.hid (World.ownsRow_nil _ _ _ _), Lib.hid (Below.refl _ _)⟩
  case round =>
    obtain ⟨k, hk, rfl, hrow, hbel⟩ := hrel
    by_cases hlt : k < ps.length
    · rcases owns_view (owns_below HR1.out hbel.out) with ⟨e1, h0⟩ | ⟨g, cap, e1, _, hg, hgb, hc⟩
      · exfalso; rw [h0] at hlt; simp at hlt
      · cases e1
        have hss := HXI.out k hlt
        have hce := hc k hlt
        have hxl : ps[k].length ≤ 5000 := HSM.out _ (List.getElem_mem hlt)
        obtain ⟨x, hx2⟩ : ∃ x, ps[k] = x := ⟨_, rfl⟩
        rw [hx2] at hss hce hxl
        unfold Oct.strV at hce
        have hcall := fun W => rlow_bA x W hxl
        obtain ⟨y, hy⟩ : ∃ y, Oct.lower x = y := ⟨_, rfl⟩
        rw [hy] at hss
        simp only [hy] at hcall
        have hul := HUL.out k
        obtain ⟨u, hu⟩ : ∃ u, Em.uniq (ws.take k) = u := ⟨_, rfl⟩
        rw [hu] at hss hul
        have hrow2 := hrow.out
        rw [hu] at hrow2
        have HROW := Lib.hid hrow2
        clear hrow hrow2 hu hx2 hc hy hxl
        by_cases hin : y ∈ u
        · have HS : Hid (Em.uniq (ws.take (k + 1)) = u) := Lib.hid (by rw [hss]; unfold Em.put; rw [if_pos hin])
          have hh := fun W v h => has_any w1.heap.size v u y W h (by omega)
          rw [decide_eq_true hin] at hh
          have HH := Lib.hid hh
          clear hss hin hh
          go_wp2_with fail
          refine (hcall _).mono ?_
          rintro e w2 ⟨rfl, hb2⟩
          clear hcall
          have HR2 := Lib.hid (owns_below HROW.out hb2)
          have HB2 := Lib.hid (hbel.out.trans (hb2.mono hbel.out.size))
          clear hb2
          go_wp2_with fail
          refine (HH.out _ _ HR2.out).mono ?_
          rintro e w3 ⟨rfl, rfl⟩
          go_wp2_with fail
          exact ⟨⟨k + 1, by omega, by go_num, Lib.hid (by rw [HS.out]; exact HR2.out), HB2⟩, by simp [intOf]; omega⟩
        · have HS : Hid (Em.uniq (ws.take (k + 1)) = u ++ [y]) := Lib.hid (by rw [hss]; unfold Em.put; rw [if_neg hin])
          have hh := fun W v h => has_any w1.heap.size v u y W h (by omega)
          rw [decide_eq_false hin] at hh
          have HH := Lib.hid hh
          clear hss hin hh
          go_wp2_with fail
          refine (hcall _).mono ?_
          rintro e w2 ⟨rfl, hb2⟩
          clear hcall
          have HR2 := Lib.hid (owns_below HROW.out hb2)
          have HB2 := Lib.hid (hbel.out.trans (hb2.mono hbel.out.size))
          have hws2 : w1.heap.size ≤ w2.heap.size := HB2.out.size
          clear hb2
          go_wp2_with fail
          refine (HH.out _ _ HR2.out).mono ?_
          rintro e w3 ⟨rfl, rfl⟩
          go_wp2_with (at_builtin; refine wpList_append_own _ rfl _ _ 26 rfl w1.heap.size 9 i0 (.string ⟨#[]⟩) 1 16 Try.underlying26 HI.out HZ0.out HZ1.out HZ2.out rfl (by decide) _ _ _ rfl (HR2.out.alloc _) ⟨w2.heap.size, 0, none⟩ 1 1 [.string (bA y)] rfl rfl (cell_one_new _ _ _) (by simp [Value.oneCell']) (by unfold maxLen; omega) (by omega) (by simp; omega) ?_; intro v' w4 hown' hgrow _; obtain ⟨g', cap', rfl⟩ := ownsRow_succ hown')
          obtain ⟨hb3, _⟩ := row_step HR2.out hws2 hgrow
          exact ⟨⟨k + 1, by omega, by go_num, Lib.hid (by rw [HS.out]; simpa [Oct.strV] using hown'), Lib.hid (HB2.out.trans hb3)⟩, by simp [intOf]; omega⟩
    · obtain rfl : k = ps.length := by omega
      have hrow2 := hrow.out
      have hul := HUL.out ps.length
      rw [← hwl, List.take_of_length_le (Nat.le_refl _)] at hrow2 hul
      have hbx := HBX.out
      obtain ⟨u, hu⟩ : ∃ u, Em.uniq ws = u := ⟨_, rfl⟩
      rw [hu] at hrow2 hbx hul
      obtain ⟨A3, c3, rfl⟩ := own_slice hrow2
      have h1 := has_any _ _ u Em.xD _ hrow2 (by omega)
      have h2 := has_any _ _ u Em.xS _ hrow2 (by omega)
      have h3 := has_any _ _ u Em.xA _ hrow2 (by omega)
      obtain ⟨b1, e1⟩ : ∃ b, decide (Em.xD ∈ u) = b := ⟨_, rfl⟩
      obtain ⟨b2, e2⟩ : ∃ b, decide (Em.xS ∈ u) = b := ⟨_, rfl⟩
      obtain ⟨b3, e3⟩ : ∃ b, decide (Em.xA ∈ u) = b := ⟨_, rfl⟩
      rw [e1] at h1 hbx; rw [e2] at h2 hbx; rw [e3] at h3 hbx
      obtain ⟨N, hN⟩ : ∃ N, u.length = N := ⟨_, rfl⟩
      rw [hN] at h1 h2 h3 hbx ⊢
      have HB := Lib.hid (HB1.out.trans (hbel.out.mono HB1.out.size)); have HX := Lib.hid hbx
      have K1 := Lib.hid h1; have K2 := Lib.hid h2; have K3 := Lib.hid h3
      clear hrow hrow2 hbx h1 h2 h3 e1 e2 e3 hul hN hu
      have hNc : N = 0 ∨ N = 1 ∨ 1 < N := by omega
      rcases hNc with rfl | rfl | hgt
      · have hN1 : decide ((1 : Int) < ((0 : Nat) : Int)) = false := rfl
        have hN2 : (((0 : Nat) : Int) != 1) = true := rfl
        go_wp2_with fail
        refine K1.out.mono ?_
        rintro e w2 ⟨rfl, rfl⟩
        go_wp2_with fail
        refine K2.out.mono ?_
        rintro e w2 ⟨rfl, rfl⟩
        go_wp2_with fail
        refine K3.out.mono ?_
        rintro e w2 ⟨rfl, rfl⟩
        go_wp2_with fail
        go_ret
        exact ⟨by rw [HX.out]; cases b1 <;> cases b2 <;> cases b3 <;> rfl, HB.out⟩
      · have hN1 : decide ((1 : Int) < ((1 : Nat) : Int)) = false := rfl
        have hN2 : (((1 : Nat) : Int) != 1) = false := rfl
        go_wp2_with fail
        refine K1.out.mono ?_
        rintro e w2 ⟨rfl, rfl⟩
        go_wp2_with fail
        refine K2.out.mono ?_
        rintro e w2 ⟨rfl, rfl⟩
        go_wp2_with fail
        refine K3.out.mono ?_
        rintro e w2 ⟨rfl, rfl⟩
        clear K1 K2 K3
        cases b1 with
        | true =>
          go_wp2_with fail
          go_ret
          exact ⟨by rw [HX.out]; cases b2 <;> cases b3 <;> rfl, HB.out⟩
        | false =>
          cases b2 with
          | true =>
            go_wp2_with fail
            go_ret
            exact ⟨by rw [HX.out]; cases b3 <;> rfl, HB.out⟩
          | false =>
            cases b3 with
            | true =>
              go_wp2_with fail
              go_ret
              exact ⟨by rw [HX.out]; rfl, HB.out⟩
            | false =>
              go_wp2_with fail
              go_ret
              exact ⟨by rw [HX.out]; rfl, HB.out⟩
      · have hN1 : decide ((1 : Int) < (N : Int)) = true := decide_eq_true (by omega)
        have hN2 : ((N : Int) != 1) = true := by
          have : (N : Int) ≠ 1 := by omega
          simpa using this
        have HX2 : Hid (res = if (b1 || b2 || b3) = true then 1 else 0) := Lib.hid (by rw [HX.out, xfoB_many hgt])
        go_wp2_with fail
        refine K1.out.mono ?_
        rintro e w2 ⟨rfl, rfl⟩
        go_wp2_with fail
        refine K2.out.mono ?_
        rintro e w2 ⟨rfl, rfl⟩
        go_wp2_with fail
        refine K3.out.mono ?_
        rintro e w2 ⟨rfl, rfl⟩
        clear K1 K2 K3
        cases b1 with
        | true =>
          go_wp2_with fail
          go_ret
          exact ⟨by rw [HX2.out]; rfl, HB.out⟩
        | false =>
          cases b2 with
          | true =>
            go_wp2_with fail
            go_ret
            exact ⟨by rw [HX2.out]; rfl, HB.out⟩
          | false =>
            cases b3 with
            | true =>
              go_wp2_with fail
              go_ret
              exact ⟨by rw [HX2.out]; rfl, HB.out⟩
            | false =>
              go_wp2_with fail
              go_ret
              exact ⟨by rw [HX2.out]; rfl, HB.out⟩
end Go.Proofs.Ytcgogadjompemaa
