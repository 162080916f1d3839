/- Two lists of policies that are alike. -/
import Derived.Test.YtcmbckacbdiebaaCsRow
import Derived.Deep.RegionHeldLaw
namespace Go.Proofs.Ytcmbckacbdiebaa
open Go.RowKit Go.Deep

theorem rdy_two {w1 W : World} {g1 o1 g2 o2 : Nat} {x y : Array Value} (h1 : ∀ j, j < 4 → w1.cell? ⟨g1, o1 + j, none⟩ = x[j]?) (h2 : ∀ j, j < 4 → w1.cell? ⟨g2, o2 + j, none⟩ = y[j]?) (hg1 : g1 < w1.heap.size) (hg2 : g2 < w1.heap.size) (hb : Below w1.heap.size w1 W) :
    W.cell? ⟨g1, o1, none⟩ = x[0]? ∧ W.cell? ⟨g1, o1 + 1, none⟩ = x[1]? ∧ W.cell? ⟨g1, o1 + 2, none⟩ = x[2]? ∧ W.cell? ⟨g1, o1 + 3, none⟩ = x[3]? ∧
    W.cell? ⟨g2, o2, none⟩ = y[0]? ∧ W.cell? ⟨g2, o2 + 1, none⟩ = y[1]? ∧ W.cell? ⟨g2, o2 + 2, none⟩ = y[2]? ∧ W.cell? ⟨g2, o2 + 3, none⟩ = y[3]? ∧ Below w1.heap.size w1 W := by
  have k1 : ∀ j, j < 4 → W.cell? ⟨g1, o1 + j, none⟩ = x[j]? := fun j hj => (hb.cell (p := ⟨g1, o1 + j, none⟩) hg1).trans (h1 j hj)
  have k2 : ∀ j, j < 4 → W.cell? ⟨g2, o2 + j, none⟩ = y[j]? := fun j hj => (hb.cell (p := ⟨g2, o2 + j, none⟩) hg2).trans (h2 j hj)
  exact ⟨k1 0 (by omega), k1 1 (by omega), k1 2 (by omega), k1 3 (by omega), k2 0 (by omega), k2 1 (by omega), k2 2 (by omega), k2 3 (by omega), hb⟩
set_option maxHeartbeats 4000000 in
set_option maxRecDepth 20000 in
theorem sameL_self (A1 A2 : Option Addr) (c1 c2 : Nat) (ps : List Cs.Pol) (w : World) (hm : ps.length ≤ 100000000) (hf : ∀ p ∈ ps, FitP p) (h1 : SeenPs w A1 ps) (h2 : SeenPs w A2 ps) :
    Calls Try.prog 14 #[.slice A1 ps.length c1, .slice A2 ps.length c2] w fun e w' => e = .returned (.bool true) ∧ Below w.heap.size w w' := by
  have H1 := Lib.hid h1; have H2 := Lib.hid h2; have HF := Lib.hid hf
  have h0 : ((ps.length : Int) != (ps.length : Int)) = false := by simp
  clear h1 h2 hf
  go_enter Try.func14, Try.ntmps14
  go_wp2
  clear h0
  go_loopw [5] (fun i wr => ∃ k : Nat, k ≤ ps.length ∧ i = .int .i64 k ∧ Hid (Below w.heap.size w wr)) (fun i _ => ps.length - (intOf i).toNat)
  case atStart => exact ⟨0, by omega, rfl, Lib.hid (Below.refl _ _)⟩
  case round =>
    obtain ⟨k, hk, rfl, hbel⟩ := hrel
    by_cases hlt : k < ps.length
    · obtain ⟨g1, o1, rfl, hg1, hc1⟩ := (H1.out.below hbel.out) (by omega)
      obtain ⟨g2, o2, rfl, hg2, hc2⟩ := (H2.out.below hbel.out) (by omega)
      obtain ⟨B1, d1, B2, d2, x1, x2, x3⟩ := hc1 k hlt
      obtain ⟨B3, d3, B4, d4, y1, y2, y3⟩ := hc2 k hlt
      have hfp := HF.out ps[k] (List.getElem_mem hlt)
      obtain ⟨p, hp⟩ : ∃ p, ps[k] = p := ⟨_, rfl⟩
      rw [hp] at x1 x2 x3 y1 y2 y3 hfp
      have hp1 : PolAt wr p (.agg (polC p B1 d1 B2 d2)) := ⟨_, _, _, _, rfl, x2.seen, x3.seen⟩
      have hp2 : PolAt wr p (.agg (polC p B3 d3 B4 d4)) := ⟨_, _, _, _, rfl, y2.seen, y3.seen⟩
      have HP1 := Lib.hid hp1; have HP2 := Lib.hid hp2
      have hcall := fun W (hb : Below wr.heap.size wr W) => same_self p _ _ W hfp (HP1.out.below hb) (HP2.out.below hb)
      have hX1 := Lib.hid x1; have hY1 := Lib.hid y1
      have hb0 : Below wr.heap.size wr wr := Below.refl _ _
      have z := rdy_two x1 y1 hg1 hg2 hb0
      clear hc1 hc2 hp x1 x2 x3 y1 y2 y3 hp1 hp2
      obtain ⟨pa, pl, pb, pm⟩ := p
      unfold polC at *
      dsimp only at *
      obtain ⟨z0, z1, z2, z3, z4, z5, z6, z7, _⟩ := z
      go_wp2_with fail
      go_region_held_law (fun W => W.cell? ⟨g1, o1 + k * 4, none⟩ = some (.bool pa) ∧ W.cell? ⟨g1, o1 + k * 4 + 1, none⟩ = some (.slice B1 pl.length d1) ∧ W.cell? ⟨g1, o1 + k * 4 + 2, none⟩ = some (.bool pb) ∧ W.cell? ⟨g1, o1 + k * 4 + 3, none⟩ = some (.slice B2 pm.length d2) ∧
          W.cell? ⟨g2, o2 + k * 4, none⟩ = some (.bool pa) ∧ W.cell? ⟨g2, o2 + k * 4 + 1, none⟩ = some (.slice B3 pl.length d3) ∧ W.cell? ⟨g2, o2 + k * 4 + 2, none⟩ = some (.bool pb) ∧ W.cell? ⟨g2, o2 + k * 4 + 3, none⟩ = some (.slice B4 pm.length d4) ∧ Below wr.heap.size wr W)
        (first
          | exact rdy_two hX1.out hY1.out hg1 hg2 hbw
          | exact rdy_two hX1.out hY1.out hg1 hg2 hb0.drew
          | exact rdy_two hX1.out hY1.out hg1 hg2 hb0)
        (first
          | (go_at_call 10; refine (hcall _ (by first | exact hb0 | exact hb0.drew)).mono ?_; rintro e w' ⟨rfl, hbs⟩; have hbw : Below wr.heap.size wr w' := by first | exact hbs | exact hb0.drew.trans hbs)
          | fail)
      all_goals
        have HB := Lib.hid (hbel.out.trans (hbw.mono hbel.out.size))
        rename_i hHeld
        clear hHeld hbs hbw hb0 z0 z1 z2 z3 z4 z5 z6 z7
        go_wp2_with fail
        exact ⟨⟨k + 1, by omega, by go_num, HB⟩, by simp [intOf]; omega⟩
    · obtain rfl : k = ps.length := by omega
      go_wp2_with fail
      go_ret
      exact ⟨rfl, hbel.out⟩
end Go.Proofs.Ytcmbckacbdiebaa
