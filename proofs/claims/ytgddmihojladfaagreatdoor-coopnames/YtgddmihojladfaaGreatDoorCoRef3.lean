/- The contracts of the document's Plain and Same. -/
import Derived.Test.YtgddmihojladfaaGreatDoorCoPlain
import Derived.Test.YtgddmihojladfaaGreatDoorOctAll
import Derived.Deep.RegionHeld3
namespace Go.Proofs.YtgddmihojladfaaGreatDoor
open Go.RowKit

set_option maxHeartbeats 4000000 in
set_option maxRecDepth 20000 in
theorem rplain_any (A : Option Addr) (c n : Nat) (l : List Hd.Hdr) (w : World) (hn : l.length = n) (hl : SmallH l) (hA : SeenH w A l) :
    Calls Tryz.prog 14 #[.slice A n c] w fun e w' => ∃ v, e = .returned v ∧ Below w.heap.size w w' ∧ OwnH w' w.heap.size v (Co.plain l) := by
  subst hn
  obtain ⟨i0, hi, hz0, hz1, hz2⟩ := info_parts coHdr
  have HI := Lib.hid hi; have HZ0 := Lib.hid hz0; have HZ1 := Lib.hid hz1; have HZ2 := Lib.hid hz2
  have HA := Lib.hid hA; have HL := Lib.hid hl
  have hll := hl.len
  clear hi hz0 hz1 hz2 hA hl
  go_enter Tryz.func14, Tryz.ntmps14
  go_wp2
  go_loopw [3, 4] (fun vv i wr => ∃ k : Nat, k ≤ l.length ∧ i = .int .i64 k ∧ Hid (OwnH wr w.heap.size vv (Co.plain (l.take k))) ∧ Hid (Below w.heap.size w wr)) (fun _ i _ => l.length - (intOf i).toNat)
  case atStart => exact ⟨0, by omega, rfl, Lib.hid (own_nil _ _), Lib.hid (Below.refl _ _)⟩
  case round =>
    obtain ⟨k, hk, rfl, hrow, hbel⟩ := hrel
    by_cases hlt : k < l.length
    · obtain ⟨g, o, rfl, hg, hc⟩ := HA.out.below hbel.out (by omega)
      have hce := hc k hlt
      have c0 := hce.1; have c1 := hce.2
      have hsm := HL.out.each l[k] (List.getElem_mem hlt)
      have hps := plain_succ hlt
      obtain ⟨x, hx⟩ : ∃ x, l[k] = x := ⟨_, rfl⟩
      rw [hx] at c0 c1 hsm hps
      have hcall := fun W => rlower_any (bA x.name) W (by rw [bA_size]; have := hsm.1; unfold maxLen; omega)
      have hpl := plain_le (l.take k)
      rw [List.length_take] at hpl
      have hpl2 : (Co.plain (l.take k)).length ≤ 1000 := by omega
      have hltz : (k : Int) < (l.length : Int) := by omega
      clear hc hce hx hsm hpl
      unfold Co.repB at hps
      obtain ⟨y, hy⟩ : ∃ y, Oct.lower x.name = y := ⟨_, rfl⟩
      rw [hy] at hps
      have hcall' : ∀ W, Calls Tryz.prog 27 #[.string (bA x.name)] W fun e w' => e = .returned (.string (bA y)) ∧ Below W.heap.size W w' := fun W => by rw [← hy]; exact hcall W
      have HC := Lib.hid hcall'
      clear hy hcall hcall'
      obtain ⟨P, hP⟩ : ∃ P, Co.plain (l.take k) = P := ⟨_, rfl⟩
      rw [hP] at hps hrow hpl2
      clear hP
      go_wp2_with fail
      refine (HC.out _).mono ?_
      rintro e w1 ⟨rfl, hb1⟩
      have hw1 : Below w.heap.size w w1 := Below.onto hbel.out hb1
      have hr1 : OwnH w1 w.heap.size _ P := OwnH.below hrow.out hb1
      have hce1 : Cells2 w1 g (o + k * 2) x := Cells2.below ⟨c0, c1⟩ hg hb1
      have HRW : Hid (OwnH w1 w.heap.size _ P ∧ Below w.heap.size w w1) := Lib.hid ⟨hr1, hw1⟩
      clear hb1 hrow hbel c0 c1 hr1 hw1
      cases h1 : y == Co.nOR with
      | true =>
        rw [h1] at hps
        have e1 : (y != Co.nOR) = false := by simp only [bne, h1]; rfl
        unfold Co.nOR at e1 h1
        have HPS : Hid (Co.plain (l.take (k + 1)) = P) := Lib.hid (by rw [hps]; simp)
        clear hps hce1
        go_wp2_with fail
        exact ⟨⟨k + 1, by omega, by go_num, by rw [HPS.out]; exact Lib.hid HRW.out.1, Lib.hid HRW.out.2⟩, by simp [intOf]; omega⟩
      | false =>
        rw [h1] at hps
        have e1 : (y != Co.nOR) = true := by simp only [bne, h1]; rfl
        unfold Co.nOR at e1 h1
        cases h2 : y == Co.nER with
        | true =>
          rw [h2] at hps
          have e2 : (y != Co.nER) = false := by simp only [bne, h2]; rfl
          unfold Co.nER at e2 h2
          have HPS : Hid (Co.plain (l.take (k + 1)) = P) := Lib.hid (by rw [hps]; simp)
          clear hps hce1
          go_wp2_with fail
          exact ⟨⟨k + 1, by omega, by go_num, by rw [HPS.out]; exact Lib.hid HRW.out.1, Lib.hid HRW.out.2⟩, by simp [intOf]; omega⟩
        | false =>
          rw [h2] at hps
          have e2 : (y != Co.nER) = true := by simp only [bne, h2]; rfl
          unfold Co.nER at e2 h2
          have HPS : Hid (Co.plain (l.take (k + 1)) = P ++ [x]) := Lib.hid (by rw [hps]; simp)
          have d0 := hce1.1; have d1 := hce1.2
          have hws : w.heap.size ≤ w1.heap.size := HRW.out.2.size
          clear hps hce1
          go_wp2_with (at_builtin; refine wpList_append_own _ rfl _ _ 23 rfl w.heap.size 35 i0 (.agg #[.string ⟨#[]⟩, .string ⟨#[]⟩]) 2 32 Tryz.underlying23 HI.out HZ0.out HZ1.out HZ2.out rfl (by decide) _ _ _ rfl (HRW.out.1.alloc _) ⟨w1.heap.size, 0, none⟩ 1 1 [.string (bA x.name), .string (bA x.value)] rfl rfl (cells_new _ _ _) (by simp [Value.oneCell']) (by unfold maxLen; omega) (by omega) (by simp; omega) ?_; intro v' w3 hown' hgrow _)
          have hb3 := hrow_step HRW.out.2 HRW.out.1 hgrow
          have hown3 : OwnH w3 w.heap.size v' (P ++ [x]) := by unfold OwnH; rw [rowH_snoc, List.length_append]; exact hown'
          exact ⟨⟨k + 1, by omega, by go_num, by rw [HPS.out]; exact Lib.hid hown3, Lib.hid hb3⟩, by simp [intOf]; omega⟩
    · obtain rfl : k = l.length := by omega
      have hrow2 := hrow.out
      rw [List.take_of_length_le (Nat.le_refl _)] at hrow2
      have HR := Lib.hid hrow2
      clear hrow hrow2
      go_wp2_with fail
      go_ret
      exact ⟨_, rfl, hbel.out, HR.out⟩

theorem eqIn_hdr (a : Hd.Hdr) (w : World) : (Op.equalIn 10000 35 (.agg #[.string (bA a.name), .string (bA a.value)]) (.agg #[.string (bA a.name), .string (bA a.value)])).run Tryz.prog w = .ok true w := by
  simp [go_sem]
/-- What stands while two headers are held against each other. -/
structure RdyH (w0 : World) (g1 o1 g2 o2 : Nat) (x : Hd.Hdr) (W : World) : Prop where
  b : Below w0.heap.size w0 W
  lt1 : g1 < w0.heap.size
  lt2 : g2 < w0.heap.size
  c1 : Cells2 W g1 o1 x
  c2 : Cells2 W g2 o2 x
theorem RdyH.drew {w0 : World} {g1 o1 g2 o2 : Nat} {x : Hd.Hdr} {W : World} (h : RdyH w0 g1 o1 g2 o2 x W) : RdyH w0 g1 o1 g2 o2 x W.drew := ⟨Below.onto h.b (Below.refl _ W).drew, h.lt1, h.lt2, h.c1, h.c2⟩
theorem RdyH.all {w0 : World} {g1 o1 g2 o2 : Nat} {x : Hd.Hdr} {W : World} (h : RdyH w0 g1 o1 g2 o2 x W) :
    W.cell? ⟨g1, o1, none⟩ = some (.string (bA x.name)) ∧ W.cell? ⟨g1, o1 + 1, none⟩ = some (.string (bA x.value)) ∧ W.cell? ⟨g2, o2, none⟩ = some (.string (bA x.name)) ∧ W.cell? ⟨g2, o2 + 1, none⟩ = some (.string (bA x.value)) ∧ RdyH w0 g1 o1 g2 o2 x W :=
  ⟨h.c1.1, h.c1.2, h.c2.1, h.c2.2, h⟩
set_option maxHeartbeats 4000000 in
set_option maxRecDepth 20000 in
theorem same_self (A B : Option Addr) (c d n : Nat) (l : List Hd.Hdr) (w : World) (hn : l.length = n) (hll : l.length ≤ 100000) (hA : SeenH w A l) (hB : SeenH w B l) :
    Calls Tryz.prog 12 #[.slice A n c, .slice B n d] w fun e w' => e = .returned (.bool true) ∧ Below w.heap.size w w' := by
  subst hn
  have HA := Lib.hid hA; have HB := Lib.hid hB
  clear hA hB
  go_enter Tryz.func12, Tryz.ntmps12
  go_wp2
  go_loopw [5] (fun i wr => ∃ k : Nat, k ≤ l.length ∧ i = .int .i64 k ∧ Hid (Below w.heap.size w wr)) (fun i _ => l.length - (intOf i).toNat)
  case atStart => exact ⟨0, by omega, rfl, Lib.hid (Below.refl _ _)⟩
  case round =>
    obtain ⟨k, hk, rfl, hbel⟩ := hrel
    by_cases hlt : k < l.length
    · obtain ⟨g1, o1, rfl, hg1, hc1⟩ := HA.out.below hbel.out (by omega)
      obtain ⟨g2, o2, rfl, hg2, hc2⟩ := HB.out.below hbel.out (by omega)
      have hr0 : RdyH wr g1 (o1 + k * 2) g2 (o2 + k * 2) l[k] wr := ⟨Below.refl _ _, hg1, hg2, hc1 k hlt, hc2 k hlt⟩
      obtain ⟨x, hx⟩ : ∃ x, l[k] = x := ⟨_, rfl⟩
      rw [hx] at hr0
      have heq := fun W => eqIn_hdr x W
      have hltz : (k : Int) < (l.length : Int) := by omega
      clear hc1 hc2 hx
      go_wp2_with fail
      go_region_held3 (fun w' => w'.cell? ⟨g1, o1 + k * 2, none⟩ = some (.string (bA x.name)) ∧ w'.cell? ⟨g1, o1 + k * 2 + 1, none⟩ = some (.string (bA x.value)) ∧ w'.cell? ⟨g2, o2 + k * 2, none⟩ = some (.string (bA x.name)) ∧ w'.cell? ⟨g2, o2 + k * 2 + 1, none⟩ = some (.string (bA x.value)) ∧ RdyH wr g1 (o1 + k * 2) g2 (o2 + k * 2) x w')
        (first
          | exact hr0.all
          | exact hr0.drew.all)
        (fail)
      all_goals
        rename_i hHeld
        have HB3 := Lib.hid (Below.onto hbel.out hr0.drew.b)
        clear hHeld hr0 heq
        go_wp2_with fail
        exact ⟨⟨k + 1, by omega, by go_num, HB3⟩, by simp [intOf]; omega⟩
    · obtain rfl : k = l.length := by omega
      go_wp2_with fail
      go_ret
      exact ⟨rfl, hbel.out⟩
end Go.Proofs.YtgddmihojladfaaGreatDoor
