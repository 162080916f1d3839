/- The contracts of Plain, the code's and the document's. -/
import Derived.Test.YtgddmihojladfaaGreatDoorCoPol
import Derived.Test.YtgddmihojladfaaGreatDoorHdRefs
import Derived.Laws.AppendOwnNone
namespace Go.Proofs.YtgddmihojladfaaGreatDoor
open Go.RowKit

theorem coHdr : (Tryz.prog.info? 35).map (fun i => (i.zero, i.size, i.bytes)) = some (some (.agg #[.string ⟨#[]⟩, .string ⟨#[]⟩]), 2, 32) := by kernel_rfl
theorem plain_succ {l : List Hd.Hdr} {k : Nat} (h : k < l.length) : Co.plain (l.take (k + 1)) = Co.plain (l.take k) ++ if Co.repB l[k] then [] else [l[k]] := by
  unfold Co.plain
  rw [List.take_succ_eq_append_getElem h, List.filter_append]
  congr 1
  cases hb : Co.repB l[k] <;> simp [hb]
theorem plain_le (l : List Hd.Hdr) : (Co.plain l).length ≤ l.length := List.length_filter_le _ _
theorem rowH_snoc (l : List Hd.Hdr) (x : Hd.Hdr) : rowH (l ++ [x]) = rowH l ++ [.string (bA x.name), .string (bA x.value)] := by unfold rowH; simp [hdC]
theorem hrow_step {w w1 w3 : World} {v : Value} {n : Nat} {xs : List Value} {o : Obj} {e : TypeId} {size : Nat} (hw : Below w.heap.size w w1) (hr : w1.ownsRow w.heap.size e size v n xs) (hg : (w1.alloc o).grownBy w3 v.ownBlock) : Below w.heap.size w w3 :=
  (hw.alloc hw.size o).grown hg (by have := hw.size; simp; omega) (fun k hk => (hr.lt k hk).1)
theorem own_nil (w : World) (base : Nat) : OwnH w base (.slice none 0 0) [] := World.ownsRow_nil _ _ _ _
set_option maxHeartbeats 4000000 in
set_option maxRecDepth 20000 in
theorem plain_any (A : Option Addr) (c n : Nat) (l : List Hd.Hdr) (w : World) (hn : l.length = n) (hl : SmallH l) (hA : SeenH w A l) :
    Calls Tryz.prog 13 #[.slice A n c] w fun e w' => ∃ v, e = .returned v ∧ Below w.heap.size w w' ∧ OwnH w' w.heap.size v (Co.plain l) := by
  subst hn
  obtain ⟨i0, hi, hz0, hz1, hz2⟩ := info_parts coHdr
  have HI := Lib.hid hi; have HZ0 := Lib.hid hz0; have HZ1 := Lib.hid hz1; have HZ2 := Lib.hid hz2
  have HA := Lib.hid hA; have HL := Lib.hid hl
  have hll := hl.len
  clear hi hz0 hz1 hz2 hA hl
  go_enter Tryz.func13, Tryz.ntmps13
  go_wp2
  go_loopw [3, 8] (fun vv i wr => ∃ k : Nat, k ≤ l.length ∧ i = .int .i64 k ∧ Hid (OwnH wr w.heap.size vv (Co.plain (l.take k))) ∧ Hid (Below w.heap.size w wr)) (fun _ i _ => l.length - (intOf i).toNat)
  case atStart => exact ⟨0, by omega, rfl, Lib.hid (own_nil _ _), Lib.hid (Below.refl _ _)⟩
  case round =>
    obtain ⟨k, hk, rfl, hrow, hbel⟩ := hrel
    by_cases hlt : k < l.length
    · obtain ⟨g, o, rfl, hg, hc⟩ := HA.out.below hbel.out (by omega)
      have hce := hc k hlt
      have c0 := hce.1; have c1 := hce.2
      have hsm := HL.out.each l[k] (List.getElem_mem hlt)
      have hps := plain_succ hlt
      obtain ⟨x, hx⟩ : ∃ x, l[k] = x := ⟨_, rfl⟩
      rw [hx] at c0 c1 hsm hps
      rw [rep_fold] at hps
      have hcall := fun W => isReported_any x.name W hsm.1
      have hpl := plain_le (l.take k)
      rw [List.length_take] at hpl
      have hpl2 : (Co.plain (l.take k)).length ≤ 1000 := by omega
      have hltz : (k : Int) < (l.length : Int) := by omega
      clear hc hce hx hsm hpl
      obtain ⟨b, hb⟩ : ∃ b, (Hd.foldB x.name Co.nER || Hd.foldB x.name Co.nOR) = b := ⟨_, rfl⟩
      rw [hb] at hcall hps
      have HC := Lib.hid hcall
      clear hb hcall
      obtain ⟨P, hP⟩ : ∃ P, Co.plain (l.take k) = P := ⟨_, rfl⟩
      rw [hP] at hps hrow hpl2
      clear hP
      go_wp2_with fail
      refine (HC.out _).mono ?_
      rintro e w1 ⟨rfl, hb1⟩
      have hbx : HBox w1 wr.heap.size x := (HBox.new wr x).below hb1
      have hw1 : Below w.heap.size w w1 := Below.onto1 hbel.out hb1
      have hr1 : OwnH w1 w.heap.size _ P := OwnH.below (OwnH.below hrow.out ((Below.refl _ _).alloc (Nat.le_refl _) _)) hb1
      clear hb1 hrow hbel c0 c1
      cases b with
      | true =>
        have HPS : Hid (Co.plain (l.take (k + 1)) = P) := Lib.hid (by simpa using hps)
        have HW := Lib.hid hw1; have HR := Lib.hid hr1
        clear hps hw1 hr1 hbx
        go_wp2_with fail
        exact ⟨⟨k + 1, by omega, by go_num, by rw [HPS.out]; exact HR, HW⟩, by simp [intOf]; omega⟩
      | false =>
        have HPS : Hid (Co.plain (l.take (k + 1)) = P ++ [x]) := Lib.hid (by simpa using hps)
        have d0 := hbx.c0; have d1 := hbx.c1
        have hws : w.heap.size ≤ w1.heap.size := hw1.size
        have HW := Lib.hid hw1; have HR := Lib.hid hr1
        clear hps hw1 hr1 hbx
        go_wp2_with (at_builtin; refine wpList_append_own _ rfl _ _ 23 rfl w.heap.size 35 i0 (.agg #[.string ⟨#[]⟩, .string ⟨#[]⟩]) 2 32 Tryz.underlying23 HI.out HZ0.out HZ1.out HZ2.out rfl (by decide) _ _ _ rfl (HR.out.alloc _) ⟨w1.heap.size, 0, none⟩ 1 1 [.string (bA x.name), .string (bA x.value)] rfl rfl (cells_new _ _ _) (by simp [Value.oneCell']) (by unfold maxLen; omega) (by omega) (by simp; omega) ?_; intro v' w3 hown' hgrow _)
        have hb3 := hrow_step HW.out HR.out hgrow
        have hown3 : OwnH w3 w.heap.size v' (P ++ [x]) := by unfold OwnH; rw [rowH_snoc, List.length_append]; exact hown'
        exact ⟨⟨k + 1, by omega, by go_num, by rw [HPS.out]; exact Lib.hid hown3, Lib.hid hb3⟩, by simp [intOf]; omega⟩
    · obtain rfl : k = l.length := by omega
      have hrow2 := hrow.out
      rw [List.take_of_length_le (Nat.le_refl _)] at hrow2
      have HR := Lib.hid hrow2
      clear hrow hrow2
      go_wp2_with fail
      go_ret
      exact ⟨_, rfl, hbel.out, HR.out⟩
end Go.Proofs.YtgddmihojladfaaGreatDoor
