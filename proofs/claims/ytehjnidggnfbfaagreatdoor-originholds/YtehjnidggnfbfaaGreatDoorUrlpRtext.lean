/- The contracts of the document's Text and Inner. -/
import Derived.Test.YtehjnidggnfbfaaGreatDoorUrlpRef4
import Derived.Test.YtehjnidggnfbfaaGreatDoorUrlpText
import Derived.Test.YtehjnidggnfbfaaGreatDoorHostAll
namespace Go.Proofs.YtehjnidggnfbfaaGreatDoor
open Go.RowKit

set_option maxHeartbeats 1000000 in
theorem rinner_of (u : Urp.URL) (w : World) (hP : RParsesAt u.rest) : Calls Tryz.prog 21 #[urlV u] w fun e w' => e = .returned (inV (Urp.innerU u)) ∧ Below w.heap.size w w' := by
  have hb0 : Below w.heap.size w ((w.alloc (.cells (uCells u) 26)).alloc (.cells (uCells Urp.zeroU) 26)) := ((Below.refl _ w).alloc (Nat.le_refl _) _).alloc (by simp) _
  have q0 : UBox ((w.alloc (.cells (uCells u) 26)).alloc (.cells (uCells Urp.zeroU) 26)) (w.heap.size + 1) Urp.zeroU := by
    have := UBox.new (w.alloc (.cells (uCells u) 26)) Urp.zeroU
    simpa using this
  by_cases hs : u.scheme = Urp.sBlob
  · have hs' : (u.scheme == [98, 108, 111, 98]) = true := beq_iff_eq.2 hs
    have hin : Urp.innerU u = Urp.netU u.rest := by unfold Urp.innerU; rw [if_pos hs]
    rw [hin]
    obtain ⟨o, ho⟩ : ∃ o, Urp.netU u.rest = o := ⟨_, rfl⟩
    rw [ho]
    have HO := Lib.hid ho
    have HP := Lib.hid hP
    clear hs hin hP ho
    have HB := Lib.hid hb0
    unfold urlV
    unfold uCells at q0 hb0 ⊢
    go_enter Tryz.func21, Tryz.ntmps21
    go_wp2_with fail
    refine (HP.out _).mono ?_
    rintro e w1 ⟨rfl, hb1⟩
    have q1 := UBox.keep q0 hb1
    have hbw1 := below_on hb0 hb1
    clear hb0 q0 hb1
    unfold resV urlV uCells
    obtain ⟨x, hx⟩ : ∃ x, getU (Urp.parse u.rest) = x := ⟨_, rfl⟩
    obtain ⟨e, he⟩ : ∃ e, errU (Urp.parse u.rest) = e := ⟨_, rfl⟩
    rw [hx, he]
    have HX := Lib.hid hx
    have hez : Urp.netB x.scheme = true → (e != 0) = false := by
      intro hn
      rw [← he]
      cases hp : Urp.parse u.rest with
      | ok y => rfl
      | error e2 =>
        rw [hp] at hx
        rw [← hx] at hn
        cases hn
    have HEZ := Lib.hid hez
    clear hx he hez
    go_wp2_with fail
    refine (rnetV_any _ _ _ _ _ _ _ _ _ _).mono ?_
    rintro e2 w2 ⟨rfl, hb2⟩
    have hq : ∀ o : Obj, UBox (w1.alloc o) (w.heap.size + 1) Urp.zeroU := fun o => q1.alloc o
    have q2 := (hq _).keep hb2
    have qx := (UBox.new w1 x).keep hb2
    have hbw2 := below_on (hbw1.alloc hbw1.size _) hb2
    clear hb2 hq q1
    have c0 := qx.c0; have c1 := qx.c1; have c2 := qx.c2; have c3 := qx.c3; have c4 := qx.c4; have c5 := qx.c5; have c6 := qx.c6; have c7 := qx.c7; have c8 := qx.c8
    have d0 := q2.c0; have d1 := q2.c1; have d2 := q2.c2; have d3 := q2.c3; have d4 := q2.c4; have d5 := q2.c5; have d6 := q2.c6; have d7 := q2.c7; have d8 := q2.c8
    have f := q2.fr
    cases hn : Urp.netB (bA x.scheme).data.toList with
    | false =>
      have HN := Lib.hid hn
      clear hn
      rcases Bool.eq_false_or_eq_true (e != 0) with hez | hez
      all_goals
        go_wp2_with fail
        refine bodyPost_ret (results_url rfl _ _ rfl (q2.set Urp.zeroU)) rfl ⟨?_, below_set9 hbw2 (by omega) Urp.zeroU⟩
        rw [← HO.out, netU_no (by rw [HX.out]; exact HN.out)]; rfl
    | true =>
      have HN := Lib.hid hn
      have hez := HEZ.out hn
      clear hn
      go_wp2_with fail
      refine bodyPost_ret (results_url rfl _ _ rfl (q2.set x)) rfl ⟨?_, below_set9 hbw2 (by omega) x⟩
      rw [← HO.out, netU_yes (by rw [HX.out]; exact HN.out), HX.out]; rfl
  · have hs' : (u.scheme == [98, 108, 111, 98]) = false := beq_eq_false_iff_ne.2 hs
    have hin : Urp.innerU u = none := by unfold Urp.innerU; rw [if_neg hs]
    rw [hin]
    have HB := Lib.hid hb0
    have HQ := Lib.hid q0
    clear hs hin hb0 q0
    unfold urlV uCells
    go_enter Tryz.func21, Tryz.ntmps21
    go_wp2_with fail
    exact bodyPost_ret (results_url rfl _ _ rfl HQ.out) rfl ⟨rfl, HB.out⟩

theorem rinner_any (u : Urp.URL) (w : World) (hl : u.rest.length ≤ 4000) : Calls Tryz.prog 21 #[urlV u] w fun e w' => e = .returned (inV (Urp.innerU u)) ∧ Below w.heap.size w w' :=
  rinner_of u w (fun W => ruparse_any u.rest W hl)
theorem rnet_any (u : Urp.URL) (w : World) : Calls Tryz.prog 22 #[urlV u] w fun e w' => e = .returned (.bool (Urp.netB u.scheme)) ∧ Below w.heap.size w w' :=
  rnetV_any (bA u.scheme) (bA u.host.name) u.host.v4 u.host.addr u.port (bA u.path) u.hasq (bA u.query) (bA u.rest) w
end Go.Proofs.YtehjnidggnfbfaaGreatDoor
