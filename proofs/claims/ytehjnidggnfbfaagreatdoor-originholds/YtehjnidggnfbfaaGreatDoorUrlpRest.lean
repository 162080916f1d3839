/- The contracts of urlp.Inner and isRest, out of Parse's own at the text within. -/
import Derived.Test.YtehjnidggnfbfaaGreatDoorUrlpBox
namespace Go.Proofs.YtehjnidggnfbfaaGreatDoor
open Go.RowKit

set_option maxHeartbeats 1000000 in
theorem load_url {w : World} {B : Nat} {x : Urp.URL} (h : UBox w B x) : (loadVar 26 ⟨B, 0, none⟩).run Tryz.prog w = .ok (urlV x) w := by
  have c0 := h.c0; have c1 := h.c1; have c2 := h.c2; have c3 := h.c3; have c4 := h.c4; have c5 := h.c5; have c6 := h.c6; have c7 := h.c7; have c8 := h.c8
  simp [go_sem, c0, c1, c2, c3, c4, c5, c6, c7, c8, urlV, uCells]
theorem results_url {fn : Func} {t u : Tmp} (h : fn.results = #[.cell t 26, .tmp u]) (tmps : Array Value) (w : World) {B : Nat} {x : Urp.URL} (hp : tmps[t]?.getD undef = .pointer (some ⟨B, 0, none⟩)) (hb : UBox w B x) :
    (results fn tmps).run Tryz.prog w = .ok (.tuple #[urlV x, tmps.getD u undef]) w := by
  have hl := load_url hb
  simp [results, h, hp, hl, asAddr]

def ParsesAt (l : List UInt8) : Prop := ∀ W : World, Tab8 W → Calls Tryz.prog 30 #[.string (bA l)] W fun e w' => e = .returned (resV (Urp.parse l)) ∧ Below W.heap.size W w'

theorem netU_no {l : List UInt8} (h : Urp.netB (getU (Urp.parse l)).scheme = false) : Urp.netU l = none := by
  rw [Urp.netU_parse]
  cases hr : Urp.parse l with
  | error e => rfl
  | ok y =>
    rw [hr] at h
    have : Urp.netB y.scheme = false := h
    simp only [this, Bool.false_eq_true, if_false]
theorem netU_yes {l : List UInt8} (h : Urp.netB (getU (Urp.parse l)).scheme = true) : Urp.netU l = some (getU (Urp.parse l)) := by
  rw [Urp.netU_parse]
  cases hr : Urp.parse l with
  | error e => rw [hr] at h; cases h
  | ok y =>
    rw [hr] at h
    have : Urp.netB y.scheme = true := h
    simp only [this, if_true]; rfl
set_option maxHeartbeats 1000000 in
theorem inner_of (u : Urp.URL) (w : World) (hT : Tab8 w) (hP : ParsesAt u.rest) : Calls Tryz.prog 18 #[urlV u] w fun e w' => e = .returned (inV (Urp.innerU u)) ∧ Below w.heap.size w w' := by
  have hb0 : Below w.heap.size w ((w.alloc (.cells (uCells u) 26)).alloc (.cells (uCells Urp.zeroU) 26)) := ((Below.refl _ w).alloc (Nat.le_refl _) _).alloc (by simp) _
  have q0 : UBox ((w.alloc (.cells (uCells u) 26)).alloc (.cells (uCells Urp.zeroU) 26)) (w.heap.size + 1) Urp.zeroU := by
    have := UBox.new (w.alloc (.cells (uCells u) 26)) Urp.zeroU
    simpa using this
  by_cases hs : u.scheme = Urp.sBlob
  · have hs' : (u.scheme == [98, 108, 111, 98]) = true := beq_iff_eq.2 hs
    have hin : Urp.innerU u = Urp.netU u.rest := by unfold Urp.innerU; rw [if_pos hs]
    rw [hin]
    obtain ⟨o, ho⟩ : ∃ o, Urp.netU u.rest = o := ⟨_, rfl⟩
    rw [ho]
    have HO := Lib.hid ho
    have HP := Lib.hid hP
    clear hs hin hP ho
    have HB := Lib.hid hb0
    unfold urlV
    unfold uCells at q0 hb0 ⊢
    have hT0 := hT.below hb0
    go_enter Tryz.func18, Tryz.ntmps18
    go_wp2_with fail
    refine (HP.out _ hT0).mono ?_
    rintro e w1 ⟨rfl, hb1⟩
    have q1 := UBox.keep q0 hb1
    have hbw1 := below_on hb0 hb1
    clear hb0 q0 hb1 hT0
    unfold resV urlV uCells
    obtain ⟨x, hx⟩ : ∃ x, getU (Urp.parse u.rest) = x := ⟨_, rfl⟩
    obtain ⟨e, he⟩ : ∃ e, errU (Urp.parse u.rest) = e := ⟨_, rfl⟩
    rw [hx, he]
    have HX := Lib.hid hx
    clear hx he
    go_wp2_with fail
    refine (netV_any _ _ _ _ _ _ _ _ _ _).mono ?_
    rintro e2 w2 ⟨rfl, hb2⟩
    have hq : ∀ o : Obj, UBox (w1.alloc o) (w.heap.size + 1) Urp.zeroU := fun o => q1.alloc o
    have q2 := (hq _).keep hb2
    have qx := (UBox.new w1 x).keep hb2
    have hbw2 := below_on (hbw1.alloc hbw1.size _) hb2
    clear hb2 hq q1
    have c0 := qx.c0; have c1 := qx.c1; have c2 := qx.c2; have c3 := qx.c3; have c4 := qx.c4; have c5 := qx.c5; have c6 := qx.c6; have c7 := qx.c7; have c8 := qx.c8
    have d0 := q2.c0; have d1 := q2.c1; have d2 := q2.c2; have d3 := q2.c3; have d4 := q2.c4; have d5 := q2.c5; have d6 := q2.c6; have d7 := q2.c7; have d8 := q2.c8
    have f := q2.fr
    cases hn : Urp.netB (bA x.scheme).data.toList with
    | false =>
      have HN := Lib.hid hn
      clear hn
      go_wp2_with fail
      refine bodyPost_ret (results_url rfl _ _ rfl (q2.set Urp.zeroU)) rfl ⟨?_, below_set9 hbw2 (by omega) Urp.zeroU⟩
      rw [← HO.out, netU_no (by rw [HX.out]; exact HN.out)]; rfl
    | true =>
      have HN := Lib.hid hn
      clear hn
      go_wp2_with fail
      refine bodyPost_ret (results_url rfl _ _ rfl (q2.set x)) rfl ⟨?_, below_set9 hbw2 (by omega) x⟩
      rw [← HO.out, netU_yes (by rw [HX.out]; exact HN.out), HX.out]; rfl
  · have hs' : (u.scheme == [98, 108, 111, 98]) = false := beq_eq_false_iff_ne.2 hs
    have hin : Urp.innerU u = none := by unfold Urp.innerU; rw [if_neg hs]
    rw [hin]
    have HB := Lib.hid hb0
    have HQ := Lib.hid q0
    clear hs hin hb0 q0
    unfold urlV uCells
    go_enter Tryz.func18, Tryz.ntmps18
    go_wp2_with fail
    exact bodyPost_ret (results_url rfl _ _ rfl HQ.out) rfl ⟨rfl, HB.out⟩

theorem restB_about (rest : List UInt8) : Urp.restB Urp.sAbout rest = (rest == Urp.sBlank || rest == Urp.sSrcdoc) := by unfold Urp.restB; rw [if_pos rfl]
theorem restB_blob (rest : List UInt8) : Urp.restB Urp.sBlob rest = ((Urp.netU rest).isSome || Urp.begB Urp.sNull rest) := by unfold Urp.restB; rw [if_neg (by decide), if_pos rfl]
theorem restB_else (s rest : List UInt8) (h1 : ¬ s = Urp.sAbout) (h2 : ¬ s = Urp.sBlob) : Urp.restB s rest = true := by unfold Urp.restB; rw [if_neg h1, if_neg h2]
set_option maxHeartbeats 1000000 in
theorem isRest_of (s rest : List UInt8) (w : World) (hT : Tab8 w) (hP : ParsesAt rest) : Calls Tryz.prog 45 #[.string (bA s), .string (bA rest)] w fun e w' => e = .returned (.bool (Urp.restB s rest)) ∧ Below w.heap.size w w' := by
  by_cases h1 : s = Urp.sAbout
  · subst h1
    rw [restB_about]
    have h1' : (bA Urp.sAbout).toList = [97, 98, 111, 117, 116] := by rw [Lib.toList_data]; rfl
    go_enter Tryz.func45, Tryz.ntmps45
    go_wp2
    all_goals
      go_ret
      refine ⟨Oct.ret_bool ?_, Below.refl _ _⟩
      first
        | rfl
        | (rename_i h; rw [h]; rfl)
  · have h1' : (s == [97, 98, 111, 117, 116]) = false := beq_eq_false_iff_ne.2 h1
    by_cases h2 : s = Urp.sBlob
    · have h2' : (s == [98, 108, 111, 98]) = true := beq_iff_eq.2 h2
      have hin := inner_of ⟨s, Hst.none_, 0, [], false, [], rest⟩ w hT hP
      have hi2 : Urp.innerU ⟨s, Hst.none_, 0, [], false, [], rest⟩ = Urp.netU rest := by unfold Urp.innerU; rw [if_pos h2]
      rw [hi2] at hin
      unfold urlV uCells inV at hin
      have hre : Urp.restB s rest = ((Urp.netU rest).isSome || Urp.begB Urp.sNull rest) := by rw [h2]; exact restB_blob rest
      rw [hre]
      clear h1 h2 hi2 hre
      unfold urlV uCells at hin
      obtain ⟨x, hx⟩ : ∃ x, (Urp.netU rest).getD Urp.zeroU = x := ⟨_, rfl⟩
      rw [hx] at hin
      clear hx
      cases hs : (Urp.netU rest).isSome with
      | true =>
        rw [hs] at hin
        have HI := Lib.hid hin
        clear hin hs
        go_enter Tryz.func45, Tryz.ntmps45
        go_wp2_with fail
        refine HI.out.mono ?_
        rintro e w1 ⟨rfl, hb1⟩
        go_wp2_with fail
        go_ret
        exact ⟨rfl, hb1.alloc hb1.size _⟩
      | false =>
        rw [hs] at hin
        have HI := Lib.hid hin
        clear hin hs
        go_enter Tryz.func45, Tryz.ntmps45
        go_wp2_with fail
        refine HI.out.mono ?_
        rintro e w1 ⟨rfl, hb1⟩
        go_wp2_with fail
        refine (prefix_any _ _ _).mono ?_
        rintro e2 w2 ⟨rfl, rfl⟩
        go_wp2_with fail
        go_ret
        exact ⟨rfl, hb1.alloc hb1.size _⟩
    · have h2' : (s == [98, 108, 111, 98]) = false := beq_eq_false_iff_ne.2 h2
      rw [restB_else s rest h1 h2]
      clear h1 h2
      go_enter Tryz.func45, Tryz.ntmps45
      go_wp2_with fail
      go_ret
      exact ⟨rfl, Below.refl _ _⟩
end Go.Proofs.YtehjnidggnfbfaaGreatDoor
