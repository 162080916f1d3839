/- The contracts of the statements' Small and of. -/
import Derived.Test.YtehjnidggnfbfaaGreatDoorOrigSite
namespace Go.Proofs.YtehjnidggnfbfaaGreatDoor
open Go.RowKit

def smallB (sx : List (List UInt8)) : Bool := decide (sx.length ≤ 100) && sx.all fun s => decide (s.length ≤ 1000)
theorem few_of {sx : List (List UInt8)} (h : smallB sx = true) : Few sx := by
  unfold smallB at h
  simp only [Bool.and_eq_true, decide_eq_true_eq, List.all_eq_true] at h
  exact ⟨h.1, h.2⟩

set_option maxHeartbeats 1000000 in
theorem small_any (A : Option Addr) (c : Nat) (sx : List (List UInt8)) (w : World) (hsl : sx.length ≤ maxLen) (hsz : ∀ s ∈ sx, s.length ≤ maxLen) (hA : Seen w A sx) :
    Calls Tryz.prog 10 #[.slice A sx.length c] w fun e w' => e = .returned (.bool (smallB sx)) ∧ w = w' := by
  unfold maxLen at hsl
  have HSZ := Lib.hid hsz
  have HA := Lib.hid hA
  clear hsz hA
  by_cases h1 : 100 < sx.length
  · have h1' : (100 : Int) < (sx.length : Int) := by omega
    have hr : smallB sx = false := by unfold smallB; rw [decide_eq_false (by omega)]; rfl
    rw [hr]
    clear hr
    go_enter Tryz.func10, Tryz.ntmps10
    go_wp2_with fail
    go_ret
    exact ⟨rfl, rfl⟩
  have h1' : sx.length ≤ 100 := by omega
  obtain ⟨r, hr⟩ : ∃ r, smallB sx = r := ⟨_, rfl⟩
  rw [hr]
  have HR := Lib.hid hr
  clear h1 hr
  go_enter Tryz.func10, Tryz.ntmps10
  go_wp2_with fail
  go_loop [3] (fun i => ∃ k : Nat, k ≤ sx.length ∧ i = .int .i64 k ∧ Hid (∀ s ∈ sx.take k, s.length ≤ 1000)) (fun i => sx.length - (intOf i).toNat)
  case atStart => exact ⟨0, Nat.zero_le _, rfl, fun _ h => by simp at h⟩
  case round =>
    obtain ⟨k, hk, rfl, hin⟩ := hrel
    by_cases hlt : k < sx.length
    · obtain ⟨ad, rfl, _, hac⟩ := HA.out (by omega)
      have hce := hac k hlt
      have hsm := HSZ.out _ (List.getElem_mem hlt)
      have hme := List.getElem_mem hlt
      obtain ⟨p, hp⟩ : ∃ p, sx[k] = p := ⟨_, rfl⟩
      rw [hp] at hce hsm hme
      have hzl := size_list p
      obtain ⟨z, hz⟩ : ∃ z : ByteArray, z = ⟨p.toArray⟩ := ⟨_, rfl⟩
      unfold Oct.strV at hce
      unfold maxLen at hsm
      rw [← hz] at hce hzl
      have HP := Lib.hid hp
      have HZ := Lib.hid hzl
      have HM := Lib.hid hme
      have hzm : z.size ≤ 9223372036854775807 := by omega
      clear hp hac hz hzl hsm hme
      by_cases hbig : 1000 < z.size
      · have hbig' : (1000 : Int) < (z.size : Int) := by omega
        have hrf : r = false := by
          rw [← HR.out]
          cases e : smallB sx
          · rfl
          · have h2 := (few_of e).each _ HM.out
            have h3 := HZ.out
            omega
        subst hrf
        go_wp2_with fail
        go_ret
        exact ⟨rfl, rfl⟩
      · have hbig' : z.size ≤ 1000 := by omega
        go_wp2_with fail
        go_round
        case rel =>
          refine ⟨k + 1, by omega, by go_num, ?_⟩
          intro s hs
          rw [List.take_succ_eq_append_getElem hlt] at hs
          rcases List.mem_append.1 hs with hs | hs
          · exact hin.out s hs
          · have e1 : s = p := by rw [← HP.out]; simpa using hs
            have := HZ.out
            rw [e1]; omega
        case measure => simp [intOf]; omega
    · have hall : ∀ s ∈ sx, s.length ≤ 1000 := by have := hin.out; rwa [List.take_of_length_le (by omega)] at this
      have hrt : r = true := by
        rw [← HR.out]
        unfold smallB
        simp only [Bool.and_eq_true, decide_eq_true_eq, List.all_eq_true]
        exact ⟨h1', hall⟩
      subst hrt
      clear hall hin
      go_wp2_with fail
      go_ret
      exact ⟨rfl, rfl⟩

set_option maxHeartbeats 1000000 in
theorem lof_any (l : List UInt8) (id : Int) (w : World) (hl : l.length ≤ 4000) (hT : Tab8 w) : Calls Tryz.prog 17 #[.string (bA l), .int .i64 id] w fun e w' => e = .returned (origV (ofO (getU (Urp.parse l)) id)) ∧ Below w.heap.size w w' := by
  have hb0 : Below w.heap.size w (w.alloc (.cells (oCells zeroO) 29)) := (Below.refl _ w).alloc (Nat.le_refl _) _
  have HT8 := Lib.hid hT
  have HP := Lib.hid (uparse_any l _ hl (hT.below hb0))
  have q0 := OBox.new w zeroO
  have HQ := Lib.hid q0
  have HB := Lib.hid hb0
  unfold resV at HP
  obtain ⟨u, hu⟩ : ∃ u, getU (Urp.parse l) = u := ⟨_, rfl⟩
  obtain ⟨er, her⟩ : ∃ u, errU (Urp.parse l) = u := ⟨_, rfl⟩
  rw [hu] at HP ⊢
  rw [her] at HP
  have hrl : u.rest.length ≤ 4000 := by
    rw [← hu]
    exact rest_len l hl
  obtain ⟨o, ho⟩ : ∃ o, ofO u id = o := ⟨_, rfl⟩
  have HO := Lib.hid (fun W h => of_any u id W hrl h)
  rw [ho] at HO ⊢
  clear hT hb0 q0 hu her hrl ho
  unfold origV urlV uCells at HO
  unfold oCells at HO
  unfold urlV uCells at HP
  unfold oCells at HP HQ HB
  go_enter Tryz.func17, Tryz.ntmps17
  go_wp2_with fail
  refine HP.out.mono ?_
  rintro e w1 ⟨rfl, hb1⟩
  have b1 := below_on HB.out hb1
  have q1 := OBox.keep HQ.out hb1
  have b2 := b1.alloc (o := .cells (uCells u) 26) b1.size
  have q2 := q1.alloc (.cells (uCells u) 26)
  have HT2 := Lib.hid (HT8.out.below b2)
  clear hb1 b1 q1
  go_wp2_with fail
  refine (HO.out _ HT2.out).mono ?_
  rintro e w3 ⟨rfl, hb3⟩
  have b3 := below_on b2 hb3
  have o3 := q2.keep hb3
  clear hb3 b2 q2
  have c0 := o3.c0; have c1 := o3.c1; have c2 := o3.c2; have c3 := o3.c3; have c4 := o3.c4; have c5 := o3.c5; have c6 := o3.c6
  have f := o3.fr
  go_wp2_with fail
  exact bodyPost_ret (results_orig rfl _ _ rfl (o3.set o)) rfl ⟨rfl, below_set7 b3 (Nat.le_refl _) o⟩
end Go.Proofs.YtehjnidggnfbfaaGreatDoor
