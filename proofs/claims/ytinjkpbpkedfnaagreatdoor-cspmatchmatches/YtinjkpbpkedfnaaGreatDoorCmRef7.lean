/- The contract of the document's Match. -/
import Derived.Test.YtinjkpbpkedfnaaGreatDoorCmRef6
namespace Go.Proofs.YtinjkpbpkedfnaaGreatDoor
open Go.RowKit

/-- An origin whose host is one, and not too great. -/
structure FitO (o : Orig) : Prop where
  a0 : 0 ≤ o.host.addr
  a1 : o.host.addr ≤ 4294967295
  len : (textL o.host).length ≤ 100000000
set_option maxHeartbeats 8000000 in
set_option maxRecDepth 20000 in
theorem rmatch_any (s : Cm.Src) (o me : Orig) (w : World) (hT : Tab w) (hF : FitO o) (h1 : s.host.length ≤ 100000000) :
    Calls Tryz.prog 16 #[srcV s, origV o, origV me] w fun e w' => e = .returned (.bool (Cm.matchB s o me)) ∧ Below w.heap.size w w' := by
  have HX := Lib.hid (RdyM.mk0 w s o me hT)
  have HT := Lib.hid (fun W => rtog_any s.scheme o.scheme W)
  have HS := Lib.hid (fun W => rself_any o me W)
  have HH := Lib.hid (fun W hW => rhosted_any s o me W hW hF.a0 hF.a1 h1 hF.len)
  clear hT hF h1
  have hm : Cm.matchB s o me = if o.op then false else if s.kind = 2 then true else if s.kind = 3 then Cm.tog s.scheme o.scheme else if s.kind = 1 then Cm.selfB o me
    else if s.kind = 4 then Cm.schemeB s o me && (Cm.hostB s.host (textL o.host) && Cm.portB s o) else false := rfl
  rw [hm]
  obtain ⟨t1, e1⟩ : ∃ b, Cm.tog s.scheme o.scheme = b := ⟨_, rfl⟩
  obtain ⟨t2, e2⟩ : ∃ b, Cm.selfB o me = b := ⟨_, rfl⟩
  obtain ⟨t3, e3⟩ : ∃ b, (Cm.schemeB s o me && (Cm.hostB s.host (textL o.host) && Cm.portB s o)) = b := ⟨_, rfl⟩
  rw [e1] at HT ⊢; rw [e2] at HS ⊢; rw [e3] at HH ⊢
  clear e1 e2 e3 hm
  unfold srcV origV at *
  unfold srcC oCells at *
  have hways : o.op = true ∨ (o.op = false ∧ s.kind = 2) ∨ (o.op = false ∧ s.kind = 3) ∨ (o.op = false ∧ s.kind = 1) ∨ (o.op = false ∧ s.kind = 4) ∨ (o.op = false ∧ s.kind ≠ 2 ∧ s.kind ≠ 3 ∧ s.kind ≠ 1 ∧ s.kind ≠ 4) := by
    cases o.op
    · by_cases h2 : s.kind = 2; · simp [h2]
      by_cases h3 : s.kind = 3; · simp [h3]
      by_cases h1 : s.kind = 1; · simp [h1]
      by_cases h4 : s.kind = 4; · simp [h4]
      simp [*]
    · simp
  rcases hways with ho | ⟨ho, hk⟩ | ⟨ho, hk⟩ | ⟨ho, hk⟩ | ⟨ho, hk⟩ | ⟨ho, k2, k3, k1, k4⟩
  · rw [ho] at HX HS HH ⊢
    rw [if_pos rfl]
    have hbel := HX.out.bel
    clear ho HT HS HH HX
    go_enter Tryz.func16, Tryz.ntmps16
    go_wp2_with fail
    go_ret
    exact ⟨rfl, hbel⟩
  · rw [ho, hk] at HX HH ⊢
    rw [ho] at HS
    rw [if_neg (by simp), if_pos rfl]
    have hbel := HX.out.bel
    clear ho hk HT HS HH HX
    go_enter Tryz.func16, Tryz.ntmps16
    go_wp2_with fail
    go_ret
    exact ⟨rfl, hbel⟩
  · rw [ho, hk] at HX HH ⊢
    rw [ho] at HS
    rw [if_neg (by simp), if_neg (by decide), if_pos rfl]
    have hbel := HX.out.bel
    clear ho hk HS HH HX
    go_enter Tryz.func16, Tryz.ntmps16
    go_wp2_with fail
    refine (HT.out _).mono ?_
    rintro e w2 ⟨rfl, rfl⟩
    go_wp2_with fail
    go_ret
    exact ⟨rfl, hbel⟩
  · rw [ho, hk] at HX HH ⊢
    rw [ho] at HS
    rw [if_neg (by simp), if_neg (by decide), if_neg (by decide), if_pos rfl]
    have hbel := HX.out.bel
    clear ho hk HT HH HX
    go_enter Tryz.func16, Tryz.ntmps16
    go_wp2_with fail
    refine (HS.out _).mono ?_
    rintro e w2 ⟨rfl, hb2⟩
    go_wp2_with fail
    go_ret
    exact ⟨rfl, Below.onto hbel hb2⟩
  · rw [ho, hk] at HX HH ⊢
    rw [ho] at HS
    rw [if_neg (by simp), if_neg (by decide), if_neg (by decide), if_neg (by decide), if_pos rfl]
    clear ho hk HT HS
    go_enter Tryz.func16, Tryz.ntmps16
    go_wp2_with fail
    refine (HH.out _ HX.out.tab).mono ?_
    rintro e w2 ⟨rfl, hb2⟩
    go_wp2_with fail
    go_ret
    exact ⟨rfl, Below.onto HX.out.bel hb2⟩
  · rw [ho] at HX HS HH ⊢
    rw [if_neg (by simp), if_neg k2, if_neg k3, if_neg k1, if_neg k4]
    have q2 : (s.kind == 2) = false := beq_eq_false_iff_ne.2 k2
    have q3 : (s.kind == 3) = false := beq_eq_false_iff_ne.2 k3
    have q1 : (s.kind == 1) = false := beq_eq_false_iff_ne.2 k1
    have q4 : (s.kind == 4) = false := beq_eq_false_iff_ne.2 k4
    have hbel := HX.out.bel
    clear ho k1 k2 k3 k4 HT HS HH HX
    go_enter Tryz.func16, Tryz.ntmps16
    go_wp2_with fail
    go_ret
    exact ⟨rfl, hbel⟩
end Go.Proofs.YtinjkpbpkedfnaaGreatDoor
