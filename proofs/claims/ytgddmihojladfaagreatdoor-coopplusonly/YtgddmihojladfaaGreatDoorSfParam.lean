/- The contract of a reader's param. -/
import Derived.Test.YtgddmihojladfaaGreatDoorSfValue
namespace Go.Proofs.YtgddmihojladfaaGreatDoor
open Go.RowKit Go.Shelf

/-- One parameter, behind the blanks. -/
def parOf (s : List UInt8) : Option (Sf.Par × List UInt8) :=
  match Sf.keyOf s with
  | none => none
  | some (k, r) =>
    if r.headD 0 = 61 then
      (match Sf.value (r.drop 1) with
       | none => none
       | some (v, r') => some (⟨k, v.kind, v.n, v.text⟩, r'))
    else some (⟨k, 6, 1, []⟩, r)
theorem one_par (s : List UInt8) : Sf.one s = parOf (Sf.blk s) := rfl
def mapP (o : Option (Sf.Par × List UInt8)) : Option (Value × List UInt8) := o.map fun x => (parV x.1, x.2)
def zP : Array Value := #[.string ⟨#[]⟩, .int .i64 0, .int .i64 0, .string ⟨#[]⟩]
theorem par_no {s : List UInt8} (h : mapK (Sf.keyOf s) = none) : parOf s = none := by
  cases hk : Sf.keyOf s with
  | none => unfold parOf; rw [hk]
  | some x => rw [hk] at h; cases h
theorem key_split {s : List UInt8} {v : Value} {r : List UInt8} (h : mapK (Sf.keyOf s) = some (v, r)) : ∃ k, v = .string (bA k) ∧ Sf.keyOf s = some (k, r) := by
  cases hk : Sf.keyOf s with
  | none => rw [hk] at h; cases h
  | some x => rw [hk] at h; simp only [mapK, Option.map_some, Option.some.injEq, Prod.mk.injEq] at h; exact ⟨x.1, h.1.symm, by rw [← h.2]⟩
theorem val_split {o : Option (Sf.Par × List UInt8)} {v : Value} {r : List UInt8} (h : mapV o = some (v, r)) : ∃ x, v = valV x ∧ o = some (x, r) := by
  cases o with
  | none => cases h
  | some x => simp only [mapV, Option.map_some, Option.some.injEq, Prod.mk.injEq] at h; exact ⟨x.1, h.1.symm, by rw [← h.2]⟩
theorem map_no {o : Option (Sf.Par × List UInt8)} (h : mapV o = none) : o = none := by cases o; rfl; cases h
theorem parOf_plain {s k r : List UInt8} (h : Sf.keyOf s = some (k, r)) (hr : r.head? ≠ some 61) : parOf s = some (⟨k, 6, 1, []⟩, r) := by
  unfold parOf; rw [h]
  have : r.headD 0 ≠ 61 := by cases r <;> simp_all
  simp only [if_neg this]
theorem parOf_val {s k r : List UInt8} (h : Sf.keyOf s = some (k, 61 :: r)) : parOf s = match Sf.value r with | none => none | some (v, r') => some (⟨k, v.kind, v.n, v.text⟩, r') := by
  unfold parOf; rw [h]
  simp only [List.headD_cons, if_true]
  rfl
theorem keyOf_len {s k r : List UInt8} (h : Sf.keyOf s = some (k, r)) : r.length < s.length := by
  obtain ⟨h1, h2, _⟩ := Sf.keyOf_ways h
  have h3 := (Sf.keyB_all h2).2
  have : 0 < k.length := List.length_pos_iff.2 h3
  rw [h1]; simp; omega
theorem below_g {a b : World} (h : Below a.heap.size a b) (row : Option Nat) : a.grownBy b row := ⟨h.os, h.tape, h.output, h.size, fun k hk _ => h.block k hk⟩

set_option maxHeartbeats 1000000 in
theorem param_any (b : Nat) (s : List UInt8) (w : World) (hR : Rd b s w) (hs : s.length ≤ 140737488355300) : Calls Tryz.prog 100 #[.pointer (some ⟨b, 0, none⟩)] w (Got b w (mapP (parOf s))) := by
  have hlt := hR.lt
  have hR0 := hR.alloc (.cells zP 72)
  have H1 := Lib.hid (key_any b s _ hR0 (by omega))
  have hb := Lib.hid (CBox.new w 72 zP)
  obtain ⟨o, ho⟩ : ∃ o, mapP (parOf s) = o := ⟨_, rfl⟩
  rw [ho]
  have HO := Lib.hid ho
  clear hR hR0 ho
  go_enter Tryz.func100, Tryz.ntmps100
  go_wp2_with fail
  refine H1.out.mono ?_
  rintro e w1 ⟨hg1, ⟨v, r, hk, rfl, hr1⟩ | ⟨hk, rfl⟩⟩
  · obtain ⟨k, rfl, hk'⟩ := key_split hk
    have hrl := keyOf_len hk'
    have HK := Lib.hid hk'
    clear hk hk' H1
    go_wp2_with fail
    refine (truthV_any 1 w1).mono ?_
    rintro e w2 ⟨rfl, hb2⟩
    have hg2 := g_trans (World.grownBy_alloc w _ _) (g_trans hg1 (below_g hb2 _))
    have hr2 := hr1.kept (below_g hb2 none) (by simp)
    have hbx := (hb.out.kept hg1 (by simp; omega)).keep hb2
    have hv2 := CBox.new w2 111 (vC (Sf.kv 6 1 []))
    have H2 := Lib.hid (skip_all b 61 61 rfl r _ (hr2.alloc (.cells (vC (Sf.kv 6 1 [])) 111)))
    have hsz : w.heap.size < w2.heap.size := hbx.lt
    have HB := Lib.hid (hbx.alloc (.cells (vC (Sf.kv 6 1 [])) 111))
    have HV := Lib.hid hv2
    have HG := Lib.hid (g_alloc hg2 (.cells (vC (Sf.kv 6 1 [])) 111))
    clear hr2 hg2 hbx hv2 hb2 hg1 hr1 hb
    unfold valV vC
    go_wp2_with fail
    refine H2.out.mono ?_
    rintro e w3 ⟨g, r', rfl, hr3, hg3, hs3⟩
    have HB3 := Lib.hid (HB.out.kept hg3 (by simp; omega))
    have HV3 := Lib.hid (HV.out.kept hg3 (by simp; omega))
    have HG3 := Lib.hid (g_trans HG.out hg3)
    clear hg3 HB HV HG H2
    cases g with
    | false =>
      have hx : r' = r ∧ r.head? ≠ some 61 := by
        rcases hs3.out with ⟨h, _⟩ | ⟨_, h1, h2⟩
        · cases h
        · exact ⟨h1, h2⟩
      obtain ⟨rfl, hx2⟩ := hx
      have hn : o = some (parV ⟨k, 6, 1, []⟩, r') := by rw [← HO.out, parOf_plain HK.out hx2]; rfl
      have HN := Lib.hid hn
      obtain ⟨c0, c1, c2, c3, f0, f1, f2, f3⟩ := HB3.out.all4
      obtain ⟨d0, d1, d2, _, _, _⟩ := HV3.out.all3
      clear hn hx2 hs3
      go_wp2_with fail
      rw [HN.out]
      refine bodyPost_ret (results_par (x := ⟨k, 6, 1, []⟩) rfl _ _ rfl (HB3.out.set4 _ _ _ _)) rfl (Got.ok ?_ ?_)
      · exact g_set4 HG3.out _ _ _ _ (.inl (Nat.le_refl _))
      · exact hr3.other4 (by omega) _ _ _ _
    | true =>
      have hx : r = 61 :: r' := by
        rcases hs3.out with ⟨_, h⟩ | ⟨h, _⟩
        · exact h
        · cases h
      subst hx
      have H4 := Lib.hid (value_any b r' w3 hr3 (by simp at hrl; omega))
      clear hs3 hr3
      go_wp2_with fail
      refine H4.out.mono ?_
      rintro e w4 ⟨hg4, ⟨v, r2, hv, rfl, hr4⟩ | ⟨hv, rfl⟩⟩
      · obtain ⟨x, rfl, hv'⟩ := val_split hv
        have hn : o = some (parV ⟨k, x.kind, x.n, x.text⟩, r2) := by rw [← HO.out, parOf_val HK.out, hv']; rfl
        have HN := Lib.hid hn
        have HB4 := Lib.hid (HB3.out.kept hg4 (by simp; omega))
        have HV4 := Lib.hid (HV3.out.kept hg4 (by simp; omega))
        have HG4 := Lib.hid (g_trans HG3.out hg4)
        obtain ⟨c0, c1, c2, c3, f0, f1, f2, f3⟩ := HB4.out.all4
        obtain ⟨d0, d1, d2, e0, e1, e2⟩ := HV4.out.all3
        have hne : ¬ w2.heap.size = w.heap.size := by omega
        have hne' : ¬ w.heap.size = w2.heap.size := by omega
        clear hn hv hv' hg4 HB3 HV3 HG3 H4
        unfold valV vC
        go_wp2_with fail
        rw [HN.out]
        refine bodyPost_ret (results_par (x := ⟨k, x.kind, x.n, x.text⟩) rfl _ _ rfl ((HB4.out.other3 hne _ _ _).set4 _ _ _ _)) rfl (Got.ok ?_ ?_)
        · exact g_set4 (g_set3 HG4.out _ _ _ (.inl (by omega))) _ _ _ _ (.inl (Nat.le_refl _))
        · exact (hr4.other3 (by omega) _ _ _).other4 (by omega) _ _ _ _
      · have hn : o = none := by rw [← HO.out, parOf_val HK.out, map_no hv]; rfl
        have HN := Lib.hid hn
        clear hn hv
        go_wp2_with fail
        refine ⟨rfl, ?_⟩
        rw [HN.out]
        exact Got.no (g_trans HG3.out hg4)
  · have hn : o = none := by rw [← HO.out, par_no hk]; rfl
    have HN := Lib.hid hn
    clear hn hk
    go_wp2_with fail
    refine ⟨rfl, ?_⟩
    rw [HN.out]
    exact Got.no (g_trans (World.grownBy_alloc w _ _) hg1)
end Go.Proofs.YtgddmihojladfaaGreatDoor
