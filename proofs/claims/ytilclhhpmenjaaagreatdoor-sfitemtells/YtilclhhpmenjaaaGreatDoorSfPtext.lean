/- The contract of sfitem.paramText. -/
import Derived.Test.YtilclhhpmenjaaaGreatDoorSfWrit
import Derived.Deep.RegionHeld3
namespace Go.Proofs.YtilclhhpmenjaaaGreatDoor
open Go.RowKit Go.Shelf Go.Maps Go.Deep

theorem keyB_of {s k : List UInt8} (h : Sf.keyOf s = some (k, [])) : Sf.keyB s = true := by
  obtain ⟨h1, h2, _⟩ := Sf.keyOf_ways h
  rw [h1, List.append_nil]; exact h2
theorem keyB_back {s : List UInt8} (h : Sf.keyB s = true) : Sf.keyOf s = some (s, []) := by
  have := Sf.keyOf_back h (r := []) (.inl rfl)
  rwa [List.append_nil] at this
theorem ptext_no1 {p : Sf.Par} (h : Sf.keyB p.key = false) : Sf.ptext p = none := by unfold Sf.ptext; rw [h]; rfl
theorem ptext_no2 {p : Sf.Par} (h : Sf.vtext p.kind p.n p.text = none) : Sf.ptext p = none := by unfold Sf.ptext; rw [h]; split <;> rfl
theorem ptext_one {p : Sf.Par} {v : List UInt8} (hk : Sf.keyB p.key = true) (h : Sf.vtext p.kind p.n p.text = some v) (h1 : p.kind = 6 ∧ p.n = 1) : Sf.ptext p = some (59 :: p.key) := by
  unfold Sf.ptext; rw [hk, h]; simp [h1]
theorem ptext_two {p : Sf.Par} {v : List UInt8} (hk : Sf.keyB p.key = true) (h : Sf.vtext p.kind p.n p.text = some v) (h1 : ¬ (p.kind = 6 ∧ p.n = 1)) : Sf.ptext p = some (59 :: (p.key ++ 61 :: v)) := by
  unfold Sf.ptext; rw [hk, h]; simp only [if_true, Option.map_some, if_neg h1]
theorem eqV_one {p : Sf.Par} {v : List UInt8} (h : Sf.vtext p.kind p.n p.text = some v) : eqV (Sf.kv p.kind p.n p.text) (Sf.kv 6 1 []) = decide (p.kind = 6 ∧ p.n = 1) := by
  obtain ⟨_, _, h3, _, _⟩ := Sf.vtext_num h
  rw [Bool.eq_iff_iff, decide_eq_true_eq]
  simp only [eqV, Sf.kv, Bool.and_eq_true, beq_iff_eq]
  constructor
  · rintro ⟨h1, h2, _⟩; exact ⟨h1, h2⟩
  · rintro ⟨h1, h2⟩; exact ⟨h1, h2, h3 (by rw [h1]; rfl)⟩
theorem vtext_len {k n : Int} {t v : List UInt8} (h : Sf.vtext k n t = some v) (ht : t.length ≤ 10000) : v.length ≤ 30000 := by
  obtain ⟨h1, h2, _, _, _⟩ := Sf.vtext_num h
  unfold Sf.maxN at h1 h2
  rw [vtext_raw h]
  have e1 := itoa_short n (by omega) (by omega)
  have e2 := esc_len t
  unfold rawT
  split
  · omega
  split
  · unfold Sf.decT
    have e3 := Sf.dec_len (n.natAbs / 1000) 20 (by omega) (by omega)
    have e4 := (Sf.frac_good (f := n.natAbs % 1000) (by omega)).2.2.1
    simp only [List.length_append, List.length_cons]
    split <;> simp <;> omega
  split
  · simp; omega
  split
  · omega
  split
  · simp; omega
  split
  · simp; omega
  · simp
/-- A parameter that is not too great. -/
structure SmallP (p : Sf.Par) : Prop where
  n0 : -9223372036854775808 ≤ p.n
  n1 : p.n ≤ 9223372036854775807
  key : p.key.length ≤ 10000
  text : p.text.length ≤ 10000
structure RdyT (w : World) (p : Sf.Par) (Bv : Nat) (W : World) : Prop where
  b : Below w.heap.size w W
  pbox : CBox W w.heap.size 44 (pC p)
  vbox : CBox W Bv 64 (vC (Sf.kv p.kind p.n p.text))
theorem RdyT.all {w : World} {p : Sf.Par} {Bv : Nat} {W : World} (h : RdyT w p Bv W) : W.cell? ⟨Bv, 0, none⟩ = some (.int .i64 p.kind) ∧ W.cell? ⟨Bv, 1, none⟩ = some (.int .i64 p.n) ∧ W.cell? ⟨Bv, 2, none⟩ = some (.string (bA p.text)) ∧ RdyT w p Bv W := ⟨h.vbox.c 0, h.vbox.c 1, h.vbox.c 2, h⟩
theorem RdyT.on {w : World} {p : Sf.Par} {Bv : Nat} {W W' : World} (h : RdyT w p Bv W) (hb : Below W.heap.size W W') : RdyT w p Bv W' := ⟨h.b.trans (hb.mono h.b.size), h.pbox.keep hb, h.vbox.keep hb⟩
theorem RdyT.drew {w : World} {p : Sf.Par} {Bv : Nat} {W : World} (h : RdyT w p Bv W) : RdyT w p Bv W.drew := ⟨h.b.drew, h.pbox, h.vbox⟩

set_option maxHeartbeats 2000000 in
set_option maxRecDepth 20000 in
theorem paramText_any (p : Sf.Par) (w : World) (hp : SmallP p) (hT : Tab w) (hM : TabM w) :
    Calls Tryz.prog 42 #[.agg #[.string (bA p.key), .int .i64 p.kind, .int .i64 p.n, .string (bA p.text)]] w fun e w' => e = .returned (writV (Sf.ptext p)) ∧ Below w.heap.size w w' := by
  have hb0 : Below w.heap.size w ((w.alloc (.cells (pC p) 44)).alloc (.cells (vC (Sf.kv p.kind p.n p.text)) 64)) := below_al ((Below.refl _ _).alloc (Nat.le_refl _) _) _
  have hsz : (w.alloc (.cells (pC p) 44)).heap.size = w.heap.size + 1 := by simp
  have hr0 : RdyT w p (w.heap.size + 1) ((w.alloc (.cells (pC p) 44)).alloc (.cells (vC (Sf.kv p.kind p.n p.text)) 64)) := ⟨hb0, (CBox.new w _ _).alloc _, by rw [← hsz]; exact CBox.new _ _ _⟩
  have H1 := Lib.hid (written_any p.kind p.n p.text _ hp.n0 hp.n1 hp.text (hT.below hb0) (hM.below hb0))
  have hkl := hp.key
  have htl := hp.text
  have HVL := Lib.hid (fun v (h : Sf.vtext p.kind p.n p.text = some v) => vtext_len h htl)
  clear hb0 hsz hT hM hp
  go_enter Tryz.func42, Tryz.ntmps42
  go_wp2_with fail
  refine H1.out.mono ?_
  rintro e w1 ⟨rfl, hb1⟩
  have hr1 := hr0.on hb1
  have H2 := Lib.hid (fun W => key_is_any p.key W (by omega))
  have c0 : w1.cell? ⟨w.heap.size, 0, none⟩ = some (.string (bA p.key)) := hr1.pbox.c 0
  have HR1 := Lib.hid hr1
  clear hb1 hr0 hr1 H1
  unfold writV
  cases hv : Sf.vtext p.kind p.n p.text with
  | none =>
    have HN := Lib.hid (ptext_no2 hv)
    clear hv
    go_wp2_with fail
    refine (H2.out _).mono ?_
    rintro e w2 ⟨hb2, ⟨k, r, ho, rfl⟩ | ⟨ho, rfl⟩⟩
    all_goals
      have HB2 := Lib.hid (HR1.out.on hb2).b
      clear hb2 ho
      go_wp2_with fail
      go_ret2
      rw [HN.out]
      exact ⟨rfl, HB2.out⟩
  | some v =>
    have hvl := HVL.out v hv
    have HV := Lib.hid hv
    clear hv HVL
    go_wp2_with fail
    refine (H2.out _).mono ?_
    rintro e w2 ⟨hb2, ⟨k, r, ho, rfl⟩ | ⟨ho, rfl⟩⟩
    · cases r with
      | cons c r =>
        have hk : Sf.keyB p.key = false := by
          cases hk : Sf.keyB p.key with
          | false => rfl
          | true => rw [keyB_back hk] at ho; cases ho
        have HN := Lib.hid (ptext_no1 hk)
        have HB2 := Lib.hid (HR1.out.on hb2).b
        clear hb2 ho hk
        go_wp2_with fail
        go_ret2
        rw [HN.out]
        exact ⟨rfl, HB2.out⟩
      | nil =>
        have hk := keyB_of ho
        have HK := Lib.hid hk
        have hr2 := HR1.out.on hb2
        have heq : ∀ W : World, (Op.equalIn 10000 64 (.agg #[.int .i64 p.kind, .int .i64 p.n, .string (bA p.text)]) (.agg #[.int .i64 6, .int .i64 1, .string (bA [])])).run Tryz.prog W = .ok (decide (p.kind = 6 ∧ p.n = 1)) W := fun W => by rw [← eqV_one HV.out]; exact eqIn_val (Sf.kv p.kind p.n p.text) (Sf.kv 6 1 []) W
        clear hb2 ho hk c0
        by_cases h1 : p.kind = 6 ∧ p.n = 1
        · rw [decide_eq_true h1] at heq
          have HN := Lib.hid (ptext_one HK.out HV.out h1)
          clear h1
          go_wp2_with fail
          go_region_held3 (fun w' => w'.cell? ⟨w.heap.size + 1, 0, none⟩ = some (.int .i64 p.kind) ∧ w'.cell? ⟨w.heap.size + 1, 1, none⟩ = some (.int .i64 p.n) ∧ w'.cell? ⟨w.heap.size + 1, 2, none⟩ = some (.string (bA p.text)) ∧ RdyT w p (w.heap.size + 1) w')
            (first
              | exact hr2.all
              | exact hr2.drew.all
              | exact hr3.all)
            (first
              | (go_at_call 74; refine (truthV_any 1 _).mono ?_; rintro e w3 ⟨rfl, hb3⟩; have hr3 := hr2.drew.on hb3; unfold valV vC Sf.kv))
          rename_i hHeld
          have c0 : w3.cell? ⟨w.heap.size, 0, none⟩ = some (.string (bA p.key)) := hr3.pbox.c 0
          have HB3 := Lib.hid hr3.b
          clear hHeld hr2 hr3 hb3 heq
          go_wp2_with fail
          go_ret2
          rw [HN.out]
          refine ⟨?_, HB3.out⟩
          show Ending.returned (.tuple #[.string (bA [59] ++ bA p.key), .bool true]) = _
          rw [bA_app]; rfl
        · rw [decide_eq_false h1] at heq
          have HN := Lib.hid (ptext_two HK.out HV.out h1)
          clear h1
          go_wp2_with fail
          go_region_held3 (fun w' => w'.cell? ⟨w.heap.size + 1, 0, none⟩ = some (.int .i64 p.kind) ∧ w'.cell? ⟨w.heap.size + 1, 1, none⟩ = some (.int .i64 p.n) ∧ w'.cell? ⟨w.heap.size + 1, 2, none⟩ = some (.string (bA p.text)) ∧ RdyT w p (w.heap.size + 1) w')
            (first
              | exact hr2.all
              | exact hr2.drew.all
              | exact hr3.all)
            (first
              | (go_at_call 74; refine (truthV_any 1 _).mono ?_; rintro e w3 ⟨rfl, hb3⟩; have hr3 := hr2.drew.on hb3; unfold valV vC Sf.kv))
          rename_i hHeld
          have c0 : w3.cell? ⟨w.heap.size, 0, none⟩ = some (.string (bA p.key)) := hr3.pbox.c 0
          have HB3 := Lib.hid hr3.b
          clear hHeld hr2 hr3 hb3 heq
          go_wp2_with fail
          go_ret2
          rw [HN.out]
          refine ⟨?_, HB3.out⟩
          show Ending.returned (.tuple #[.string (bA [59] ++ bA p.key ++ bA [61] ++ bA v), .bool true]) = _
          rw [bA_app [59] p.key, bA_app _ [61], bA_app _ v]
          simp [writV]
    · have hk : Sf.keyB p.key = false := by
        cases hk : Sf.keyB p.key with
        | false => rfl
        | true => rw [keyB_back hk] at ho; cases ho
      have HN := Lib.hid (ptext_no1 hk)
      have HB2 := Lib.hid (HR1.out.on hb2).b
      clear hb2 ho hk
      go_wp2_with fail
      go_ret2
      rw [HN.out]
      exact ⟨rfl, HB2.out⟩
end Go.Proofs.YtilclhhpmenjaaaGreatDoor
