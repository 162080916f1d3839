/- The contract of a value's written text. -/
import Derived.Test.YtilclhhpmenjaaaGreatDoorSfRaw
import Derived.Test.YtilclhhpmenjaaaGreatDoorSfParse
import Derived.Laws.StructEq
namespace Go.Proofs.YtilclhhpmenjaaaGreatDoor
open Go.RowKit Go.Shelf Go.Maps Go.Deep

theorem vtext_raw {k n : Int} {t v : List UInt8} (h : Sf.vtext k n t = some v) : v = rawT k n t := by
  unfold Sf.vtext at h
  unfold rawT
  split at h
  · cases h
  split at h
  · rename_i e; rw [if_pos e]; cases h; rfl
  rename_i k1; rw [if_neg k1]
  split at h
  · rename_i e; rw [if_pos e]; cases h; rfl
  rename_i k2; rw [if_neg k2]
  split at h
  · rename_i e
    subst e
    rw [if_neg (by decide), if_neg (by decide), if_neg (by decide), if_pos rfl]
    split at h
    · cases h; rfl
    · cases h
  rename_i k6
  split at h
  · rename_i e; rw [if_pos e]
    split at h
    · cases h; rfl
    · cases h
  rename_i k3; rw [if_neg k3]
  split at h
  · rename_i e; rw [if_pos e]
    split at h
    · cases h; rfl
    · cases h
  rename_i k4; rw [if_neg k4]
  split at h
  · rename_i e; rw [if_pos e]
    split at h
    · cases h; rfl
    · cases h
  · cases h
theorem vtext_yes {k n : Int} {t v : List UInt8} (h : Sf.vtext k n t = some v) : Sf.value (rawT k n t) = some (Sf.kv k n t, []) := by
  have := Sf.value_back h (r := []) (.inl rfl)
  rw [List.append_nil, vtext_raw h] at this
  exact this
theorem vtext_no {k n : Int} {t : List UInt8} (h : Sf.vtext k n t = none) : Sf.value (rawT k n t) ≠ some (Sf.kv k n t, []) := by
  intro hv
  obtain ⟨a, t', hr⟩ := Sf.value_reads hv
  have := hr.txt
  have e : Sf.vtext (Sf.kv k n t).kind (Sf.kv k n t).n (Sf.kv k n t).text = Sf.vtext k n t := rfl
  rw [e, h] at this
  cases this
/-- Two values compared. -/
def eqV (x y : Sf.Par) : Bool := x.kind == y.kind && (x.n == y.n && x.text == y.text)
theorem eqV_yes (x : Sf.Par) : eqV x x = true := by simp [eqV]
theorem bA_toList' (l : List UInt8) : (bA l).toList = l := by rw [ByteArray.toList_eq]
set_option maxHeartbeats 1000000 in
theorem eqIn_val (a b : Sf.Par) (w : World) : (Op.equalIn 10000 64 (valV a) (valV b)).run Tryz.prog w = .ok (eqV a b) w := by
  unfold valV vC
  simp [go_sem]
  unfold eqV
  (repeat' split) <;> simp_all
theorem num_key {sg : Int} {s r : List UInt8} {x : Sf.Par} (h : Sf.num sg s = some (x, r)) : x.key = [] := by
  rcases Sf.num_ways h with ⟨d, _, _, _, _, rfl, _⟩ | ⟨d, m, _, _, _, _, _, _, _, rfl, _⟩ <;> rfl
theorem val_key {x : Sf.Par} {s r : List UInt8} (h : Sf.value s = some (x, r)) : x.key = [] := by
  cases s with
  | nil => cases h
  | cons c s =>
    rw [Sf.value_cons] at h
    split at h
    · exact num_key h
    split at h
    · exact num_key h
    split at h
    · cases hq : Sf.quo s with
      | none => rw [hq] at h; cases h
      | some y => rw [hq] at h; cases h; rfl
    split at h
    · cases h; rfl
    split at h
    · split at h
      · cases h; rfl
      · cases h
    split at h
    · split at h
      · cases h; rfl
      split at h
      · cases h; rfl
      · cases h
    · cases h
theorem eqV_kv {x : Sf.Par} {k n : Int} {t : List UInt8} (hx : x.key = []) (h : eqV x (Sf.kv k n t) = true) : x = Sf.kv k n t := by
  obtain ⟨a, b, c, d⟩ := x
  simp only [eqV, Sf.kv, Bool.and_eq_true, beq_iff_eq] at h
  obtain ⟨h1, h2, h3⟩ := h
  simp only at hx h1 h2 h3
  subst hx h1 h2 h3
  rfl
/-- What 'written' answers. -/
def writV (o : Option (List UInt8)) : Value := .tuple #[.string (bA (o.getD [])), .bool o.isSome]

set_option maxHeartbeats 1000000 in
set_option maxRecDepth 20000 in
theorem written_any (k n : Int) (t : List UInt8) (w : World) (h0 : -9223372036854775808 ≤ n) (h1 : n ≤ 9223372036854775807) (ht : t.length ≤ 10000) (hT : Tab w) (hM : TabM w) :
    Calls Tryz.prog 40 #[.agg #[.int .i64 k, .int .i64 n, .string (bA t)]] w fun e w' => e = .returned (writV (Sf.vtext k n t)) ∧ Below w.heap.size w w' := by
  have hmf : ∀ (fn : Fn) (first cap : Array Value) (w : World), (Instr.makeFunc fn first cap).run Tryz.prog w = .ok (.func fn first cap) w := fun _ _ _ _ => rfl
  have hb0 : Below w.heap.size w (w.alloc (.cells (vC (Sf.kv k n t)) 64)) := (Below.refl _ _).alloc (Nat.le_refl _) _
  have H1 := Lib.hid (raw_any k n t _ h0 h1 ht (hT.below hb0) (hM.below hb0))
  have hbx := Lib.hid (CBox.new w 64 (vC (Sf.kv k n t)))
  have HB0 := Lib.hid hb0
  have HY := Lib.hid (fun v (h : Sf.vtext k n t = some v) => And.intro (vtext_raw h) (vtext_yes h))
  have HNO := Lib.hid (fun (h : Sf.vtext k n t = none) => vtext_no h)
  have hrl : (rawT k n t).length ≤ 30000 := by
    have e1 := itoa_short n h0 h1
    have e2 := esc_len t
    unfold rawT
    split
    · omega
    split
    · unfold Sf.decT
      have e3 := Sf.dec_len (n.natAbs / 1000) 20 (by omega) (by omega)
      have e4 := (Sf.frac_good (f := n.natAbs % 1000) (by omega)).2.2.1
      simp only [List.length_append, List.length_cons]
      split <;> simp <;> omega
    split
    · simp; omega
    split
    · omega
    split
    · simp; omega
    split
    · simp; omega
    · simp
  obtain ⟨rt, hrt⟩ : ∃ rt, rawT k n t = rt := ⟨_, rfl⟩
  rw [hrt] at H1 HY HNO hrl
  obtain ⟨o, ho⟩ : ∃ o, Sf.vtext k n t = o := ⟨_, rfl⟩
  rw [ho] at HY HNO ⊢
  clear hrt ho hb0 hT hM
  go_enter Tryz.func40, Tryz.ntmps40
  go_wp2_with fail
  refine H1.out.mono ?_
  rintro e w1 ⟨rfl, hb1⟩
  have hB1 := Lib.hid (HB0.out.trans (hb1.mono HB0.out.size))
  have hX1 := Lib.hid (hbx.out.keep hb1)
  have hsz1 : w.heap.size < w1.heap.size := hX1.out.lt
  have hR : Rd w1.heap.size rt (w1.alloc (.cells #[.string (bA rt)] 51)) := Boxed.new w1 _ _
  have H2 := Lib.hid (guardV_any w1.heap.size rt (Sf.value rt) _ hR 53 (enters_of Tryz.func53 (by kernel_rfl) rfl) (fun W h => value_any _ rt W h (by omega)))
  clear hb1 hbx HB0 H1 hR
  go_wp2_with fail
  refine H2.out.mono ?_
  rintro e w2 ⟨hg, ⟨x, r, hv, rfl⟩ | ⟨hv, rfl⟩⟩
  · have hB2 := Lib.hid ((hB1.out.alloc (o := .cells #[.string (bA rt)] 51) hB1.out.size).grown hg (by have := hB1.out.size; simp; omega) (fun j hj => by cases hj; omega))
    have hX2 := (hX1.out.alloc _).kept hg (by simp; omega)
    have c0 : w2.cell? ⟨w.heap.size, 0, none⟩ = some (.int .i64 k) := hX2.c 0
    have c1 : w2.cell? ⟨w.heap.size, 1, none⟩ = some (.int .i64 n) := hX2.c 1
    have c2 : w2.cell? ⟨w.heap.size, 2, none⟩ = some (.string (bA t)) := hX2.c 2
    have hlt2 := hX2.lt
    have hne : ¬ w2.heap.size = w.heap.size := by omega
    have hne' : ¬ w.heap.size = w2.heap.size := by omega
    have HV := Lib.hid hv
    have HK := Lib.hid (val_key hv)
    clear hv hg H2 hX1 hX2
    cases r with
    | cons c r =>
      have hn : o = none := by
        cases ho : o with
        | none => rfl
        | some v => have := (HY.out v ho).2; rw [HV.out] at this; cases this
      subst hn
      unfold valV vC
      go_wp2_with fail
      go_ret2
      exact ⟨rfl, below_al hB2.out _⟩
    | nil =>
      have heq : ∀ W : World, (Op.equalIn 10000 64 (.agg #[.int .i64 x.kind, .int .i64 x.n, .string (bA x.text)]) (.agg #[.int .i64 k, .int .i64 n, .string (bA t)])).run Tryz.prog W = .ok (eqV x (Sf.kv k n t)) W := fun W => eqIn_val x (Sf.kv k n t) W
      cases he : eqV x (Sf.kv k n t) with
      | true =>
        rw [he] at heq
        have hx := eqV_kv HK.out he
        have hn : o = some rt := by
          cases ho : o with
          | none => exact absurd (by rw [HV.out, hx]) (HNO.out ho)
          | some v => rw [(HY.out v ho).1]
        subst hn
        clear he hx
        unfold valV vC
        go_wp2_with fail
        go_ret2
        exact ⟨rfl, below_al hB2.out _⟩
      | false =>
        rw [he] at heq
        have hn : o = none := by
          cases ho : o with
          | none => rfl
          | some v =>
            have := (HY.out v ho).2
            rw [HV.out] at this
            simp only [Option.some.injEq, Prod.mk.injEq, and_true] at this
            rw [this, eqV_yes] at he
            cases he
        subst hn
        clear he
        unfold valV vC
        go_wp2_with fail
        go_ret2
        exact ⟨rfl, below_al hB2.out _⟩
  · have hB2 := Lib.hid ((hB1.out.alloc (o := .cells #[.string (bA rt)] 51) hB1.out.size).grown hg (by have := hB1.out.size; simp; omega) (fun j hj => by cases hj; omega))
    have hn : o = none := by
      cases ho : o with
      | none => rfl
      | some v => have := (HY.out v ho).2; rw [hv] at this; cases this
    subst hn
    clear hv hg H2
    unfold valV vC
    go_wp2_with fail
    go_ret2
    exact ⟨rfl, below_al hB2.out _⟩
end Go.Proofs.YtilclhhpmenjaaaGreatDoor
