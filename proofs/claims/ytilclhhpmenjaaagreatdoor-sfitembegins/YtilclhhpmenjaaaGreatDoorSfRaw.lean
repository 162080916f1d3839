/- The contract of a value's raw text. -/
import Derived.Test.YtilclhhpmenjaaaGreatDoorSfDec
import Derived.Test.YtilclhhpmenjaaaGreatDoorSfBox
namespace Go.Proofs.YtilclhhpmenjaaaGreatDoor
open Go.RowKit Go.Shelf Go.Deep

theorem repl_one (c : UInt8) (new : List UInt8) : ∀ s : List UInt8, Lib.replaceK [c] new (Lib.count s [c]) s = s.flatMap fun b => if b = c then new else [b]
  | [] => by rw [Lib.count_one]; rfl
  | b :: l => by
    have ih := repl_one c new l
    by_cases h : b = c
    · subst h
      have hi : Lib.index (b :: l) [b] = ((0 : Nat) : Int) := by simp [Lib.index, List.isPrefixOf]
      rw [Lib.count_cons_eq, Nat.add_comm, Lib.replaceK_hit [b] new _ _ 0 hi]
      simp only [List.take_zero, List.nil_append, Nat.zero_add, List.length_cons, List.length_nil, List.drop_succ_cons, List.drop_zero]
      rw [ih]; simp
    · rw [Lib.count_cons_ne b c l h]
      have hp : List.isPrefixOf [c] (b :: l) = false := by simp [List.isPrefixOf]; exact fun e => h e.symm
      cases hk : Lib.count l [c] with
      | zero =>
        rw [hk] at ih
        simp only [Lib.replaceK] at ih ⊢
        rw [List.flatMap_cons, if_neg h, ← ih]; rfl
      | succ k =>
        obtain ⟨i, hi⟩ := Lib.index_of_count (s := l) (old := [c]) (by omega)
        have hi' : Lib.index (b :: l) [c] = ((i + 1 : Nat) : Int) := by
          rw [Lib.index, hp, hi]
          have : ((i : Int) == -1) = false := by rw [beq_eq_false_iff_ne]; omega
          rw [this]; simp
        rw [hk, Lib.replaceK_hit [c] new k l i hi] at ih
        rw [Lib.replaceK_hit [c] new k (b :: l) (i + 1) hi', List.flatMap_cons, if_neg h, ← ih]
        simp
theorem esc_is (s : List UInt8) : Lib.replaceAll (Lib.replaceAll s [92] [92, 92]) [34] [92, 34] = Sf.esc s := by
  have e1 : ∀ (t : List UInt8) (c : UInt8) (new : List UInt8), ([c] == new) = false → Lib.replaceAll t [c] new = t.flatMap fun b => if b = c then new else [b] := by
    intro t c new h
    unfold Lib.replaceAll Lib.replace Lib.replaceNum
    rw [h, if_neg (by simp), if_pos (by omega)]
    exact repl_one c new t
  rw [e1 s 92 [92, 92] (by decide), e1 _ 34 [92, 34] (by decide)]
  induction s with
  | nil => rfl
  | cons c r ih =>
    rw [List.flatMap_cons, List.flatMap_append, ih]
    by_cases h92 : c = 92
    · subst h92; rfl
    · by_cases h34 : c = 34
      · subst h34; rfl
      · simp [Sf.esc, h92, h34]
theorem repl_len (s : List UInt8) (c : UInt8) (new : List UInt8) : (s.flatMap fun b => if b = c then new else [b]).length ≤ s.length * (new.length + 1) := by
  induction s with
  | nil => simp
  | cons b s ih =>
    have hif : (if b = c then new else [b]).length ≤ new.length + 1 := by split <;> simp
    rw [List.flatMap_cons, List.length_append, List.length_cons, Nat.add_mul]
    omega
/-- The library's longest text for a search is a number. -/
def TabM (w : World) : Prop := ∃ m, w.cell? ⟨2, 0, none⟩ = some (.int .i64 m)
theorem TabM.below {w w' : World} (h : TabM w) (hb : Below w.heap.size w w') : TabM w' := by
  obtain ⟨m, hm⟩ := h
  exact ⟨m, by rw [hb.cell (World.block_lt_of_cell? _ _ hm)]; exact hm⟩
theorem replace_any (s : List UInt8) (c : UInt8) (new : List UInt8) (w : World) (hT : TabM w) (hs : s.length ≤ 100000) (hn : new.length ≤ 10) : Calls Tryz.prog 86 #[.string (bA s), .string (bA [c]), .string (bA new)] w fun e w' => e = .returned (.string (bA (Lib.replaceAll s [c] new))) ∧ Below w.heap.size w w' := by
  obtain ⟨m, hm⟩ := hT
  refine (Any.strings_ReplaceAll { Tryz.laysM155 with } Tryz.Builder_Extra_M155 (bA s) (bA [c]) (bA new) m w (by rw [bA_size]; omega) hm (Nat.le_refl _) ?_).mono ?_
  · have h1 := Lib.count_le s [c]
    have h2 : Lib.countB (bA s) (bA [c]) = Lib.count s [c] := rfl
    rw [h2, bA_size, bA_size]
    have h3 : Lib.count s [c] * new.length ≤ 100001 * 10 := Nat.mul_le_mul (by omega) hn
    omega
  · rintro e w' ⟨rfl, hb⟩
    exact ⟨rfl, hb⟩
/-- The text that a value would have. -/
def rawT (k n : Int) (t : List UInt8) : List UInt8 :=
  if k = 1 then Lib.itoa n else if k = 2 then Sf.decT n else if k = 3 then 34 :: (Sf.esc t ++ [34]) else if k = 4 then t else if k = 5 then 58 :: (t ++ [58]) else if k = 6 then 63 :: Lib.itoa n else []
theorem esc_len (t : List UInt8) : (Sf.esc t).length ≤ 2 * t.length := by
  induction t with
  | nil => simp [Sf.esc]
  | cons c r ih => rw [Sf.esc]; split <;> simp <;> omega
theorem itoa_short (n : Int) (h0 : -9223372036854775808 ≤ n) (h1 : n ≤ 9223372036854775807) : (Lib.itoa n).length ≤ 21 := by
  unfold Lib.itoa
  split
  · have := Sf.dec_len n.natAbs 20 (by omega) (by omega); simp; omega
  · have := Sf.dec_len n.toNat 20 (by omega) (by omega); omega

set_option maxHeartbeats 1000000 in
set_option maxRecDepth 20000 in
theorem raw_any (k n : Int) (t : List UInt8) (w : World) (h0 : -9223372036854775808 ≤ n) (h1 : n ≤ 9223372036854775807) (ht : t.length ≤ 10000) (hT : Tab w) (hM : TabM w) :
    Calls Tryz.prog 70 #[.agg #[.int .i64 k, .int .i64 n, .string (bA t)]] w fun e w' => e = .returned (.string (bA (rawT k n t))) ∧ Below w.heap.size w w' := by
  have hb0 : Below w.heap.size w (w.alloc (.cells #[.int .i64 k, .int .i64 n, .string (bA t)] 64)) := (Below.refl _ _).alloc (Nat.le_refl _) _
  have hT1 := hT.below hb0
  have hM1 := hM.below hb0
  have hsz0 : (w.alloc (.cells #[.int .i64 k, .int .i64 n, .string (bA t)] 64)).heap.size = w.heap.size + 1 := by simp
  have hon : ∀ W : World, Below (w.alloc (.cells #[.int .i64 k, .int .i64 n, .string (bA t)] 64)).heap.size (w.alloc (.cells #[.int .i64 k, .int .i64 n, .string (bA t)] 64)) W → Below w.heap.size w W := fun W h => hb0.trans (h.mono (by rw [hsz0]; omega))
  have HON := Lib.hid hon
  have HB0 := Lib.hid hb0
  have hil := itoa_short n h0 h1
  have hel := esc_len t
  have H1 := Lib.hid (itoa_all n _ h0 h1 hT1)
  clear hsz0 hon hb0
  by_cases k1 : k = 1
  · subst k1
    rw [show rawT 1 n t = Lib.itoa n from rfl]
    go_enter Tryz.func70, Tryz.ntmps70
    go_wp2_with fail
    refine H1.out.mono ?_
    rintro e w1 ⟨rfl, hb⟩
    go_wp2_with fail
    go_ret
    exact ⟨rfl, HON.out _ hb⟩
  by_cases k2 : k = 2
  · subst k2
    rw [show rawT 2 n t = Sf.decT n from rfl]
    have H2 := Lib.hid (decimalText_any n _ h0 h1 hT1)
    clear k1
    go_enter Tryz.func70, Tryz.ntmps70
    go_wp2_with fail
    refine H2.out.mono ?_
    rintro e w1 ⟨rfl, hb⟩
    go_wp2_with fail
    go_ret
    exact ⟨rfl, HON.out _ hb⟩
  by_cases k3 : k = 3
  · subst k3
    rw [show rawT 3 n t = 34 :: (Sf.esc t ++ [34]) from rfl]
    have H2 := Lib.hid (replace_any t 92 [92, 92] _ hM1 (by omega) (by simp))
    obtain ⟨t1, ht1⟩ : ∃ t1, Lib.replaceAll t [92] [92, 92] = t1 := ⟨_, rfl⟩
    have he : Lib.replaceAll t1 [34] [92, 34] = Sf.esc t := by rw [← ht1]; exact esc_is t
    have ht1l : t1.length ≤ 30000 := by
      have e1 : Lib.replaceAll t [92] [92, 92] = t.flatMap fun b => if b = 92 then [92, 92] else [b] := by
        unfold Lib.replaceAll Lib.replace Lib.replaceNum
        rw [show (([92] : List UInt8) == [92, 92]) = false from rfl, if_neg (by simp), if_pos (by omega)]
        exact repl_one 92 [92, 92] t
      have := repl_len t 92 [92, 92]
      rw [← ht1, e1]; simp only [List.length_cons, List.length_nil] at this; omega
    rw [ht1] at H2
    have H3 := Lib.hid (fun W (h : TabM W) => replace_any t1 34 [92, 34] W h (by omega) (by simp))
    rw [he] at H3
    have HM1 := Lib.hid hM1
    clear k1 k2 ht1 he hM1 hT1
    go_enter Tryz.func70, Tryz.ntmps70
    go_wp2_with fail
    refine H2.out.mono ?_
    rintro e w1 ⟨rfl, hb⟩
    have HM2 := Lib.hid (HM1.out.below hb)
    have HB1 := Lib.hid hb
    clear hb
    go_wp2_with fail
    refine (H3.out _ HM2.out).mono ?_
    rintro e w2 ⟨rfl, hb2⟩
    obtain ⟨es, hes⟩ : ∃ es, Sf.esc t = es := ⟨_, rfl⟩
    rw [hes] at hel
    rw [hes]
    have HB2 := Lib.hid (HON.out _ (HB1.out.trans (hb2.mono HB1.out.size)))
    have HES := Lib.hid hes
    clear hb2 hes
    go_wp2_with fail
    go_ret
    refine ⟨Oct.ret_str ?_, HB2.out⟩
    rw [HES.out]
    show bA [34] ++ bA es ++ bA [34] = _
    rw [bA_app [34] es, bA_app ([34] ++ es) [34]]; rfl
  by_cases k4 : k = 4
  · subst k4
    rw [show rawT 4 n t = t from rfl]
    clear k1 k2 k3
    go_enter Tryz.func70, Tryz.ntmps70
    go_wp2_with fail
    go_ret
    exact ⟨rfl, HB0.out⟩
  by_cases k5 : k = 5
  · subst k5
    rw [show rawT 5 n t = 58 :: (t ++ [58]) from rfl]
    clear k1 k2 k3 k4
    go_enter Tryz.func70, Tryz.ntmps70
    go_wp2_with fail
    go_ret
    refine ⟨Oct.ret_str ?_, HB0.out⟩
    show bA [58] ++ bA t ++ bA [58] = _
    rw [bA_app [58] t, bA_app ([58] ++ t) [58]]; rfl
  by_cases k6 : k = 6
  · subst k6
    rw [show rawT 6 n t = 63 :: Lib.itoa n from rfl]
    clear k1 k2 k3 k4 k5
    go_enter Tryz.func70, Tryz.ntmps70
    go_wp2_with fail
    refine H1.out.mono ?_
    rintro e w1 ⟨rfl, hb⟩
    obtain ⟨ni, hni⟩ : ∃ ni, Lib.itoa n = ni := ⟨_, rfl⟩
    rw [hni] at hil
    rw [hni]
    have HNI := Lib.hid hni
    clear hni
    go_wp2_with fail
    go_ret
    refine ⟨Oct.ret_str ?_, HON.out _ hb⟩
    rw [HNI.out]
    show bA [63] ++ bA ni = _
    rw [bA_app [63] ni]; rfl
  rw [show rawT k n t = [] by unfold rawT; rw [if_neg k1, if_neg k2, if_neg k3, if_neg k4, if_neg k5, if_neg k6]]
  have f1 : (k == 1) = false := by simpa using k1
  have f2 : (k == 2) = false := by simpa using k2
  have f3 : (k == 3) = false := by simpa using k3
  have f4 : (k == 4) = false := by simpa using k4
  have f5 : (k == 5) = false := by simpa using k5
  have f6 : (k == 6) = false := by simpa using k6
  clear k1 k2 k3 k4 k5 k6
  go_enter Tryz.func70, Tryz.ntmps70
  go_wp2_with fail
  go_ret
  exact ⟨rfl, HB0.out⟩
end Go.Proofs.YtilclhhpmenjaaaGreatDoor
