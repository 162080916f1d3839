/- The contract of sfitem.decimalText. -/
import Derived.Test.YtilclhhpmenjaaaGreatDoorSfNum
import Derived.Test.YtilclhhpmenjaaaGreatDoorSfMath5
import Derived.WalkSpells
import Derived.Deep.QuietTactic
import Derived.BigQuiet
namespace Go.Proofs.YtilclhhpmenjaaaGreatDoor
open Go.RowKit Go.Shelf Go.Deep

def dg (k : Nat) : UInt8 := UInt8.ofNat (48 + k)
theorem dec_step {u : Nat} (h : ¬ u < 10) : Lib.decDigits u = Lib.decDigits (u / 10) ++ [dg (u % 10)] := by rw [Lib.decDigits, dif_neg h]; rfl
/-- The digits of a number of thousandths, four at least. -/
def pad (u : Nat) : List UInt8 := List.replicate (4 - (Lib.decDigits u).length) 48 ++ Lib.decDigits u
theorem pad_split (u : Nat) : pad u = Lib.decDigits (u / 1000) ++ [dg (u / 100 % 10), dg (u / 10 % 10), dg (u % 10)] := by
  unfold pad
  by_cases h3 : u < 1000
  · have h0 : u / 1000 = 0 := by omega
    rw [h0, Sf.dec_small (by omega : 0 < 10)]
    by_cases h1 : u < 10
    · rw [Sf.dec_small h1, show u / 100 % 10 = 0 by omega, show u / 10 % 10 = 0 by omega, show u % 10 = u by omega]; rfl
    · by_cases h2 : u < 100
      · rw [dec_step h1, Sf.dec_small (by omega : u / 10 < 10), show u / 100 % 10 = 0 by omega, show u / 10 % 10 = u / 10 by omega]; rfl
      · rw [dec_step h1, dec_step (by omega : ¬ u / 10 < 10), Sf.dec_small (by omega : u / 10 / 10 < 10), show u / 100 % 10 = u / 10 / 10 by omega]; rfl
  · have e : Lib.decDigits u = Lib.decDigits (u / 1000) ++ [dg (u / 100 % 10), dg (u / 10 % 10), dg (u % 10)] := by
      rw [dec_step (by omega : ¬ u < 10), dec_step (by omega : ¬ u / 10 < 10), dec_step (by omega : ¬ u / 10 / 10 < 10), show u / 10 / 10 / 10 = u / 1000 by omega, show u / 10 / 10 % 10 = u / 100 % 10 by omega]
      simp
    have hl : 4 ≤ (Lib.decDigits u).length := by
      rw [e]; have := (Sf.dec_good (u / 1000)).2.2.2.1; simp; omega
    rw [show 4 - (Lib.decDigits u).length = 0 by omega, e]; rfl
theorem frac_trim : ∀ f : Fin 1000, Sf.frac' f.val = dg (f.val / 100 % 10) :: Lib.trimRightB [dg (f.val / 10 % 10), dg (f.val % 10)] 48 := by decide +kernel
theorem frac_is (u : Nat) : Sf.frac (u % 1000) = dg (u / 100 % 10) :: Lib.trimRightB [dg (u / 10 % 10), dg (u % 10)] 48 := by
  rw [Sf.frac_eq (by omega)]
  have h := frac_trim ⟨u % 1000, by omega⟩
  simp only at h
  rw [h, show u % 1000 / 100 % 10 = u / 100 % 10 by omega, show u % 1000 / 10 % 10 = u / 10 % 10 by omega, show u % 1000 % 10 = u % 10 by omega]
theorem pref_neg (u : Nat) : Lib.trimPrefix (45 :: Lib.decDigits u) [45] = Lib.decDigits u ∧ Lib.hasPrefix (45 :: Lib.decDigits u) [45] = true := by
  constructor <;> simp [Lib.trimPrefix, Lib.hasPrefix]
theorem pref_pos (u : Nat) : Lib.trimPrefix (Lib.decDigits u) [45] = Lib.decDigits u ∧ Lib.hasPrefix (Lib.decDigits u) [45] = false := by
  have hd := (Sf.dec_good u).1
  have hl := (Sf.dec_good u).2.2.2.1
  have : Lib.hasPrefix (Lib.decDigits u) [45] = false := by
    cases hc : Lib.decDigits u with
    | nil => rfl
    | cons c r =>
      rw [hc] at hd
      simp [Oct.allB, Oct.digitI] at hd
      simp only [Lib.hasPrefix, List.isPrefixOf, Bool.and_true]
      rw [beq_eq_false_iff_ne]
      intro e; rw [← e] at hd; simp at hd
  exact ⟨by rw [Lib.trimPrefix, this]; rfl, this⟩
theorem cut_any' (n : Int) (w : World) : Calls Tryz.prog 100 #[.string (bA (Lib.itoa n)), .string ⟨#[45]⟩] w fun e w' => e = .returned (.tuple #[.string (bA (Lib.decDigits n.natAbs)), .bool (decide (n < 0))]) ∧ w = w' := by
  refine (Tryz.strings_CutPrefix (bA (Lib.itoa n)) ⟨#[45]⟩ w).mono ?_
  rintro e w' ⟨rfl, rfl⟩
  refine ⟨?_, rfl⟩
  show Ending.returned (.tuple #[.string (bA (Lib.trimPrefix (Lib.itoa n) [45])), .bool (Lib.hasPrefix (Lib.itoa n) [45])]) = _
  unfold Lib.itoa
  by_cases h : n < 0
  · rw [if_pos h, (pref_neg _).1, (pref_neg _).2, decide_eq_true h]
  · rw [if_neg h, (pref_pos _).1, (pref_pos _).2, decide_eq_false h, show n.natAbs = n.toNat by omega]
theorem repeat_any' (k : Nat) (hk : k ≤ 4) (ki : Int) (hki : ki = k) (w : World) : Calls Tryz.prog 101 #[.string ⟨#[48]⟩, .int .i64 ki] w fun e w' => e = .returned (.string (bA (List.replicate k 48))) ∧ Below w.heap.size w w' := repeat_any k hk ki hki w
theorem trimR_any (l : List UInt8) (w : World) (hs : l.length ≤ 1000) : Calls Tryz.prog 102 #[.string (bA l), .string ⟨#[48]⟩] w fun e w' => e = .returned (.string (bA (Lib.trimRightB l 48))) ∧ w' = w := by
  refine (Tryz.strings_TrimRight_one (bA l) 48 (by decide) w (by rw [bA_size]; omega)).mono ?_
  rintro e w' ⟨rfl, rfl⟩
  exact ⟨rfl, rfl⟩

theorem below_drewQ {n : Nat} {a b : World} (h : Below n a b) (q : Nat) : Below n a (b.drewN q) := ⟨h.os, h.tape, h.output, h.size, h.block⟩
set_option maxHeartbeats 2000000 in
set_option maxRecDepth 20000 in
theorem decimalText_any (n : Int) (w : World) (h0 : -9223372036854775808 ≤ n) (h1 : n ≤ 9223372036854775807) (hT : Tab w) : Calls Tryz.prog 85 #[.int .i64 n] w fun e w' => e = .returned (.string (bA (Sf.decT n))) ∧ Below w.heap.size w w' := by
  have H1 := Lib.hid (itoa_all n w h0 h1 hT)
  obtain ⟨u, hu⟩ : ∃ u, n.natAbs = u := ⟨_, rfl⟩
  obtain ⟨g, hg⟩ : ∃ g, decide (n < 0) = g := ⟨_, rfl⟩
  have hL : (Lib.decDigits u).length ≤ 20 := Sf.dec_len u 20 (by omega) (by omega)
  have hL0 := (Sf.dec_good u).2.2.2.1
  have HR : Hid (Sf.decT n = (if g then [45] else []) ++ (Lib.decDigits (u / 1000) ++ 46 :: (dg (u / 100 % 10) :: Lib.trimRightB [dg (u / 10 % 10), dg (u % 10)] 48))) := by
    rw [Hid, Sf.decT, hu, frac_is, ← hg]
    by_cases h : n < 0
    · rw [if_pos h, decide_eq_true h]; rfl
    · rw [if_neg h, decide_eq_false h]; rfl
  have H2 := Lib.hid (fun W => cut_any' n W)
  rw [hu, hg] at H2
  have hps := pad_split u
  unfold pad at hps
  obtain ⟨res, hres⟩ : ∃ res, Sf.decT n = res := ⟨_, rfl⟩
  rw [hres] at HR ⊢
  obtain ⟨ds, hds⟩ : ∃ ds, Lib.decDigits u = ds := ⟨_, rfl⟩
  rw [hds] at hL hL0 H2 hps
  have HPS := Lib.hid hps
  have HW := Lib.hid hT
  clear hu hg hds hps hT hres
  go_enter Tryz.func85, Tryz.ntmps85
  go_wp2_with fail
  refine H1.out.mono ?_
  rintro e w1 ⟨rfl, hb1⟩
  go_wp2_with fail
  refine (H2.out _).mono ?_
  rintro e w2 ⟨rfl, rfl⟩
  go_wp2_with fail
  refine (repeat_any (4 - ds.length) (by omega) _ (by omega) _).mono ?_
  rintro e w3 ⟨rfl, hb3⟩
  have HB := Lib.hid (hb1.trans (hb3.mono hb1.size))
  obtain ⟨z, hz⟩ : ∃ z : List UInt8, List.replicate (4 - ds.length) 48 = z := ⟨_, rfl⟩
  have hzl : z.length ≤ 4 := by rw [← hz, List.length_replicate]; omega
  obtain ⟨a, ha⟩ : ∃ a, Lib.decDigits (u / 1000) = a := ⟨_, rfl⟩
  obtain ⟨d1, hd1⟩ : ∃ d, dg (u / 100 % 10) = d := ⟨_, rfl⟩
  obtain ⟨d2, hd2⟩ : ∃ d, dg (u / 10 % 10) = d := ⟨_, rfl⟩
  obtain ⟨d3, hd3⟩ : ∃ d, dg (u % 10) = d := ⟨_, rfl⟩
  rw [hz, ha, hd1, hd2, hd3] at HPS
  rw [ha, hd1, hd2, hd3] at HR
  rw [hz]
  have hcat : bA z ++ bA ds = bA (a ++ [d1, d2, d3]) := by rw [bA_app, HPS.out]
  have hal : a.length ≤ 24 := by have := congrArg List.length HPS.out; simp at this; omega
  have H3 := Lib.hid (fun W => trimR_any [d2, d3] W (by simp))
  clear hb1 hb3 hz ha hd1 hd2 hd3 H1 H2 HPS
  have hD : (bA (a ++ [d1, d2, d3])).size = a.length + 3 := by rw [bA_size]; simp
  have hs1 : ∀ W : World, (Instr.slice 9 (.string (bA (a ++ [d1, d2, d3]))) none (some (.int .i64 (a.length : Int))) none).run Tryz.prog W = .ok (.string (bA a)) W := fun W => by
    rw [run_slice_string_h W 9 _ Tryz.underlying9 .i64 _ (by omega) (by rw [hD]; omega)]
    rw [Int.toNat_natCast, Byt.take_ext]; simp
  have hs2 : ∀ W : World, (Instr.slice 9 (.string (bA (a ++ [d1, d2, d3]))) (some (.int .i64 (a.length : Int))) (some (.int .i64 ((a.length : Int) + 1))) none).run Tryz.prog W = .ok (.string (bA [d1])) W := fun W => by
    rw [run_slice_string W 9 _ .i64 .i64 _ _ Tryz.underlying9 (by omega) (by omega) (by rw [hD]; omega)]
    rw [Int.toNat_natCast, show ((a.length : Int) + 1).toNat = a.length + 1 by omega, Lib.extract_eq]; simp
  have hs3 : ∀ W : World, (Instr.slice 9 (.string (bA (a ++ [d1, d2, d3]))) (some (.int .i64 ((a.length : Int) + 1))) none none).run Tryz.prog W = .ok (.string (bA [d2, d3])) W := fun W => by
    rw [run_slice_string_l W 9 _ Tryz.underlying9 .i64 _ (by omega) (by rw [hD]; omega)]
    rw [show ((a.length : Int) + 1).toNat = a.length + 1 by omega, Byt.drop_ext]; simp
  obtain ⟨tr, htr⟩ : ∃ tr, Lib.trimRightB [d2, d3] 48 = tr := ⟨_, rfl⟩
  have htl : tr.length ≤ 2 := by
    rw [← htr]; unfold Lib.trimRightB; rw [List.length_reverse]
    have := (List.dropWhile_sublist (fun x : UInt8 => x == 48) (l := [d2, d3].reverse)).length_le
    simpa using this
  rw [htr] at H3 HR
  have hz1 : ∀ W : World, (Op.stringOp .add (bA a) ⟨#[46]⟩).run Tryz.prog W = .ok (.string (bA (a ++ [46]))) W := fun W => by
    rw [run_string_add_sum W (bA a) (bA [46]) (by simp only [bA_size, List.length_cons, List.length_nil]; omega), bA_app]
  have hz2 : ∀ W : World, (Op.stringOp .add (bA (a ++ [46])) (bA [d1])).run Tryz.prog W = .ok (.string (bA (a ++ [46] ++ [d1]))) W := fun W => by
    rw [run_string_add_sum W _ (bA [d1]) (by simp only [bA_size, List.length_append, List.length_cons, List.length_nil]; omega), bA_app]
  have hz3 : ∀ W : World, (Op.stringOp .add (bA (a ++ [46] ++ [d1])) (bA tr)).run Tryz.prog W = .ok (.string (bA (a ++ [46] ++ [d1] ++ tr))) W := fun W => by
    rw [run_string_add_sum W _ (bA tr) (by simp only [bA_size, List.length_append, List.length_cons, List.length_nil]; omega), bA_app]
  have hwr : IntKind.i64.wrap ((a.length : Int) + 1) = (a.length : Int) + 1 := IntWalk.i64_in _ (by omega)
  clear htr hD
  go_wp2_with fail
  go_quiet (first | (go_at_call 102; refine Calls.quiet_of_same (H3.out _)))
  have HF := Lib.hid (below_drewQ HB.out nq)
  clear hs1 hs2 hs3 hz1 hz2 hz3 hwr hcat
  cases g with
  | true =>
    go_wp2_with fail
    go_ret
    refine ⟨Oct.ret_str ?_, HF.out⟩
    rw [HR.out, bA_app (a ++ [46, d1]) tr]
    show bA [45] ++ bA _ = _
    rw [bA_app]
    simp
  | false =>
    go_wp2_with fail
    go_ret
    refine ⟨Oct.ret_str ?_, HF.out⟩
    rw [HR.out, bA_app]
    simp
end Go.Proofs.YtilclhhpmenjaaaGreatDoor
