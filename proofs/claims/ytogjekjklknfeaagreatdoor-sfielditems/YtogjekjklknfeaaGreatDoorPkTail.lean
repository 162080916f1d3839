/- Texts of one layer, joined. -/
import Derived.Test.YtogjekjklknfeaaGreatDoorPkVal
import Derived.Test.YtogjekjklknfeaaGreatDoorPkSfm
import Derived.WalkSpells
import Derived.Deep.QuietTactic
import Derived.BigQuiet
import Derived.Test.YtogjekjklknfeaaGreatDoorPkRead
import Derived.Test.YtogjekjklknfeaaGreatDoorPkNext
import Derived.Laws.StructEq
import Derived.Deep.RegionHeld3
import Derived.Shelf.Strings.BuilderK

/- The contract of sfitem.decimalText. -/

namespace Go.Proofs.YtogjekjklknfeaaGreatDoor
open Go.RowKit Go.Shelf Go.Deep

def dg (k : Nat) : UInt8 := UInt8.ofNat (48 + k)
theorem dec_step {u : Nat} (h : ¬ u < 10) : Lib.decDigits u = Lib.decDigits (u / 10) ++ [dg (u % 10)] := by rw [Lib.decDigits, dif_neg h]; rfl
/-- The digits of a number of thousandths, four at least. -/
def pad (u : Nat) : List UInt8 := List.replicate (4 - (Lib.decDigits u).length) 48 ++ Lib.decDigits u
theorem pad_split (u : Nat) : pad u = Lib.decDigits (u / 1000) ++ [dg (u / 100 % 10), dg (u / 10 % 10), dg (u % 10)] := by
  unfold pad
  by_cases h3 : u < 1000
  · have h0 : u / 1000 = 0 := by omega
    rw [h0, Sf.dec_small (by omega : 0 < 10)]
    by_cases h1 : u < 10
    · rw [Sf.dec_small h1, show u / 100 % 10 = 0 by omega, show u / 10 % 10 = 0 by omega, show u % 10 = u by omega]; rfl
    · by_cases h2 : u < 100
      · rw [dec_step h1, Sf.dec_small (by omega : u / 10 < 10), show u / 100 % 10 = 0 by omega, show u / 10 % 10 = u / 10 by omega]; rfl
      · rw [dec_step h1, dec_step (by omega : ¬ u / 10 < 10), Sf.dec_small (by omega : u / 10 / 10 < 10), show u / 100 % 10 = u / 10 / 10 by omega]; rfl
  · have e : Lib.decDigits u = Lib.decDigits (u / 1000) ++ [dg (u / 100 % 10), dg (u / 10 % 10), dg (u % 10)] := by
      rw [dec_step (by omega : ¬ u < 10), dec_step (by omega : ¬ u / 10 < 10), dec_step (by omega : ¬ u / 10 / 10 < 10), show u / 10 / 10 / 10 = u / 1000 by omega, show u / 10 / 10 % 10 = u / 100 % 10 by omega]
      simp
    have hl : 4 ≤ (Lib.decDigits u).length := by
      rw [e]; have := (Sf.dec_good (u / 1000)).2.2.2.1; simp; omega
    rw [show 4 - (Lib.decDigits u).length = 0 by omega, e]; rfl
theorem frac_trim : ∀ f : Fin 1000, Sf.frac' f.val = dg (f.val / 100 % 10) :: Lib.trimRightB [dg (f.val / 10 % 10), dg (f.val % 10)] 48 := by decide +kernel
theorem frac_is (u : Nat) : Sf.frac (u % 1000) = dg (u / 100 % 10) :: Lib.trimRightB [dg (u / 10 % 10), dg (u % 10)] 48 := by
  rw [Sf.frac_eq (by omega)]
  have h := frac_trim ⟨u % 1000, by omega⟩
  simp only at h
  rw [h, show u % 1000 / 100 % 10 = u / 100 % 10 by omega, show u % 1000 / 10 % 10 = u / 10 % 10 by omega, show u % 1000 % 10 = u % 10 by omega]
theorem pref_neg (u : Nat) : Lib.trimPrefix (45 :: Lib.decDigits u) [45] = Lib.decDigits u ∧ Lib.hasPrefix (45 :: Lib.decDigits u) [45] = true := by
  constructor <;> simp [Lib.trimPrefix, Lib.hasPrefix]
theorem pref_pos (u : Nat) : Lib.trimPrefix (Lib.decDigits u) [45] = Lib.decDigits u ∧ Lib.hasPrefix (Lib.decDigits u) [45] = false := by
  have hd := (Sf.dec_good u).1
  have hl := (Sf.dec_good u).2.2.2.1
  have : Lib.hasPrefix (Lib.decDigits u) [45] = false := by
    cases hc : Lib.decDigits u with
    | nil => rfl
    | cons c r =>
      rw [hc] at hd
      simp [Oct.allB, Oct.digitI] at hd
      simp only [Lib.hasPrefix, List.isPrefixOf, Bool.and_true]
      rw [beq_eq_false_iff_ne]
      intro e; rw [← e] at hd; simp at hd
  exact ⟨by rw [Lib.trimPrefix, this]; rfl, this⟩
theorem cut_any' (n : Int) (w : World) : Calls Tryz.prog 43 #[.string (bA (Lib.itoa n)), .string ⟨#[45]⟩] w fun e w' => e = .returned (.tuple #[.string (bA (Lib.decDigits n.natAbs)), .bool (decide (n < 0))]) ∧ w = w' := by
  refine (Tryz.strings_CutPrefix (bA (Lib.itoa n)) ⟨#[45]⟩ w).mono ?_
  rintro e w' ⟨rfl, rfl⟩
  refine ⟨?_, rfl⟩
  show Ending.returned (.tuple #[.string (bA (Lib.trimPrefix (Lib.itoa n) [45])), .bool (Lib.hasPrefix (Lib.itoa n) [45])]) = _
  unfold Lib.itoa
  by_cases h : n < 0
  · rw [if_pos h, (pref_neg _).1, (pref_neg _).2, decide_eq_true h]
  · rw [if_neg h, (pref_pos _).1, (pref_pos _).2, decide_eq_false h, show n.natAbs = n.toNat by omega]
theorem repeat_any' (k : Nat) (hk : k ≤ 4) (ki : Int) (hki : ki = k) (w : World) : Calls Tryz.prog 124 #[.string ⟨#[48]⟩, .int .i64 ki] w fun e w' => e = .returned (.string (bA (List.replicate k 48))) ∧ Below w.heap.size w w' := repeat_any k hk ki hki w
theorem trimR_any (l : List UInt8) (w : World) (hs : l.length ≤ 1000) : Calls Tryz.prog 125 #[.string (bA l), .string ⟨#[48]⟩] w fun e w' => e = .returned (.string (bA (Lib.trimRightB l 48))) ∧ w' = w := by
  refine (Tryz.strings_TrimRight_one (bA l) 48 (by decide) w (by rw [bA_size]; omega)).mono ?_
  rintro e w' ⟨rfl, rfl⟩
  exact ⟨rfl, rfl⟩

theorem below_drewQ {n : Nat} {a b : World} (h : Below n a b) (q : Nat) : Below n a (b.drewN q) := ⟨h.os, h.tape, h.output, h.size, h.block⟩
set_option maxHeartbeats 2000000 in
set_option maxRecDepth 20000 in
theorem decimalText_any (n : Int) (w : World) (h0 : -9223372036854775808 ≤ n) (h1 : n ≤ 9223372036854775807) (hT : Tab w) : Calls Tryz.prog 93 #[.int .i64 n] w fun e w' => e = .returned (.string (bA (Sf.decT n))) ∧ Below w.heap.size w w' := by
  have H1 := Lib.hid (itoa_all n w h0 h1 hT)
  obtain ⟨u, hu⟩ : ∃ u, n.natAbs = u := ⟨_, rfl⟩
  obtain ⟨g, hg⟩ : ∃ g, decide (n < 0) = g := ⟨_, rfl⟩
  have hL : (Lib.decDigits u).length ≤ 20 := Sf.dec_len u 20 (by omega) (by omega)
  have hL0 := (Sf.dec_good u).2.2.2.1
  have HR : Hid (Sf.decT n = (if g then [45] else []) ++ (Lib.decDigits (u / 1000) ++ 46 :: (dg (u / 100 % 10) :: Lib.trimRightB [dg (u / 10 % 10), dg (u % 10)] 48))) := by
    rw [Hid, Sf.decT, hu, frac_is, ← hg]
    by_cases h : n < 0
    · rw [if_pos h, decide_eq_true h]; rfl
    · rw [if_neg h, decide_eq_false h]; rfl
  have H2 := Lib.hid (fun W => cut_any' n W)
  rw [hu, hg] at H2
  have hps := pad_split u
  unfold pad at hps
  obtain ⟨res, hres⟩ : ∃ res, Sf.decT n = res := ⟨_, rfl⟩
  rw [hres] at HR ⊢
  obtain ⟨ds, hds⟩ : ∃ ds, Lib.decDigits u = ds := ⟨_, rfl⟩
  rw [hds] at hL hL0 H2 hps
  have HPS := Lib.hid hps
  have HW := Lib.hid hT
  clear hu hg hds hps hT hres
  go_enter Tryz.func93, Tryz.ntmps93
  go_wp2_with fail
  refine H1.out.mono ?_
  rintro e w1 ⟨rfl, hb1⟩
  go_wp2_with fail
  refine (H2.out _).mono ?_
  rintro e w2 ⟨rfl, rfl⟩
  go_wp2_with fail
  refine (repeat_any (4 - ds.length) (by omega) _ (by omega) _).mono ?_
  rintro e w3 ⟨rfl, hb3⟩
  have HB := Lib.hid (hb1.trans (hb3.mono hb1.size))
  obtain ⟨z, hz⟩ : ∃ z : List UInt8, List.replicate (4 - ds.length) 48 = z := ⟨_, rfl⟩
  have hzl : z.length ≤ 4 := by rw [← hz, List.length_replicate]; omega
  obtain ⟨a, ha⟩ : ∃ a, Lib.decDigits (u / 1000) = a := ⟨_, rfl⟩
  obtain ⟨d1, hd1⟩ : ∃ d, dg (u / 100 % 10) = d := ⟨_, rfl⟩
  obtain ⟨d2, hd2⟩ : ∃ d, dg (u / 10 % 10) = d := ⟨_, rfl⟩
  obtain ⟨d3, hd3⟩ : ∃ d, dg (u % 10) = d := ⟨_, rfl⟩
  rw [hz, ha, hd1, hd2, hd3] at HPS
  rw [ha, hd1, hd2, hd3] at HR
  rw [hz]
  have hcat : bA z ++ bA ds = bA (a ++ [d1, d2, d3]) := by rw [bA_app, HPS.out]
  have hal : a.length ≤ 24 := by have := congrArg List.length HPS.out; simp at this; omega
  have H3 := Lib.hid (fun W => trimR_any [d2, d3] W (by simp))
  clear hb1 hb3 hz ha hd1 hd2 hd3 H1 H2 HPS
  have hD : (bA (a ++ [d1, d2, d3])).size = a.length + 3 := by rw [bA_size]; simp
  have hs1 : ∀ W : World, (Instr.slice 9 (.string (bA (a ++ [d1, d2, d3]))) none (some (.int .i64 (a.length : Int))) none).run Tryz.prog W = .ok (.string (bA a)) W := fun W => by
    rw [run_slice_string_h W 9 _ Tryz.underlying9 .i64 _ (by omega) (by rw [hD]; omega)]
    rw [Int.toNat_natCast, Byt.take_ext]; simp
  have hs2 : ∀ W : World, (Instr.slice 9 (.string (bA (a ++ [d1, d2, d3]))) (some (.int .i64 (a.length : Int))) (some (.int .i64 ((a.length : Int) + 1))) none).run Tryz.prog W = .ok (.string (bA [d1])) W := fun W => by
    rw [run_slice_string W 9 _ .i64 .i64 _ _ Tryz.underlying9 (by omega) (by omega) (by rw [hD]; omega)]
    rw [Int.toNat_natCast, show ((a.length : Int) + 1).toNat = a.length + 1 by omega, Lib.extract_eq]; simp
  have hs3 : ∀ W : World, (Instr.slice 9 (.string (bA (a ++ [d1, d2, d3]))) (some (.int .i64 ((a.length : Int) + 1))) none none).run Tryz.prog W = .ok (.string (bA [d2, d3])) W := fun W => by
    rw [run_slice_string_l W 9 _ Tryz.underlying9 .i64 _ (by omega) (by rw [hD]; omega)]
    rw [show ((a.length : Int) + 1).toNat = a.length + 1 by omega, Byt.drop_ext]; simp
  obtain ⟨tr, htr⟩ : ∃ tr, Lib.trimRightB [d2, d3] 48 = tr := ⟨_, rfl⟩
  have htl : tr.length ≤ 2 := by
    rw [← htr]; unfold Lib.trimRightB; rw [List.length_reverse]
    have := (List.dropWhile_sublist (fun x : UInt8 => x == 48) (l := [d2, d3].reverse)).length_le
    simpa using this
  rw [htr] at H3 HR
  have hz1 : ∀ W : World, (Op.stringOp .add (bA a) ⟨#[46]⟩).run Tryz.prog W = .ok (.string (bA (a ++ [46]))) W := fun W => by
    rw [run_string_add_sum W (bA a) (bA [46]) (by simp only [bA_size, List.length_cons, List.length_nil]; omega), bA_app]
  have hz2 : ∀ W : World, (Op.stringOp .add (bA (a ++ [46])) (bA [d1])).run Tryz.prog W = .ok (.string (bA (a ++ [46] ++ [d1]))) W := fun W => by
    rw [run_string_add_sum W _ (bA [d1]) (by simp only [bA_size, List.length_append, List.length_cons, List.length_nil]; omega), bA_app]
  have hz3 : ∀ W : World, (Op.stringOp .add (bA (a ++ [46] ++ [d1])) (bA tr)).run Tryz.prog W = .ok (.string (bA (a ++ [46] ++ [d1] ++ tr))) W := fun W => by
    rw [run_string_add_sum W _ (bA tr) (by simp only [bA_size, List.length_append, List.length_cons, List.length_nil]; omega), bA_app]
  have hwr : IntKind.i64.wrap ((a.length : Int) + 1) = (a.length : Int) + 1 := IntWalk.i64_in _ (by omega)
  clear htr hD
  go_wp2_with fail
  go_quiet (first | (go_at_call 125; refine Calls.quiet_of_same (H3.out _)))
  have HF := Lib.hid (below_drewQ HB.out nq)
  clear hs1 hs2 hs3 hz1 hz2 hz3 hwr hcat
  cases g with
  | true =>
    go_wp2_with fail
    go_ret
    refine ⟨Oct.ret_str ?_, HF.out⟩
    rw [HR.out, bA_app (a ++ [46, d1]) tr]
    show bA [45] ++ bA _ = _
    rw [bA_app]
    simp
  | false =>
    go_wp2_with fail
    go_ret
    refine ⟨Oct.ret_str ?_, HF.out⟩
    rw [HR.out, bA_app]
    simp
end Go.Proofs.YtogjekjklknfeaaGreatDoor

/- The contract of a value's raw text. -/
namespace Go.Proofs.YtogjekjklknfeaaGreatDoor
open Go.RowKit Go.Shelf Go.Deep

theorem repl_one (c : UInt8) (new : List UInt8) : ∀ s : List UInt8, Lib.replaceK [c] new (Lib.count s [c]) s = s.flatMap fun b => if b = c then new else [b]
  | [] => by rw [Lib.count_one]; rfl
  | b :: l => by
    have ih := repl_one c new l
    by_cases h : b = c
    · subst h
      have hi : Lib.index (b :: l) [b] = ((0 : Nat) : Int) := by simp [Lib.index, List.isPrefixOf]
      rw [Lib.count_cons_eq, Nat.add_comm, Lib.replaceK_hit [b] new _ _ 0 hi]
      simp only [List.take_zero, List.nil_append, Nat.zero_add, List.length_cons, List.length_nil, List.drop_succ_cons, List.drop_zero]
      rw [ih]; simp
    · rw [Lib.count_cons_ne b c l h]
      have hp : List.isPrefixOf [c] (b :: l) = false := by simp [List.isPrefixOf]; exact fun e => h e.symm
      cases hk : Lib.count l [c] with
      | zero =>
        rw [hk] at ih
        simp only [Lib.replaceK] at ih ⊢
        rw [List.flatMap_cons, if_neg h, ← ih]; rfl
      | succ k =>
        obtain ⟨i, hi⟩ := Lib.index_of_count (s := l) (old := [c]) (by omega)
        have hi' : Lib.index (b :: l) [c] = ((i + 1 : Nat) : Int) := by
          rw [Lib.index, hp, hi]
          have : ((i : Int) == -1) = false := by rw [beq_eq_false_iff_ne]; omega
          rw [this]; simp
        rw [hk, Lib.replaceK_hit [c] new k l i hi] at ih
        rw [Lib.replaceK_hit [c] new k (b :: l) (i + 1) hi', List.flatMap_cons, if_neg h, ← ih]
        simp
theorem esc_is (s : List UInt8) : Lib.replaceAll (Lib.replaceAll s [92] [92, 92]) [34] [92, 34] = Sf.esc s := by
  have e1 : ∀ (t : List UInt8) (c : UInt8) (new : List UInt8), ([c] == new) = false → Lib.replaceAll t [c] new = t.flatMap fun b => if b = c then new else [b] := by
    intro t c new h
    unfold Lib.replaceAll Lib.replace Lib.replaceNum
    rw [h, if_neg (by simp), if_pos (by omega)]
    exact repl_one c new t
  rw [e1 s 92 [92, 92] (by decide), e1 _ 34 [92, 34] (by decide)]
  induction s with
  | nil => rfl
  | cons c r ih =>
    rw [List.flatMap_cons, List.flatMap_append, ih]
    by_cases h92 : c = 92
    · subst h92; rfl
    · by_cases h34 : c = 34
      · subst h34; rfl
      · simp [Sf.esc, h92, h34]
theorem repl_len (s : List UInt8) (c : UInt8) (new : List UInt8) : (s.flatMap fun b => if b = c then new else [b]).length ≤ s.length * (new.length + 1) := by
  induction s with
  | nil => simp
  | cons b s ih =>
    have hif : (if b = c then new else [b]).length ≤ new.length + 1 := by split <;> simp
    rw [List.flatMap_cons, List.length_append, List.length_cons, Nat.add_mul]
    omega
/-- The library's longest text for a search is a number. -/
def TabM (w : World) : Prop := ∃ m, w.cell? ⟨2, 0, none⟩ = some (.int .i64 m)
theorem TabM.below {w w' : World} (h : TabM w) (hb : Below w.heap.size w w') : TabM w' := by
  obtain ⟨m, hm⟩ := h
  exact ⟨m, by rw [hb.cell (World.block_lt_of_cell? _ _ hm)]; exact hm⟩
theorem replace_any (s : List UInt8) (c : UInt8) (new : List UInt8) (w : World) (hT : TabM w) (hs : s.length ≤ 100000) (hn : new.length ≤ 10) : Calls Tryz.prog 94 #[.string (bA s), .string (bA [c]), .string (bA new)] w fun e w' => e = .returned (.string (bA (Lib.replaceAll s [c] new))) ∧ Below w.heap.size w w' := by
  obtain ⟨m, hm⟩ := hT
  refine (Any.strings_ReplaceAll { Tryz.laysM155 with } Tryz.Builder_Extra_M155 (bA s) (bA [c]) (bA new) m w (by rw [bA_size]; omega) hm (Nat.le_refl _) ?_).mono ?_
  · have h1 := Lib.count_le s [c]
    have h2 : Lib.countB (bA s) (bA [c]) = Lib.count s [c] := rfl
    rw [h2, bA_size, bA_size]
    have h3 : Lib.count s [c] * new.length ≤ 100001 * 10 := Nat.mul_le_mul (by omega) hn
    omega
  · rintro e w' ⟨rfl, hb⟩
    exact ⟨rfl, hb⟩
/-- The text that a value would have. -/
def rawT (k n : Int) (t : List UInt8) : List UInt8 :=
  if k = 1 then Lib.itoa n else if k = 2 then Sf.decT n else if k = 3 then 34 :: (Sf.esc t ++ [34]) else if k = 4 then t else if k = 5 then 58 :: (t ++ [58]) else if k = 6 then 63 :: Lib.itoa n else []
theorem esc_len (t : List UInt8) : (Sf.esc t).length ≤ 2 * t.length := by
  induction t with
  | nil => simp [Sf.esc]
  | cons c r ih => rw [Sf.esc]; split <;> simp <;> omega
theorem itoa_short (n : Int) (h0 : -9223372036854775808 ≤ n) (h1 : n ≤ 9223372036854775807) : (Lib.itoa n).length ≤ 21 := by
  unfold Lib.itoa
  split
  · have := Sf.dec_len n.natAbs 20 (by omega) (by omega); simp; omega
  · have := Sf.dec_len n.toNat 20 (by omega) (by omega); omega

set_option maxHeartbeats 1000000 in
set_option maxRecDepth 20000 in
theorem raw_any (k n : Int) (t : List UInt8) (w : World) (h0 : -9223372036854775808 ≤ n) (h1 : n ≤ 9223372036854775807) (ht : t.length ≤ 10000) (hT : Tab w) (hM : TabM w) :
    Calls Tryz.prog 66 #[.agg #[.int .i64 k, .int .i64 n, .string (bA t)]] w fun e w' => e = .returned (.string (bA (rawT k n t))) ∧ Below w.heap.size w w' := by
  have hb0 : Below w.heap.size w (w.alloc (.cells #[.int .i64 k, .int .i64 n, .string (bA t)] 65)) := (Below.refl _ _).alloc (Nat.le_refl _) _
  have hT1 := hT.below hb0
  have hM1 := hM.below hb0
  have hsz0 : (w.alloc (.cells #[.int .i64 k, .int .i64 n, .string (bA t)] 65)).heap.size = w.heap.size + 1 := by simp
  have hon : ∀ W : World, Below (w.alloc (.cells #[.int .i64 k, .int .i64 n, .string (bA t)] 65)).heap.size (w.alloc (.cells #[.int .i64 k, .int .i64 n, .string (bA t)] 65)) W → Below w.heap.size w W := fun W h => hb0.trans (h.mono (by rw [hsz0]; omega))
  have HON := Lib.hid hon
  have HB0 := Lib.hid hb0
  have hil := itoa_short n h0 h1
  have hel := esc_len t
  have H1 := Lib.hid (itoa_all n _ h0 h1 hT1)
  clear hsz0 hon hb0
  by_cases k1 : k = 1
  · subst k1
    rw [show rawT 1 n t = Lib.itoa n from rfl]
    go_enter Tryz.func66, Tryz.ntmps66
    go_wp2_with fail
    refine H1.out.mono ?_
    rintro e w1 ⟨rfl, hb⟩
    go_wp2_with fail
    go_ret
    exact ⟨rfl, HON.out _ hb⟩
  by_cases k2 : k = 2
  · subst k2
    rw [show rawT 2 n t = Sf.decT n from rfl]
    have H2 := Lib.hid (decimalText_any n _ h0 h1 hT1)
    clear k1
    go_enter Tryz.func66, Tryz.ntmps66
    go_wp2_with fail
    refine H2.out.mono ?_
    rintro e w1 ⟨rfl, hb⟩
    go_wp2_with fail
    go_ret
    exact ⟨rfl, HON.out _ hb⟩
  by_cases k3 : k = 3
  · subst k3
    rw [show rawT 3 n t = 34 :: (Sf.esc t ++ [34]) from rfl]
    have H2 := Lib.hid (replace_any t 92 [92, 92] _ hM1 (by omega) (by simp))
    obtain ⟨t1, ht1⟩ : ∃ t1, Lib.replaceAll t [92] [92, 92] = t1 := ⟨_, rfl⟩
    have he : Lib.replaceAll t1 [34] [92, 34] = Sf.esc t := by rw [← ht1]; exact esc_is t
    have ht1l : t1.length ≤ 30000 := by
      have e1 : Lib.replaceAll t [92] [92, 92] = t.flatMap fun b => if b = 92 then [92, 92] else [b] := by
        unfold Lib.replaceAll Lib.replace Lib.replaceNum
        rw [show (([92] : List UInt8) == [92, 92]) = false from rfl, if_neg (by simp), if_pos (by omega)]
        exact repl_one 92 [92, 92] t
      have := repl_len t 92 [92, 92]
      rw [← ht1, e1]; simp only [List.length_cons, List.length_nil] at this; omega
    rw [ht1] at H2
    have H3 := Lib.hid (fun W (h : TabM W) => replace_any t1 34 [92, 34] W h (by omega) (by simp))
    rw [he] at H3
    have HM1 := Lib.hid hM1
    clear k1 k2 ht1 he hM1 hT1
    go_enter Tryz.func66, Tryz.ntmps66
    go_wp2_with fail
    refine H2.out.mono ?_
    rintro e w1 ⟨rfl, hb⟩
    have HM2 := Lib.hid (HM1.out.below hb)
    have HB1 := Lib.hid hb
    clear hb
    go_wp2_with fail
    refine (H3.out _ HM2.out).mono ?_
    rintro e w2 ⟨rfl, hb2⟩
    obtain ⟨es, hes⟩ : ∃ es, Sf.esc t = es := ⟨_, rfl⟩
    rw [hes] at hel
    rw [hes]
    have HB2 := Lib.hid (HON.out _ (HB1.out.trans (hb2.mono HB1.out.size)))
    have HES := Lib.hid hes
    clear hb2 hes
    go_wp2_with fail
    go_ret
    refine ⟨Oct.ret_str ?_, HB2.out⟩
    rw [HES.out]
    show bA [34] ++ bA es ++ bA [34] = _
    rw [bA_app [34] es, bA_app ([34] ++ es) [34]]; rfl
  by_cases k4 : k = 4
  · subst k4
    rw [show rawT 4 n t = t from rfl]
    clear k1 k2 k3
    go_enter Tryz.func66, Tryz.ntmps66
    go_wp2_with fail
    go_ret
    exact ⟨rfl, HB0.out⟩
  by_cases k5 : k = 5
  · subst k5
    rw [show rawT 5 n t = 58 :: (t ++ [58]) from rfl]
    clear k1 k2 k3 k4
    go_enter Tryz.func66, Tryz.ntmps66
    go_wp2_with fail
    go_ret
    refine ⟨Oct.ret_str ?_, HB0.out⟩
    show bA [58] ++ bA t ++ bA [58] = _
    rw [bA_app [58] t, bA_app ([58] ++ t) [58]]; rfl
  by_cases k6 : k = 6
  · subst k6
    rw [show rawT 6 n t = 63 :: Lib.itoa n from rfl]
    clear k1 k2 k3 k4 k5
    go_enter Tryz.func66, Tryz.ntmps66
    go_wp2_with fail
    refine H1.out.mono ?_
    rintro e w1 ⟨rfl, hb⟩
    obtain ⟨ni, hni⟩ : ∃ ni, Lib.itoa n = ni := ⟨_, rfl⟩
    rw [hni] at hil
    rw [hni]
    have HNI := Lib.hid hni
    clear hni
    go_wp2_with fail
    go_ret
    refine ⟨Oct.ret_str ?_, HON.out _ hb⟩
    rw [HNI.out]
    show bA [63] ++ bA ni = _
    rw [bA_app [63] ni]; rfl
  rw [show rawT k n t = [] by unfold rawT; rw [if_neg k1, if_neg k2, if_neg k3, if_neg k4, if_neg k5, if_neg k6]]
  have f1 : (k == 1) = false := by simpa using k1
  have f2 : (k == 2) = false := by simpa using k2
  have f3 : (k == 3) = false := by simpa using k3
  have f4 : (k == 4) = false := by simpa using k4
  have f5 : (k == 5) = false := by simpa using k5
  have f6 : (k == 6) = false := by simpa using k6
  clear k1 k2 k3 k4 k5 k6
  go_enter Tryz.func66, Tryz.ntmps66
  go_wp2_with fail
  go_ret
  exact ⟨rfl, HB0.out⟩
end Go.Proofs.YtogjekjklknfeaaGreatDoor

/- The contract of a value's written text. -/

namespace Go.Proofs.YtogjekjklknfeaaGreatDoor
open Go.RowKit Go.Shelf Go.Maps Go.Deep

theorem vtext_raw {k n : Int} {t v : List UInt8} (h : Sf.vtext k n t = some v) : v = rawT k n t := by
  unfold Sf.vtext at h
  unfold rawT
  split at h
  · cases h
  split at h
  · rename_i e; rw [if_pos e]; cases h; rfl
  rename_i k1; rw [if_neg k1]
  split at h
  · rename_i e; rw [if_pos e]; cases h; rfl
  rename_i k2; rw [if_neg k2]
  split at h
  · rename_i e
    subst e
    rw [if_neg (by decide), if_neg (by decide), if_neg (by decide), if_pos rfl]
    split at h
    · cases h; rfl
    · cases h
  rename_i k6
  split at h
  · rename_i e; rw [if_pos e]
    split at h
    · cases h; rfl
    · cases h
  rename_i k3; rw [if_neg k3]
  split at h
  · rename_i e; rw [if_pos e]
    split at h
    · cases h; rfl
    · cases h
  rename_i k4; rw [if_neg k4]
  split at h
  · rename_i e; rw [if_pos e]
    split at h
    · cases h; rfl
    · cases h
  · cases h
theorem vtext_yes {k n : Int} {t v : List UInt8} (h : Sf.vtext k n t = some v) : Sf.value (rawT k n t) = some (Sf.kv k n t, []) := by
  have := Sf.value_back h (r := []) (.inl rfl)
  rw [List.append_nil, vtext_raw h] at this
  exact this
theorem vtext_no {k n : Int} {t : List UInt8} (h : Sf.vtext k n t = none) : Sf.value (rawT k n t) ≠ some (Sf.kv k n t, []) := by
  intro hv
  obtain ⟨a, t', hr⟩ := Sf.value_reads hv
  have := hr.txt
  have e : Sf.vtext (Sf.kv k n t).kind (Sf.kv k n t).n (Sf.kv k n t).text = Sf.vtext k n t := rfl
  rw [e, h] at this
  cases this
/-- Two values compared. -/
def eqV (x y : Sf.Par) : Bool := x.kind == y.kind && (x.n == y.n && x.text == y.text)
theorem eqV_yes (x : Sf.Par) : eqV x x = true := by simp [eqV]
theorem bA_toList' (l : List UInt8) : (bA l).toList = l := by rw [ByteArray.toList_eq]
set_option maxHeartbeats 1000000 in
theorem eqIn_val (a b : Sf.Par) (w : World) : (Op.equalIn 10000 65 (valV a) (valV b)).run Tryz.prog w = .ok (eqV a b) w := by
  unfold valV vC
  simp [go_sem]
  unfold eqV
  (repeat' split) <;> simp_all
theorem num_key {sg : Int} {s r : List UInt8} {x : Sf.Par} (h : Sf.num sg s = some (x, r)) : x.key = [] := by
  rcases Sf.num_ways h with ⟨d, _, _, _, _, rfl, _⟩ | ⟨d, m, _, _, _, _, _, _, _, rfl, _⟩ <;> rfl
theorem val_key {x : Sf.Par} {s r : List UInt8} (h : Sf.value s = some (x, r)) : x.key = [] := by
  cases s with
  | nil => cases h
  | cons c s =>
    rw [Sf.value_cons] at h
    split at h
    · exact num_key h
    split at h
    · exact num_key h
    split at h
    · cases hq : Sf.quo s with
      | none => rw [hq] at h; cases h
      | some y => rw [hq] at h; cases h; rfl
    split at h
    · cases h; rfl
    split at h
    · split at h
      · cases h; rfl
      · cases h
    split at h
    · split at h
      · cases h; rfl
      split at h
      · cases h; rfl
      · cases h
    · cases h
theorem eqV_kv {x : Sf.Par} {k n : Int} {t : List UInt8} (hx : x.key = []) (h : eqV x (Sf.kv k n t) = true) : x = Sf.kv k n t := by
  obtain ⟨a, b, c, d⟩ := x
  simp only [eqV, Sf.kv, Bool.and_eq_true, beq_iff_eq] at h
  obtain ⟨h1, h2, h3⟩ := h
  simp only at hx h1 h2 h3
  subst hx h1 h2 h3
  rfl
/-- What 'written' answers. -/
def writV (o : Option (List UInt8)) : Value := .tuple #[.string (bA (o.getD [])), .bool o.isSome]

set_option maxHeartbeats 1000000 in
set_option maxRecDepth 20000 in
theorem written_any (k n : Int) (t : List UInt8) (w : World) (h0 : -9223372036854775808 ≤ n) (h1 : n ≤ 9223372036854775807) (ht : t.length ≤ 10000) (hT : Tab w) (hM : TabM w) :
    Calls Tryz.prog 38 #[.agg #[.int .i64 k, .int .i64 n, .string (bA t)]] w fun e w' => e = .returned (writV (Sf.vtext k n t)) ∧ Below w.heap.size w w' := by
  have hmf : ∀ (fn : Fn) (first cap : Array Value) (w : World), (Instr.makeFunc fn first cap).run Tryz.prog w = .ok (.func fn first cap) w := fun _ _ _ _ => rfl
  have hb0 : Below w.heap.size w (w.alloc (.cells (vC (Sf.kv k n t)) 65)) := (Below.refl _ _).alloc (Nat.le_refl _) _
  have H1 := Lib.hid (raw_any k n t _ h0 h1 ht (hT.below hb0) (hM.below hb0))
  have hbx := Lib.hid (CBox.new w 65 (vC (Sf.kv k n t)))
  have HB0 := Lib.hid hb0
  have HY := Lib.hid (fun v (h : Sf.vtext k n t = some v) => And.intro (vtext_raw h) (vtext_yes h))
  have HNO := Lib.hid (fun (h : Sf.vtext k n t = none) => vtext_no h)
  have hrl : (rawT k n t).length ≤ 30000 := by
    have e1 := itoa_short n h0 h1
    have e2 := esc_len t
    unfold rawT
    split
    · omega
    split
    · unfold Sf.decT
      have e3 := Sf.dec_len (n.natAbs / 1000) 20 (by omega) (by omega)
      have e4 := (Sf.frac_good (f := n.natAbs % 1000) (by omega)).2.2.1
      simp only [List.length_append, List.length_cons]
      split <;> simp <;> omega
    split
    · simp; omega
    split
    · omega
    split
    · simp; omega
    split
    · simp; omega
    · simp
  obtain ⟨rt, hrt⟩ : ∃ rt, rawT k n t = rt := ⟨_, rfl⟩
  rw [hrt] at H1 HY HNO hrl
  obtain ⟨o, ho⟩ : ∃ o, Sf.vtext k n t = o := ⟨_, rfl⟩
  rw [ho] at HY HNO ⊢
  clear hrt ho hb0 hT hM
  go_enter Tryz.func38, Tryz.ntmps38
  go_wp2_with fail
  refine H1.out.mono ?_
  rintro e w1 ⟨rfl, hb1⟩
  have hB1 := Lib.hid (HB0.out.trans (hb1.mono HB0.out.size))
  have hX1 := Lib.hid (hbx.out.keep hb1)
  have hsz1 : w.heap.size < w1.heap.size := hX1.out.lt
  have hR : Rd w1.heap.size rt (w1.alloc (.cells #[.string (bA rt)] 99)) := Boxed.new w1 _ _
  have H2 := Lib.hid (guardV_any w1.heap.size rt (Sf.value rt) _ hR 68 (enters_of Tryz.func68 (by kernel_rfl) rfl) (fun W h => value_any _ rt W h (by omega)))
  clear hb1 hbx HB0 H1 hR
  go_wp2_with fail
  refine H2.out.mono ?_
  rintro e w2 ⟨hg, ⟨x, r, hv, rfl⟩ | ⟨hv, rfl⟩⟩
  · have hB2 := Lib.hid ((hB1.out.alloc (o := .cells #[.string (bA rt)] 99) hB1.out.size).grown hg (by have := hB1.out.size; simp; omega) (fun j hj => by cases hj; omega))
    have hX2 := (hX1.out.alloc _).kept hg (by simp; omega)
    have c0 : w2.cell? ⟨w.heap.size, 0, none⟩ = some (.int .i64 k) := hX2.c 0
    have c1 : w2.cell? ⟨w.heap.size, 1, none⟩ = some (.int .i64 n) := hX2.c 1
    have c2 : w2.cell? ⟨w.heap.size, 2, none⟩ = some (.string (bA t)) := hX2.c 2
    have hlt2 := hX2.lt
    have hne : ¬ w2.heap.size = w.heap.size := by omega
    have hne' : ¬ w.heap.size = w2.heap.size := by omega
    have HV := Lib.hid hv
    have HK := Lib.hid (val_key hv)
    clear hv hg H2 hX1 hX2
    cases r with
    | cons c r =>
      have hn : o = none := by
        cases ho : o with
        | none => rfl
        | some v => have := (HY.out v ho).2; rw [HV.out] at this; cases this
      subst hn
      unfold valV vC
      go_wp2_with fail
      go_ret2
      exact ⟨rfl, below_al hB2.out _⟩
    | nil =>
      have heq : ∀ W : World, (Op.equalIn 10000 65 (.agg #[.int .i64 x.kind, .int .i64 x.n, .string (bA x.text)]) (.agg #[.int .i64 k, .int .i64 n, .string (bA t)])).run Tryz.prog W = .ok (eqV x (Sf.kv k n t)) W := fun W => eqIn_val x (Sf.kv k n t) W
      cases he : eqV x (Sf.kv k n t) with
      | true =>
        rw [he] at heq
        have hx := eqV_kv HK.out he
        have hn : o = some rt := by
          cases ho : o with
          | none => exact absurd (by rw [HV.out, hx]) (HNO.out ho)
          | some v => rw [(HY.out v ho).1]
        subst hn
        clear he hx
        unfold valV vC
        go_wp2_with fail
        go_ret2
        exact ⟨rfl, below_al hB2.out _⟩
      | false =>
        rw [he] at heq
        have hn : o = none := by
          cases ho : o with
          | none => rfl
          | some v =>
            have := (HY.out v ho).2
            rw [HV.out] at this
            simp only [Option.some.injEq, Prod.mk.injEq, and_true] at this
            rw [this, eqV_yes] at he
            cases he
        subst hn
        clear he
        unfold valV vC
        go_wp2_with fail
        go_ret2
        exact ⟨rfl, below_al hB2.out _⟩
  · have hB2 := Lib.hid ((hB1.out.alloc (o := .cells #[.string (bA rt)] 99) hB1.out.size).grown hg (by have := hB1.out.size; simp; omega) (fun j hj => by cases hj; omega))
    have hn : o = none := by
      cases ho : o with
      | none => rfl
      | some v => have := (HY.out v ho).2; rw [hv] at this; cases this
    subst hn
    clear hv hg H2
    unfold valV vC
    go_wp2_with fail
    go_ret2
    exact ⟨rfl, below_al hB2.out _⟩
end Go.Proofs.YtogjekjklknfeaaGreatDoor

/- The contract of sfitem.paramText. -/
namespace Go.Proofs.YtogjekjklknfeaaGreatDoor
open Go.RowKit Go.Shelf Go.Maps Go.Deep

theorem keyB_of {s k : List UInt8} (h : Sf.keyOf s = some (k, [])) : Sf.keyB s = true := by
  obtain ⟨h1, h2, _⟩ := Sf.keyOf_ways h
  rw [h1, List.append_nil]; exact h2
theorem keyB_back {s : List UInt8} (h : Sf.keyB s = true) : Sf.keyOf s = some (s, []) := by
  have := Sf.keyOf_back h (r := []) (.inl rfl)
  rwa [List.append_nil] at this
theorem ptext_no1 {p : Sf.Par} (h : Sf.keyB p.key = false) : Sf.ptext p = none := by unfold Sf.ptext; rw [h]; rfl
theorem ptext_no2 {p : Sf.Par} (h : Sf.vtext p.kind p.n p.text = none) : Sf.ptext p = none := by unfold Sf.ptext; rw [h]; split <;> rfl
theorem ptext_one {p : Sf.Par} {v : List UInt8} (hk : Sf.keyB p.key = true) (h : Sf.vtext p.kind p.n p.text = some v) (h1 : p.kind = 6 ∧ p.n = 1) : Sf.ptext p = some (59 :: p.key) := by
  unfold Sf.ptext; rw [hk, h]; simp [h1]
theorem ptext_two {p : Sf.Par} {v : List UInt8} (hk : Sf.keyB p.key = true) (h : Sf.vtext p.kind p.n p.text = some v) (h1 : ¬ (p.kind = 6 ∧ p.n = 1)) : Sf.ptext p = some (59 :: (p.key ++ 61 :: v)) := by
  unfold Sf.ptext; rw [hk, h]; simp only [if_true, Option.map_some, if_neg h1]
theorem eqV_one {p : Sf.Par} {v : List UInt8} (h : Sf.vtext p.kind p.n p.text = some v) : eqV (Sf.kv p.kind p.n p.text) (Sf.kv 6 1 []) = decide (p.kind = 6 ∧ p.n = 1) := by
  obtain ⟨_, _, h3, _, _⟩ := Sf.vtext_num h
  rw [Bool.eq_iff_iff, decide_eq_true_eq]
  simp only [eqV, Sf.kv, Bool.and_eq_true, beq_iff_eq]
  constructor
  · rintro ⟨h1, h2, _⟩; exact ⟨h1, h2⟩
  · rintro ⟨h1, h2⟩; exact ⟨h1, h2, h3 (by rw [h1]; rfl)⟩
theorem vtext_len {k n : Int} {t v : List UInt8} (h : Sf.vtext k n t = some v) (ht : t.length ≤ 10000) : v.length ≤ 30000 := by
  obtain ⟨h1, h2, _, _, _⟩ := Sf.vtext_num h
  unfold Sf.maxN at h1 h2
  rw [vtext_raw h]
  have e1 := itoa_short n (by omega) (by omega)
  have e2 := esc_len t
  unfold rawT
  split
  · omega
  split
  · unfold Sf.decT
    have e3 := Sf.dec_len (n.natAbs / 1000) 20 (by omega) (by omega)
    have e4 := (Sf.frac_good (f := n.natAbs % 1000) (by omega)).2.2.1
    simp only [List.length_append, List.length_cons]
    split <;> simp <;> omega
  split
  · simp; omega
  split
  · omega
  split
  · simp; omega
  split
  · simp; omega
  · simp
/-- A parameter that is not too great. -/
structure SmallP (p : Sf.Par) : Prop where
  n0 : -9223372036854775808 ≤ p.n
  n1 : p.n ≤ 9223372036854775807
  key : p.key.length ≤ 10000
  text : p.text.length ≤ 10000
structure RdyT (w : World) (p : Sf.Par) (Bv : Nat) (W : World) : Prop where
  b : Below w.heap.size w W
  pbox : CBox W w.heap.size 53 (pC p)
  vbox : CBox W Bv 65 (vC (Sf.kv p.kind p.n p.text))
theorem RdyT.all {w : World} {p : Sf.Par} {Bv : Nat} {W : World} (h : RdyT w p Bv W) : W.cell? ⟨Bv, 0, none⟩ = some (.int .i64 p.kind) ∧ W.cell? ⟨Bv, 1, none⟩ = some (.int .i64 p.n) ∧ W.cell? ⟨Bv, 2, none⟩ = some (.string (bA p.text)) ∧ RdyT w p Bv W := ⟨h.vbox.c 0, h.vbox.c 1, h.vbox.c 2, h⟩
theorem RdyT.on {w : World} {p : Sf.Par} {Bv : Nat} {W W' : World} (h : RdyT w p Bv W) (hb : Below W.heap.size W W') : RdyT w p Bv W' := ⟨h.b.trans (hb.mono h.b.size), h.pbox.keep hb, h.vbox.keep hb⟩
theorem RdyT.drew {w : World} {p : Sf.Par} {Bv : Nat} {W : World} (h : RdyT w p Bv W) : RdyT w p Bv W.drew := ⟨h.b.drew, h.pbox, h.vbox⟩

set_option maxHeartbeats 2000000 in
set_option maxRecDepth 20000 in
theorem paramText_any (p : Sf.Par) (w : World) (hp : SmallP p) (hT : Tab w) (hM : TabM w) :
    Calls Tryz.prog 39 #[.agg #[.string (bA p.key), .int .i64 p.kind, .int .i64 p.n, .string (bA p.text)]] w fun e w' => e = .returned (writV (Sf.ptext p)) ∧ Below w.heap.size w w' := by
  have hb0 : Below w.heap.size w ((w.alloc (.cells (pC p) 53)).alloc (.cells (vC (Sf.kv p.kind p.n p.text)) 65)) := below_al ((Below.refl _ _).alloc (Nat.le_refl _) _) _
  have hsz : (w.alloc (.cells (pC p) 53)).heap.size = w.heap.size + 1 := by simp
  have hr0 : RdyT w p (w.heap.size + 1) ((w.alloc (.cells (pC p) 53)).alloc (.cells (vC (Sf.kv p.kind p.n p.text)) 65)) := ⟨hb0, (CBox.new w _ _).alloc _, by rw [← hsz]; exact CBox.new _ _ _⟩
  have H1 := Lib.hid (written_any p.kind p.n p.text _ hp.n0 hp.n1 hp.text (hT.below hb0) (hM.below hb0))
  have hkl := hp.key
  have htl := hp.text
  have HVL := Lib.hid (fun v (h : Sf.vtext p.kind p.n p.text = some v) => vtext_len h htl)
  clear hb0 hsz hT hM hp
  go_enter Tryz.func39, Tryz.ntmps39
  go_wp2_with fail
  refine H1.out.mono ?_
  rintro e w1 ⟨rfl, hb1⟩
  have hr1 := hr0.on hb1
  have H2 := Lib.hid (fun W => key_is_any p.key W (by omega))
  have c0 : w1.cell? ⟨w.heap.size, 0, none⟩ = some (.string (bA p.key)) := hr1.pbox.c 0
  have HR1 := Lib.hid hr1
  clear hb1 hr0 hr1 H1
  unfold writV
  cases hv : Sf.vtext p.kind p.n p.text with
  | none =>
    have HN := Lib.hid (ptext_no2 hv)
    clear hv
    go_wp2_with fail
    refine (H2.out _).mono ?_
    rintro e w2 ⟨hb2, ⟨k, r, ho, rfl⟩ | ⟨ho, rfl⟩⟩
    all_goals
      have HB2 := Lib.hid (HR1.out.on hb2).b
      clear hb2 ho
      go_wp2_with fail
      go_ret2
      rw [HN.out]
      exact ⟨rfl, HB2.out⟩
  | some v =>
    have hvl := HVL.out v hv
    have HV := Lib.hid hv
    clear hv HVL
    go_wp2_with fail
    refine (H2.out _).mono ?_
    rintro e w2 ⟨hb2, ⟨k, r, ho, rfl⟩ | ⟨ho, rfl⟩⟩
    · cases r with
      | cons c r =>
        have hk : Sf.keyB p.key = false := by
          cases hk : Sf.keyB p.key with
          | false => rfl
          | true => rw [keyB_back hk] at ho; cases ho
        have HN := Lib.hid (ptext_no1 hk)
        have HB2 := Lib.hid (HR1.out.on hb2).b
        clear hb2 ho hk
        go_wp2_with fail
        go_ret2
        rw [HN.out]
        exact ⟨rfl, HB2.out⟩
      | nil =>
        have hk := keyB_of ho
        have HK := Lib.hid hk
        have hr2 := HR1.out.on hb2
        have heq : ∀ W : World, (Op.equalIn 10000 65 (.agg #[.int .i64 p.kind, .int .i64 p.n, .string (bA p.text)]) (.agg #[.int .i64 6, .int .i64 1, .string (bA [])])).run Tryz.prog W = .ok (decide (p.kind = 6 ∧ p.n = 1)) W := fun W => by rw [← eqV_one HV.out]; exact eqIn_val (Sf.kv p.kind p.n p.text) (Sf.kv 6 1 []) W
        clear hb2 ho hk c0
        by_cases h1 : p.kind = 6 ∧ p.n = 1
        · rw [decide_eq_true h1] at heq
          have HN := Lib.hid (ptext_one HK.out HV.out h1)
          clear h1
          go_wp2_with fail
          go_region_held3 (fun w' => w'.cell? ⟨w.heap.size + 1, 0, none⟩ = some (.int .i64 p.kind) ∧ w'.cell? ⟨w.heap.size + 1, 1, none⟩ = some (.int .i64 p.n) ∧ w'.cell? ⟨w.heap.size + 1, 2, none⟩ = some (.string (bA p.text)) ∧ RdyT w p (w.heap.size + 1) w')
            (first
              | exact hr2.all
              | exact hr2.drew.all
              | exact hr3.all)
            (first
              | (go_at_call 69; refine (truthV_any 1 _).mono ?_; rintro e w3 ⟨rfl, hb3⟩; have hr3 := hr2.drew.on hb3; unfold valV vC Sf.kv))
          rename_i hHeld
          have c0 : w3.cell? ⟨w.heap.size, 0, none⟩ = some (.string (bA p.key)) := hr3.pbox.c 0
          have HB3 := Lib.hid hr3.b
          clear hHeld hr2 hr3 hb3 heq
          go_wp2_with fail
          go_ret2
          rw [HN.out]
          refine ⟨?_, HB3.out⟩
          show Ending.returned (.tuple #[.string (bA [59] ++ bA p.key), .bool true]) = _
          rw [bA_app]; rfl
        · rw [decide_eq_false h1] at heq
          have HN := Lib.hid (ptext_two HK.out HV.out h1)
          clear h1
          go_wp2_with fail
          go_region_held3 (fun w' => w'.cell? ⟨w.heap.size + 1, 0, none⟩ = some (.int .i64 p.kind) ∧ w'.cell? ⟨w.heap.size + 1, 1, none⟩ = some (.int .i64 p.n) ∧ w'.cell? ⟨w.heap.size + 1, 2, none⟩ = some (.string (bA p.text)) ∧ RdyT w p (w.heap.size + 1) w')
            (first
              | exact hr2.all
              | exact hr2.drew.all
              | exact hr3.all)
            (first
              | (go_at_call 69; refine (truthV_any 1 _).mono ?_; rintro e w3 ⟨rfl, hb3⟩; have hr3 := hr2.drew.on hb3; unfold valV vC Sf.kv))
          rename_i hHeld
          have c0 : w3.cell? ⟨w.heap.size, 0, none⟩ = some (.string (bA p.key)) := hr3.pbox.c 0
          have HB3 := Lib.hid hr3.b
          clear hHeld hr2 hr3 hb3 heq
          go_wp2_with fail
          go_ret2
          rw [HN.out]
          refine ⟨?_, HB3.out⟩
          show Ending.returned (.tuple #[.string (bA [59] ++ bA p.key ++ bA [61] ++ bA v), .bool true]) = _
          rw [bA_app [59] p.key, bA_app _ [61], bA_app _ v]
          simp [writV]
    · have hk : Sf.keyB p.key = false := by
        cases hk : Sf.keyB p.key with
        | false => rfl
        | true => rw [keyB_back hk] at ho; cases ho
      have HN := Lib.hid (ptext_no1 hk)
      have HB2 := Lib.hid (HR1.out.on hb2).b
      clear hb2 ho hk
      go_wp2_with fail
      go_ret2
      rw [HN.out]
      exact ⟨rfl, HB2.out⟩
end Go.Proofs.YtogjekjklknfeaaGreatDoor

/- The contract of sfitem.Tail. -/
namespace Go.Proofs.YtogjekjklknfeaaGreatDoor
open Go.RowKit Go.Shelf Go.Maps Go.Deep

/-- Parameters that lie somewhere, nil let in. -/
def SeenP (w : World) (A : Option Addr) (l : List Sf.Par) : Prop := 0 < l.length → ∃ g o, A = some ⟨g, o, none⟩ ∧ g < w.heap.size ∧ ∀ i (h : i < l.length), w.cell? ⟨g, o + i * 4, none⟩ = some (.string (bA l[i].key)) ∧ w.cell? ⟨g, o + i * 4 + 1, none⟩ = some (.int .i64 l[i].kind) ∧ w.cell? ⟨g, o + i * 4 + 2, none⟩ = some (.int .i64 l[i].n) ∧ w.cell? ⟨g, o + i * 4 + 3, none⟩ = some (.string (bA l[i].text))
theorem SeenP.below {w w' : World} {A : Option Addr} {l : List Sf.Par} (h : SeenP w A l) (hb : Below w.heap.size w w') : SeenP w' A l := fun hn => by
  obtain ⟨g, o, rfl, hlt, hc⟩ := h hn
  refine ⟨g, o, rfl, Nat.lt_of_lt_of_le hlt hb.size, fun i hi => ?_⟩
  obtain ⟨h0, h1, h2, h3⟩ := hc i hi
  exact ⟨by rw [hb.cell hlt]; exact h0, by rw [hb.cell hlt]; exact h1, by rw [hb.cell hlt]; exact h2, by rw [hb.cell hlt]; exact h3⟩
/-- A list of one's own is seen. -/
theorem SeenP.own {w : World} {base : Nat} {A : Option Addr} {n c : Nat} {l : List Sf.Par} (h : w.ownsRow base 53 4 (.slice A n c) l.length (parsRow l)) : SeenP w A l := fun hn => by
  have hc := h
  obtain ⟨_, ⟨h1, h2⟩ | ⟨g, cap, cur, h1, hb, hg, _⟩⟩ := h
  · omega
  · cases h1
    refine ⟨g, 0, rfl, (Array.getElem?_eq_some_iff.1 hg).1, fun i hi => ?_⟩
    have hr := parsRow_at l i hi
    simp only [Nat.zero_add]
    exact ⟨(own_cell hc hr.1).1, (own_cell hc hr.2.1).1, (own_cell hc hr.2.2.1).1, (own_cell hc hr.2.2.2).1⟩

theorem bldr_kept {T e : TypeId} {B b : Nat} {bs : List Value} {w w' : World} {row : Option Nat} (h : Lib.IsBuilderF T e B b bs w) (hg : w.grownBy w' row) (h1 : some b ≠ row) (h2 : ∀ g c fz, row = some g → w.heap[g]? ≠ some (.cells c e fz)) : Lib.IsBuilderF T e B b bs w' := by
  have one : ∀ p, Lib.BuilderAtF T e B b p bs w → Lib.BuilderAtF T e B b p bs w' := by
    rintro p ⟨hB, v, hb, hown, hne⟩
    have hlt : b < w.heap.size := (Array.getElem?_eq_some_iff.1 hb).1
    refine ⟨hB, v, by rw [hg.block b hlt h1]; exact hb, hown.kept hg ?_, hne⟩
    rcases hown.2 with ⟨rfl, _⟩ | ⟨g, cap, cur, fz, rfl, _, hgg, _⟩
    · exact .inl rfl
    · refine .inr (fun e => ?_)
      exact h2 g cur fz e.symm hgg
  exact h.elim (fun x => .inl (one _ x)) (fun x => .inr (one _ x))
theorem bldr_below {T e : TypeId} {B b : Nat} {bs : List Value} {w w' : World} (h : Lib.IsBuilderF T e B b bs w) (hb : Below w.heap.size w w') : Lib.IsBuilderF T e B b bs w' := bldr_kept h (below_g hb none) (by simp) (by simp)
theorem map_others {D : DataW Unit} {b m n : Nat} {R : Value → Option (DataW Unit × List MemPlace)} {w w' : World} (h : w.ownsMap Tryz.prog 9 R m n D) (hk : Lib.OthersKept 5 (some b) w w') (hne : m ≠ b) : w'.ownsMap Tryz.prog 9 R m n D := by
  obtain ⟨es, clock, h1, h2⟩ := h
  exact ⟨es, clock, hk m _ h1 (by simpa using hne) (fun c fz e => by cases e), h2⟩
theorem map_not {D : DataW Unit} {m n : Nat} {R : Value → Option (DataW Unit × List MemPlace)} {w : World} (h : w.ownsMap Tryz.prog 9 R m n D) : ∀ g c fz, some m = some g → w.heap[g]? ≠ some (.cells c 5 fz) := by
  rintro g c fz hg he
  cases hg
  obtain ⟨es, clock, h1, _⟩ := h
  rw [h1] at he; cases he
theorem writeS_any (b : Nat) (l s : List UInt8) (w : World) (h : Lib.IsBuilderF 70 5 b b (Lib.byteCells l) w) (hlen : l.length + s.length ≤ 140737488355328) :
    Calls Tryz.prog 40 #[.pointer (some ⟨b, 0, none⟩), .string (bA s)] w fun e w' => e = .returned (.tuple #[.int .i64 s.length, .nilIface]) ∧ Lib.IsBuilderF 70 5 b b (Lib.byteCells (l ++ s)) w' ∧ Below b w w' ∧ Lib.OthersKept 5 (some b) w w' := by
  have hb : b ≤ w.heap.size := by
    rcases h with ⟨_, v, hb, _⟩ | ⟨_, v, hb, _⟩ <;> exact Nat.le_of_lt (Array.getElem?_eq_some_iff.1 hb).1
  refine (Any.Builder_WriteString_k { Tryz.lays105 with } Tryz.Builder_Extra_105 b b (Lib.byteCells l) (bA s) w h (by rw [Lib.byteCells_length, bA_size]; exact hlen) hb).mono ?_
  rintro e w' ⟨rfl, h1, h2, h3⟩
  refine ⟨rfl, .inr ?_, h2, h3⟩
  have : Lib.byteCells l ++ Lib.strCells (bA s) = Lib.byteCells (l ++ s) := by simp [Lib.byteCells, Lib.strCells]
  rw [← this]; exact h1
theorem string_any (b : Nat) (l : List UInt8) (w : World) (h : Lib.IsBuilderF 70 5 b b (Lib.byteCells l) w) :
    Calls Tryz.prog 41 #[.pointer (some ⟨b, 0, none⟩)] w fun e w' => e = .returned (.string (bA l)) ∧ Below b w w' := by
  have hb : b ≤ w.heap.size := by
    rcases h with ⟨_, v, hb, _⟩ | ⟨_, v, hb, _⟩ <;> exact Nat.le_of_lt (Array.getElem?_eq_some_iff.1 hb).1
  refine (Any.Builder_String_any_k Tryz.lays169 Tryz.Builder_Extra_169 b b l w h hb).mono ?_
  rintro e w' ⟨rfl, _, h2, _⟩
  exact ⟨rfl, h2⟩

/-- The set of the keys that have come. -/
structure KeySet (D : DataW Unit) (ks : List (List UInt8)) : Prop where
  isMap : IsMap D
  has : ∀ k, Maps.has D (.string k) = decide (k ∈ ks)
theorem KeySet.nil : KeySet (.map []) [] := ⟨isMap_empty, fun k => by simp [Maps.has]⟩
theorem KeySet.put {D : DataW Unit} {ks : List (List UInt8)} (h : KeySet D ks) (k : List UInt8) : KeySet (D.put (.string k) (.agg [])) (ks ++ [k]) := by
  refine ⟨h.isMap.put _ _, fun k' => ?_⟩
  by_cases e : k' = k
  · subst e
    rw [has_put_same h.isMap (by trivial)]; simp
  · rw [has_put_other (by intro x; cases x; exact e rfl), h.has]; simp [e]
structure SmallL (l : List Sf.Par) : Prop where
  len : l.length ≤ 10000
  each : ∀ p ∈ l, SmallP p
/-- What Tail and Text answer. -/
def textV (o : Option (List UInt8)) : Value := .tuple #[.string (bA (o.getD [])), .int .i64 (if o.isSome then 0 else 50)]
structure TInv (w : World) (l : List Sf.Par) (j : Nat) (wr : World) (t : List UInt8) (D : DataW Unit) : Prop where
  jl : j ≤ l.length
  b : Lib.IsBuilderF 70 5 w.heap.size w.heap.size (Lib.byteCells t) wr
  map : wr.ownsMap Tryz.prog 9 (unitElem (H := Unit)) (w.heap.size + 1) j D
  set : KeySet D (Sf.keys (l.take j))
  below : Below w.heap.size w wr
  sz : w.heap.size + 2 ≤ wr.heap.size
  len : t.length ≤ j * 60000
  eq : Sf.tailF [] l = (Sf.tailF (Sf.keys (l.take j)) (l.drop j)).map fun x => t ++ x
theorem ptext_len {p : Sf.Par} {t : List UInt8} (h : Sf.ptext p = some t) (hp : SmallP p) : t.length ≤ 60000 := by
  unfold Sf.ptext at h
  split at h
  · cases hv : Sf.vtext p.kind p.n p.text with
    | none => rw [hv] at h; cases h
    | some v =>
      rw [hv] at h
      simp only [Option.map_some, Option.some.injEq] at h
      have h1 := vtext_len hv hp.text
      have h2 := hp.key
      rw [← h]
      simp only [List.length_cons, List.length_append]
      split
      · simp; omega
      · simp only [List.length_cons]; omega
  · cases h
theorem tail_step {l : List Sf.Par} {j : Nat} (hj : j < l.length) (seen : List (List UInt8)) : Sf.tailF seen (l.drop j) = if l[j].key ∈ seen then none else match Sf.ptext l[j] with | none => none | some a => (Sf.tailF (seen ++ [l[j].key]) (l.drop (j + 1))).map fun b => a ++ b := by
  rw [List.drop_eq_getElem_cons hj, Sf.tailF]; rfl
theorem keys_take {l : List Sf.Par} {j : Nat} (hj : j < l.length) : Sf.keys (l.take (j + 1)) = Sf.keys (l.take j) ++ [l[j].key] := by
  rw [List.take_succ_eq_append_getElem hj]; unfold Sf.keys; rw [List.map_append]; rfl
theorem zero_unit (w : World) : (zeroValue 58).run Tryz.prog w = .ok (.agg #[]) w := by kernel_rfl

set_option maxHeartbeats 4000000 in
set_option maxRecDepth 100000 in
theorem tail_any (A : Option Addr) (cp : Nat) (l : List Sf.Par) (w : World) (hA : SeenP w A l) (hS : SmallL l) (hT : Tab w) (hM : TabM w) :
    Calls Tryz.prog 22 #[.slice A l.length cp] w fun e w' => e = .returned (textV (Sf.tailF [] l)) ∧ Below w.heap.size w w' := by
  have hmm := @run_makeMap Tryz.prog
  have hsz : (w.alloc (.cells #[.pointer none, .slice none 0 0] 70)).heap.size = w.heap.size + 1 := by simp
  have hst : TInv w l 0 ((w.alloc (.cells #[.pointer none, .slice none 0 0] 70)).alloc (.map #[] 0)) [] (.map []) :=
    ⟨Nat.zero_le _, bldr_below (Lib.IsBuilderF.of (Lib.fresh_isBuilder _ _ w)) ((Below.refl _ _).alloc (Nat.le_refl _) _), by rw [← hsz]; exact World.ownsMap_made _ _ _ _, KeySet.nil, below_al ((Below.refl _ _).alloc (Nat.le_refl _) _) _, by simp, by simp, by simp [Sf.keys]⟩
  have HS := Lib.hid hst
  have hlen := hS.len
  have HE := Lib.hid hS.each
  have HA := Lib.hid hA; have HT := Lib.hid hT; have HM := Lib.hid hM
  obtain ⟨o, ho⟩ : ∃ o, Sf.tailF [] l = o := ⟨_, rfl⟩
  rw [ho]
  have HO := Lib.hid ho
  clear hst hsz hS hA hT hM ho
  go_enter Tryz.func22, Tryz.ntmps22
  go_wp2_with fail
  go_loopg [15] l.length (fun k i wr => ∃ j t D, l.length - j = k ∧ i = .int .i64 ((j : Nat) : Int) ∧ TInv w l j wr t D)
  case atStart => exact ⟨0, [], .map [], rfl, rfl, HS.out⟩
  case round =>
    obtain ⟨j, t, D, hk, rfl, hI⟩ := hrel
    have HI := Lib.hid hI
    have hjl := hI.jl
    have hsz := hI.sz
    clear hI HS hmm
    by_cases hj : j < l.length
    · obtain ⟨g, of, rfl, hab, hcell⟩ := HA.out.below HI.out.below (by omega)
      obtain ⟨c0, c1, c2, c3⟩ := hcell j hj
      obtain ⟨p, hp⟩ : ∃ p, l[j] = p := ⟨_, rfl⟩
      rw [hp] at c0 c1 c2 c3
      have hsp : SmallP p := by rw [← hp]; exact HE.out _ (List.getElem_mem hj)
      have HP := Lib.hid hp
      have HSP := Lib.hid hsp
      have hkl := hsp.key
      clear hp hcell hsp
      have hbp : Below wr.heap.size wr (wr.alloc (.cells (pC p) 53)) := (Below.refl _ _).alloc (Nat.le_refl _) _
      have hbw : Below w.heap.size w (wr.alloc (.cells (pC p) 53)) := below_al HI.out.below _
      have H1 := Lib.hid (paramText_any p _ HSP.out (HT.out.below hbw) (HM.out.below hbw))
      have HBP := Lib.hid hbp
      have HBX := Lib.hid (CBox.new wr 53 (pC p))
      clear hbp hbw
      go_wp2_with fail
      refine H1.out.mono ?_
      rintro e w1 ⟨rfl, hb1⟩
      have hB := HBP.out.trans (hb1.mono HBP.out.size)
      have hx1 := HBX.out.keep hb1
      have hsz1 := hB.size
      have HB1 := Lib.hid (bldr_below HI.out.b hB)
      have HM1 := Lib.hid (HI.out.map.kept (below_g hB none) (by simp))
      have HW1 := Lib.hid (HI.out.below.trans (hB.mono (by omega)))
      have d0 : w1.cell? ⟨wr.heap.size, 0, none⟩ = some (.string (bA p.key)) := hx1.c 0
      have HX1 := Lib.hid hx1
      have hlt1 := hx1.lt
      have HKL := Lib.hid (key_str p.key (by unfold maxLen; omega))
      have HST := Lib.hid (tail_step hj (Sf.keys (l.take j)))
      have HKT := Lib.hid (keys_take hj)
      rw [HP.out] at HST HKT
      clear hB hb1 hx1 H1 HBP HBX c0 c1 c2 c3 hab
      unfold writV
      cases hpt : Sf.ptext p with
      | none =>
        have hn : o = none := by
          rw [← HO.out, HI.out.eq, HST.out, hpt]
          split <;> rfl
        subst hn
        clear hpt
        go_wp2_with (at_lookup; refine wpList_lookup_own_unit _ rfl _ _ 57 rfl 9 58 law_str Tryz.underlying57 (zero_unit _) (w.heap.size + 1) j D rfl HM1.out _ _ rfl HKL.out ?_)
        go_ret2
        exact ⟨rfl, below_al HW1.out _⟩
      | some tx =>
        have htl := ptext_len hpt HSP.out
        by_cases hmem : p.key ∈ Sf.keys (l.take j)
        · have hn : o = none := by rw [← HO.out, HI.out.eq, HST.out, if_pos hmem]; rfl
          subst hn
          have hh : Maps.has D (.string p.key) = true := by rw [HI.out.set.has]; simpa using hmem
          clear hpt hmem
          go_wp2_with (at_lookup; refine wpList_lookup_own_unit _ rfl _ _ 57 rfl 9 58 law_str Tryz.underlying57 (zero_unit _) (w.heap.size + 1) j D rfl HM1.out _ _ rfl HKL.out ?_)
          go_ret2
          exact ⟨rfl, below_al HW1.out _⟩
        · have hh : Maps.has D (.string p.key) = false := by rw [HI.out.set.has]; simpa using hmem
          have HE2 : Hid (Sf.tailF [] l = (Sf.tailF (Sf.keys (l.take (j + 1))) (l.drop (j + 1))).map fun x => (t ++ tx) ++ x) := by
            rw [Hid, HI.out.eq, HST.out, if_neg hmem, hpt, HKT.out]
            simp only [Option.map_map]
            congr 1
            funext x
            simp
          have htt := HI.out.len
          clear hpt hmem HST
          go_wp2_with (first
            | (at_lookup; refine wpList_lookup_own_unit _ rfl _ _ 57 rfl 9 58 law_str Tryz.underlying57 (zero_unit _) (w.heap.size + 1) j D rfl HM1.out _ _ rfl HKL.out ?_)
            | (at_mapUpdate; refine wpList_mapUpdate_own _ rfl _ _ _ 57 rfl 9 58 law_str Tryz.underlying57 (unitElem (H := Unit)) (w.heap.size + 1) j D rfl (HM1.out.alloc _) ?_ _ _ _ rfl rfl HKL.out _ [] unitElem_mk ?_))
          · unfold maxLen; omega
          intro w2 hm2 hg2
          have HB2 := Lib.hid (bldr_kept (bldr_below HB1.out ((Below.refl _ _).alloc (Nat.le_refl _) (.cells #[] 58))) hg2 (by simp) (map_not (HM1.out.alloc _)))
          have HW2 := Lib.hid ((below_al HW1.out (.cells #[] 58)).grown hg2 (by have := HW1.out.size; simp; omega) (fun k hk => by cases hk; omega))
          have HM2 := Lib.hid hm2
          have hsz2 := hg2.size
          have H3 := Lib.hid (writeS_any w.heap.size t tx w2 HB2.out (by omega))
          clear hm2 hg2 HB1 HM1 HW1 hh d0 HX1
          go_wp2_with fail
          refine H3.out.mono ?_
          rintro e w3 ⟨rfl, hb3, hw3, hk3⟩
          have HB3 := Lib.hid hb3
          have HW3 := Lib.hid (HW2.out.trans hw3)
          have HM3 := Lib.hid (map_others HM2.out hk3 (by omega))
          have hsz3 := hw3.size
          clear hb3 hw3 hk3 H3
          go_wp2_with fail
          go_roundg (l.length - (j + 1))
          case measure => omega
          case rel =>
            refine ⟨j + 1, t ++ tx, D.put (.string p.key) (.agg []), rfl, by go_num, ?_⟩
            exact { jl := by omega
                    b := HB3.out
                    map := HM3.out
                    set := by rw [HKT.out]; exact HI.out.set.put p.key
                    below := HW3.out
                    sz := by simp at hsz2; omega
                    len := by rw [List.length_append]; omega
                    eq := HE2.out }
    · have hjj : j = l.length := by omega
      subst hjj
      have hn : o = some t := by
        rw [← HO.out, HI.out.eq, List.drop_length, Sf.tailF]; simp
      subst hn
      have H1 := Lib.hid (string_any w.heap.size t wr HI.out.b)
      go_wp2_with fail
      refine H1.out.mono ?_
      rintro e w1 ⟨rfl, hb1⟩
      have HW := Lib.hid (HI.out.below.trans hb1)
      clear hb1 H1
      go_wp2_with fail
      go_ret2
      exact ⟨rfl, HW.out⟩
end Go.Proofs.YtogjekjklknfeaaGreatDoor

/- The contract of sfitem.Text. -/

namespace Go.Proofs.YtogjekjklknfeaaGreatDoor
open Go.RowKit Go.Shelf Go.Maps Go.Deep

theorem tail_len : ∀ {l : List Sf.Par} {seen : List (List UInt8)} {t : List UInt8}, Sf.tailF seen l = some t → (∀ p ∈ l, SmallP p) → t.length ≤ l.length * 60000
  | [], _, _, h, _ => by rw [Sf.tailF] at h; cases h; simp
  | p :: l, seen, t, h, hs => by
    rw [Sf.tailF] at h
    split at h
    · cases h
    · cases hp : Sf.ptext p with
      | none => rw [hp] at h; cases h
      | some a =>
        rw [hp] at h
        cases ht : Sf.tailF (seen ++ [p.key]) l with
        | none => simp only [ht] at h; cases h
        | some b =>
          simp only [ht, Option.map_some, Option.some.injEq] at h
          have h1 := ptext_len hp (hs p (by simp))
          have h2 := tail_len ht (fun q hq => hs q (by simp [hq]))
          rw [← h, List.length_append, List.length_cons]; omega
/-- An item that is not too great. -/
structure SmallI (k n : Int) (t : List UInt8) (l : List Sf.Par) : Prop where
  n0 : -9223372036854775808 ≤ n
  n1 : n ≤ 9223372036854775807
  text : t.length ≤ 10000
  params : SmallL l

set_option maxHeartbeats 1000000 in
set_option maxRecDepth 20000 in
theorem text_any (k n : Int) (t : List UInt8) (A : Option Addr) (cp : Nat) (l : List Sf.Par) (w : World) (hS : SmallI k n t l) (hA : SeenP w A l) (hT : Tab w) (hM : TabM w) :
    Calls Tryz.prog 21 #[.agg #[.int .i64 k, .int .i64 n, .string (bA t), .slice A l.length cp]] w fun e w' => e = .returned (textV (Sf.text ⟨k, n, t, l⟩)) ∧ Below w.heap.size w w' := by
  have hb0 : Below w.heap.size w (w.alloc (.cells (iC k n t (.slice A l.length cp)) 35)) := (Below.refl _ _).alloc (Nat.le_refl _) _
  have H1 := Lib.hid (written_any k n t _ hS.n0 hS.n1 hS.text (hT.below hb0) (hM.below hb0))
  have HBX := Lib.hid (CBox.new w 35 (iC k n t (.slice A l.length cp)))
  have HB0 := Lib.hid hb0
  have HS := Lib.hid hS; have HA := Lib.hid hA; have HT := Lib.hid hT; have HM := Lib.hid hM
  have HX : Hid (Sf.text ⟨k, n, t, l⟩ = match Sf.vtext k n t with | none => none | some a => (Sf.tailF [] l).map fun b => a ++ b) := Lib.hid rfl
  obtain ⟨o, ho⟩ : ∃ o, Sf.text ⟨k, n, t, l⟩ = o := ⟨_, rfl⟩
  rw [ho] at HX ⊢
  have hll := hS.params.len
  clear ho hb0 hS hA hT hM
  go_enter Tryz.func21, Tryz.ntmps21
  go_wp2_with fail
  refine H1.out.mono ?_
  rintro e w1 ⟨rfl, hb1⟩
  have hB1 := HB0.out.trans (hb1.mono HB0.out.size)
  have hx1 := HBX.out.keep hb1
  have c3 : w1.cell? ⟨w.heap.size, 3, none⟩ = some (.slice A l.length cp) := hx1.c 3
  have H2 := Lib.hid (tail_any A cp l w1 (HA.out.below hB1) HS.out.params (HT.out.below hB1) (HM.out.below hB1))
  have HB1 := Lib.hid hB1
  clear hB1 hx1 hb1 H1 HBX HB0
  obtain ⟨ov, hov⟩ : ∃ ov, Sf.vtext k n t = ov := ⟨_, rfl⟩
  obtain ⟨ot, hot⟩ : ∃ ot, Sf.tailF [] l = ot := ⟨_, rfl⟩
  have HOV := Lib.hid hov
  have HOT := Lib.hid hot
  rw [hov, hot] at HX
  rw [hot] at H2
  rw [hov]
  clear hov hot
  unfold writV
  go_wp2_with fail
  refine H2.out.mono ?_
  rintro e w2 ⟨rfl, hb2⟩
  have HB2 := Lib.hid (HB1.out.trans (hb2.mono HB1.out.size))
  clear hb2 H2 c3
  unfold textV
  cases ov with
  | none =>
    have hn : o = none := HX.out
    subst hn
    cases ot with
    | none =>
      go_wp2_with fail
      go_ret2
      exact ⟨rfl, HB2.out⟩
    | some b =>
      go_wp2_with fail
      go_ret2
      exact ⟨rfl, HB2.out⟩
  | some a =>
    cases ot with
    | none =>
      have hn : o = none := HX.out
      subst hn
      go_wp2_with fail
      go_ret2
      exact ⟨rfl, HB2.out⟩
    | some b =>
      have hn : o = some (a ++ b) := HX.out
      subst hn
      have hal := vtext_len HOV.out HS.out.text
      have hbl := tail_len HOT.out HS.out.params.each
      have hb2 : b.length ≤ 10000 * 60000 := Nat.le_trans hbl (Nat.mul_le_mul hll (Nat.le_refl _))
      clear hbl
      go_wp2_with fail
      go_ret2
      refine ⟨?_, HB2.out⟩
      show Ending.returned (.tuple #[.string (bA a ++ bA b), .int .i64 0]) = _
      rw [bA_app]; rfl
end Go.Proofs.YtogjekjklknfeaaGreatDoor
