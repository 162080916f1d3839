/- The contracts of the document's names, Within, has, Union, Popup. -/
import Derived.Test.YtnnjfiknfmjliaaSbMath
import Derived.Test.YtnnjfiknfmjliaaOnto
import Derived.Test.YtnnjfiknfmjliaaTxIn
namespace Go.Proofs.Ytnnjfiknfmjliaa
open Go.RowKit

/-- The six words' texts lie in a block. -/
def Names6 (w : World) (A : Option Addr) : Prop := SeenT w A Sb.nms
theorem rnames_any (w : World) : Calls Try.prog 25 #[] w fun e w' => ∃ A, e = .returned (.slice A 6 6) ∧ Below w.heap.size w w' ∧ SeenT w' A Sb.nms := by
  go_enter Try.func25, Try.ntmps25
  go_wp2_with fail
  go_ret
  refine ⟨_, rfl, (Below.refl _ w).alloc (Nat.le_refl _) _, fun _ => ⟨w.heap.size, 0, rfl, by simp, fun i hi => ?_⟩⟩
  have hi' : i < 6 := hi
  have hb := CBox.new w 9 #[.string (bA Sb.n0), .string (bA Sb.n1), .string (bA Sb.n2), .string (bA Sb.n3), .string (bA Sb.n4), .string (bA Sb.n5)]
  match i, hi' with
  | 0, _ => exact hb.c 0
  | 1, _ => exact hb.c 1
  | 2, _ => exact hb.c 2
  | 3, _ => exact hb.c 3
  | 4, _ => exact hb.c 4
  | 5, _ => exact hb.c 5
theorem and63 (x : Int) : bits .and .i64 x 63 = x % 64 := by
  have e : ∀ n : Nat, n &&& 63 = n % 64 := fun n => by
    have := Nat.and_two_pow_sub_one_eq_mod n 6
    simpa using this
  show IntKind.i64.wrap ((BitVec.ofInt 64 x &&& BitVec.ofInt 64 63).toNat : Int) = _
  rw [BitVec.toNat_and, show (BitVec.ofInt 64 63).toNat = 63 from rfl, e]
  have h1 : ((BitVec.ofInt 64 x).toNat : Int) = x % 18446744073709551616 := by
    rw [BitVec.toNat_ofInt]
    have : 0 ≤ x % 18446744073709551616 := Int.emod_nonneg _ (by decide)
    omega
  have h2 : (((BitVec.ofInt 64 x).toNat % 64 : Nat) : Int) = x % 64 := by omega
  rw [h2]
  have h3 : 0 ≤ x % 64 := Int.emod_nonneg _ (by decide)
  have h4 : x % 64 < 64 := Int.emod_lt_of_pos _ (by decide)
  rw [IntKind.wrap_i64]
  omega
theorem rwithin_any (x : Int) (w : World) : Calls Try.prog 26 #[.int .i64 x] w fun e w' => e = .returned (.int .i64 (x % 64)) ∧ w = w' := by
  have h := and63 x
  go_enter Try.func26, Try.ntmps26
  go_wp2_with fail
  go_ret
  exact ⟨rfl, rfl⟩
theorem rhas0_any (x : Int) (w : World) (h0 : 0 ≤ x) (h1 : x ≤ 63) : Calls Try.prog 27 #[.int .i64 x, .int .i64 1] w fun e w' => e = .returned (.bool (Sb.bit x 0)) ∧ w = w' := by
  have hb : Sb.bit x 0 = (x / 1 % 2 == 1) := by
    unfold Sb.bit
    rw [Int.emod_eq_of_lt h0 (by omega), show (2 : Int) ^ 0 = 1 from rfl]
  rw [hb]
  go_enter Try.func27, Try.ntmps27
  go_wp2_with fail
  go_ret
  exact ⟨by simp, rfl⟩
theorem rhas1_any (x : Int) (w : World) (h0 : 0 ≤ x) (h1 : x ≤ 63) : Calls Try.prog 27 #[.int .i64 x, .int .i64 2] w fun e w' => e = .returned (.bool (Sb.bit x 1)) ∧ w = w' := by
  have hb : Sb.bit x 1 = (x / 2 % 2 == 1) := by
    unfold Sb.bit
    rw [Int.emod_eq_of_lt h0 (by omega), show (2 : Int) ^ 1 = 2 from rfl]
  rw [hb]
  go_enter Try.func27, Try.ntmps27
  go_wp2_with fail
  go_ret
  exact ⟨by rfl, rfl⟩
theorem rhas2_any (x : Int) (w : World) (h0 : 0 ≤ x) (h1 : x ≤ 63) : Calls Try.prog 27 #[.int .i64 x, .int .i64 4] w fun e w' => e = .returned (.bool (Sb.bit x 2)) ∧ w = w' := by
  have hb : Sb.bit x 2 = (x / 4 % 2 == 1) := by
    unfold Sb.bit
    rw [Int.emod_eq_of_lt h0 (by omega), show (2 : Int) ^ 2 = 4 from rfl]
  rw [hb]
  go_enter Try.func27, Try.ntmps27
  go_wp2_with fail
  go_ret
  exact ⟨by rfl, rfl⟩
theorem rhas3_any (x : Int) (w : World) (h0 : 0 ≤ x) (h1 : x ≤ 63) : Calls Try.prog 27 #[.int .i64 x, .int .i64 8] w fun e w' => e = .returned (.bool (Sb.bit x 3)) ∧ w = w' := by
  have hb : Sb.bit x 3 = (x / 8 % 2 == 1) := by
    unfold Sb.bit
    rw [Int.emod_eq_of_lt h0 (by omega), show (2 : Int) ^ 3 = 8 from rfl]
  rw [hb]
  go_enter Try.func27, Try.ntmps27
  go_wp2_with fail
  go_ret
  exact ⟨by rfl, rfl⟩
theorem rhas4_any (x : Int) (w : World) (h0 : 0 ≤ x) (h1 : x ≤ 63) : Calls Try.prog 27 #[.int .i64 x, .int .i64 16] w fun e w' => e = .returned (.bool (Sb.bit x 4)) ∧ w = w' := by
  have hb : Sb.bit x 4 = (x / 16 % 2 == 1) := by
    unfold Sb.bit
    rw [Int.emod_eq_of_lt h0 (by omega), show (2 : Int) ^ 4 = 16 from rfl]
  rw [hb]
  go_enter Try.func27, Try.ntmps27
  go_wp2_with fail
  go_ret
  exact ⟨by rfl, rfl⟩
theorem rhas5_any (x : Int) (w : World) (h0 : 0 ≤ x) (h1 : x ≤ 63) : Calls Try.prog 27 #[.int .i64 x, .int .i64 32] w fun e w' => e = .returned (.bool (Sb.bit x 5)) ∧ w = w' := by
  have hb : Sb.bit x 5 = (x / 32 % 2 == 1) := by
    unfold Sb.bit
    rw [Int.emod_eq_of_lt h0 (by omega), show (2 : Int) ^ 5 = 32 from rfl]
  rw [hb]
  go_enter Try.func27, Try.ntmps27
  go_wp2_with fail
  go_ret
  exact ⟨by rfl, rfl⟩
theorem sumB_bd (f : Nat → Bool) : ∀ k, k ≤ 6 → 0 ≤ Sb.sumB f k ∧ Sb.sumB f k ≤ 63 := fun k hk => by
  have h : ∀ k, 0 ≤ Sb.sumB f k ∧ Sb.sumB f k < 2 ^ k := by
    intro k
    induction k with
    | zero => simp [Sb.sumB]
    | succ k ih =>
      unfold Sb.sumB
      have h2 : (2 : Int) ^ (k + 1) = 2 ^ k * 2 := Int.pow_succ 2 k
      split <;> omega
  have h1 := h k
  have h3 : (2 : Int) ^ k ≤ 64 := by
    match k, hk with
    | 0, _ => decide
    | 1, _ => decide
    | 2, _ => decide
    | 3, _ => decide
    | 4, _ => decide
    | 5, _ => decide
    | 6, _ => decide
  omega
set_option maxHeartbeats 4000000 in
theorem runion_any (a b : Int) (w : World) (a0 : 0 ≤ a) (a1 : a ≤ 63) (b0 : 0 ≤ b) (b1 : b ≤ 63) : Calls Try.prog 20 #[.int .i64 a, .int .i64 b] w fun e w' => e = .returned (.int .i64 (Sb.union a b)) ∧ w = w' := by
  have hun : Sb.union a b = Sb.sumB (fun i => Sb.bit a i || Sb.bit b i) 6 := rfl
  rw [hun]
  obtain ⟨f, hf⟩ : ∃ f : Nat → Bool, f = fun i => Sb.bit a i || Sb.bit b i := ⟨_, rfl⟩
  rw [← hf]
  have hfi : ∀ i, f i = (Sb.bit a i || Sb.bit b i) := fun i => by rw [hf]
  have HF := Lib.hid hfi
  have HBD := Lib.hid (sumB_bd f)
  have A0 := Lib.hid a0; have A1 := Lib.hid a1; have B0 := Lib.hid b0; have B1 := Lib.hid b1
  clear hf hfi a0 a1 b0 b1 hun
  go_enter Try.func20, Try.ntmps20
  go_wp2_with fail
  go_loopw [5, 6] (fun ov fv wr => ∃ k : Nat, k ≤ 6 ∧ ov = .int .i64 (Sb.sumB f k) ∧ fv = .int .i64 ((2 : Int) ^ k) ∧ wr = w) (fun _ fv _ => (64 - intOf fv).toNat)
  case atStart => exact ⟨0, by omega, rfl, rfl, rfl⟩
  case round =>
    obtain ⟨k, hk, rfl, rfl, rfl⟩ := hrel
    have hs1 : ∀ k, Sb.sumB f (k + 1) = Sb.sumB f k + if f k then (2 : Int) ^ k else 0 := fun k => rfl
    have hnx := hs1 k
    have hbd := HBD.out k hk
    have hfk := HF.out k
    obtain ⟨S, hS⟩ : ∃ S, Sb.sumB f k = S := ⟨_, rfl⟩
    rw [hS] at hnx hbd
    have hways : k = 0 ∨ k = 1 ∨ k = 2 ∨ k = 3 ∨ k = 4 ∨ k = 5 ∨ k = 6 := by omega
    clear hs1
    rcases hways with rfl | rfl | rfl | rfl | rfl | rfl | rfl
    · rw [show (2 : Int) ^ 0 = 1 from rfl] at hnx ⊢
      have ca := fun W : World => rhas0_any a W A0.out A1.out
      have cb := fun W : World => rhas0_any b W B0.out B1.out
      obtain ⟨p, hp⟩ : ∃ p, Sb.bit a 0 = p := ⟨_, rfl⟩
      obtain ⟨q, hq⟩ : ∃ p, Sb.bit b 0 = p := ⟨_, rfl⟩
      rw [hp] at ca; rw [hq] at cb; rw [hp, hq] at hfk; rw [hfk] at hnx
      have CA := Lib.hid ca; have CB := Lib.hid cb; have HN := Lib.hid hnx; have HSS := Lib.hid hS
      rw [hS]
      clear ca cb hp hq hfk hnx hS
      go_wp2_with fail
      refine (CA.out _).mono ?_
      rintro e w1 ⟨rfl, rfl⟩
      cases p with
      | true =>
        go_wp2_with fail
        exact ⟨⟨1, by omega, by rw [HN.out]; go_num, by rfl, trivial⟩, by simp [intOf]⟩
      | false =>
        go_wp2_with fail
        refine (CB.out _).mono ?_
        rintro e w1 ⟨rfl, rfl⟩
        cases q with
        | true =>
          go_wp2_with fail
          exact ⟨⟨1, by omega, by rw [HN.out]; go_num, by rfl, trivial⟩, by simp [intOf]⟩
        | false =>
          go_wp2_with fail
          exact ⟨⟨1, by omega, by rw [HN.out]; simp, by rfl, trivial⟩, by simp [intOf]⟩
    · rw [show (2 : Int) ^ 1 = 2 from rfl] at hnx ⊢
      have ca := fun W : World => rhas1_any a W A0.out A1.out
      have cb := fun W : World => rhas1_any b W B0.out B1.out
      obtain ⟨p, hp⟩ : ∃ p, Sb.bit a 1 = p := ⟨_, rfl⟩
      obtain ⟨q, hq⟩ : ∃ p, Sb.bit b 1 = p := ⟨_, rfl⟩
      rw [hp] at ca; rw [hq] at cb; rw [hp, hq] at hfk; rw [hfk] at hnx
      have CA := Lib.hid ca; have CB := Lib.hid cb; have HN := Lib.hid hnx; have HSS := Lib.hid hS
      rw [hS]
      clear ca cb hp hq hfk hnx hS
      go_wp2_with fail
      refine (CA.out _).mono ?_
      rintro e w1 ⟨rfl, rfl⟩
      cases p with
      | true =>
        go_wp2_with fail
        exact ⟨⟨2, by omega, by rw [HN.out]; go_num, by rfl, trivial⟩, by simp [intOf]⟩
      | false =>
        go_wp2_with fail
        refine (CB.out _).mono ?_
        rintro e w1 ⟨rfl, rfl⟩
        cases q with
        | true =>
          go_wp2_with fail
          exact ⟨⟨2, by omega, by rw [HN.out]; go_num, by rfl, trivial⟩, by simp [intOf]⟩
        | false =>
          go_wp2_with fail
          exact ⟨⟨2, by omega, by rw [HN.out]; simp, by rfl, trivial⟩, by simp [intOf]⟩
    · rw [show (2 : Int) ^ 2 = 4 from rfl] at hnx ⊢
      have ca := fun W : World => rhas2_any a W A0.out A1.out
      have cb := fun W : World => rhas2_any b W B0.out B1.out
      obtain ⟨p, hp⟩ : ∃ p, Sb.bit a 2 = p := ⟨_, rfl⟩
      obtain ⟨q, hq⟩ : ∃ p, Sb.bit b 2 = p := ⟨_, rfl⟩
      rw [hp] at ca; rw [hq] at cb; rw [hp, hq] at hfk; rw [hfk] at hnx
      have CA := Lib.hid ca; have CB := Lib.hid cb; have HN := Lib.hid hnx; have HSS := Lib.hid hS
      rw [hS]
      clear ca cb hp hq hfk hnx hS
      go_wp2_with fail
      refine (CA.out _).mono ?_
      rintro e w1 ⟨rfl, rfl⟩
      cases p with
      | true =>
        go_wp2_with fail
        exact ⟨⟨3, by omega, by rw [HN.out]; go_num, by rfl, trivial⟩, by simp [intOf]⟩
      | false =>
        go_wp2_with fail
        refine (CB.out _).mono ?_
        rintro e w1 ⟨rfl, rfl⟩
        cases q with
        | true =>
          go_wp2_with fail
          exact ⟨⟨3, by omega, by rw [HN.out]; go_num, by rfl, trivial⟩, by simp [intOf]⟩
        | false =>
          go_wp2_with fail
          exact ⟨⟨3, by omega, by rw [HN.out]; simp, by rfl, trivial⟩, by simp [intOf]⟩
    · rw [show (2 : Int) ^ 3 = 8 from rfl] at hnx ⊢
      have ca := fun W : World => rhas3_any a W A0.out A1.out
      have cb := fun W : World => rhas3_any b W B0.out B1.out
      obtain ⟨p, hp⟩ : ∃ p, Sb.bit a 3 = p := ⟨_, rfl⟩
      obtain ⟨q, hq⟩ : ∃ p, Sb.bit b 3 = p := ⟨_, rfl⟩
      rw [hp] at ca; rw [hq] at cb; rw [hp, hq] at hfk; rw [hfk] at hnx
      have CA := Lib.hid ca; have CB := Lib.hid cb; have HN := Lib.hid hnx; have HSS := Lib.hid hS
      rw [hS]
      clear ca cb hp hq hfk hnx hS
      go_wp2_with fail
      refine (CA.out _).mono ?_
      rintro e w1 ⟨rfl, rfl⟩
      cases p with
      | true =>
        go_wp2_with fail
        exact ⟨⟨4, by omega, by rw [HN.out]; go_num, by rfl, trivial⟩, by simp [intOf]⟩
      | false =>
        go_wp2_with fail
        refine (CB.out _).mono ?_
        rintro e w1 ⟨rfl, rfl⟩
        cases q with
        | true =>
          go_wp2_with fail
          exact ⟨⟨4, by omega, by rw [HN.out]; go_num, by rfl, trivial⟩, by simp [intOf]⟩
        | false =>
          go_wp2_with fail
          exact ⟨⟨4, by omega, by rw [HN.out]; simp, by rfl, trivial⟩, by simp [intOf]⟩
    · rw [show (2 : Int) ^ 4 = 16 from rfl] at hnx ⊢
      have ca := fun W : World => rhas4_any a W A0.out A1.out
      have cb := fun W : World => rhas4_any b W B0.out B1.out
      obtain ⟨p, hp⟩ : ∃ p, Sb.bit a 4 = p := ⟨_, rfl⟩
      obtain ⟨q, hq⟩ : ∃ p, Sb.bit b 4 = p := ⟨_, rfl⟩
      rw [hp] at ca; rw [hq] at cb; rw [hp, hq] at hfk; rw [hfk] at hnx
      have CA := Lib.hid ca; have CB := Lib.hid cb; have HN := Lib.hid hnx; have HSS := Lib.hid hS
      rw [hS]
      clear ca cb hp hq hfk hnx hS
      go_wp2_with fail
      refine (CA.out _).mono ?_
      rintro e w1 ⟨rfl, rfl⟩
      cases p with
      | true =>
        go_wp2_with fail
        exact ⟨⟨5, by omega, by rw [HN.out]; go_num, by rfl, trivial⟩, by simp [intOf]⟩
      | false =>
        go_wp2_with fail
        refine (CB.out _).mono ?_
        rintro e w1 ⟨rfl, rfl⟩
        cases q with
        | true =>
          go_wp2_with fail
          exact ⟨⟨5, by omega, by rw [HN.out]; go_num, by rfl, trivial⟩, by simp [intOf]⟩
        | false =>
          go_wp2_with fail
          exact ⟨⟨5, by omega, by rw [HN.out]; simp, by rfl, trivial⟩, by simp [intOf]⟩
    · rw [show (2 : Int) ^ 5 = 32 from rfl] at hnx ⊢
      have ca := fun W : World => rhas5_any a W A0.out A1.out
      have cb := fun W : World => rhas5_any b W B0.out B1.out
      obtain ⟨p, hp⟩ : ∃ p, Sb.bit a 5 = p := ⟨_, rfl⟩
      obtain ⟨q, hq⟩ : ∃ p, Sb.bit b 5 = p := ⟨_, rfl⟩
      rw [hp] at ca; rw [hq] at cb; rw [hp, hq] at hfk; rw [hfk] at hnx
      have CA := Lib.hid ca; have CB := Lib.hid cb; have HN := Lib.hid hnx; have HSS := Lib.hid hS
      rw [hS]
      clear ca cb hp hq hfk hnx hS
      go_wp2_with fail
      refine (CA.out _).mono ?_
      rintro e w1 ⟨rfl, rfl⟩
      cases p with
      | true =>
        go_wp2_with fail
        exact ⟨⟨6, by omega, by rw [HN.out]; go_num, by rfl, trivial⟩, by simp [intOf]⟩
      | false =>
        go_wp2_with fail
        refine (CB.out _).mono ?_
        rintro e w1 ⟨rfl, rfl⟩
        cases q with
        | true =>
          go_wp2_with fail
          exact ⟨⟨6, by omega, by rw [HN.out]; go_num, by rfl, trivial⟩, by simp [intOf]⟩
        | false =>
          go_wp2_with fail
          exact ⟨⟨6, by omega, by rw [HN.out]; simp, by rfl, trivial⟩, by simp [intOf]⟩
    · rw [hS]
      have HSS := Lib.hid hS
      clear hS hnx hfk
      go_wp2_with fail
      go_ret
      exact ⟨by rw [HSS.out]; rfl, rfl⟩
end Go.Proofs.Ytnnjfiknfmjliaa
