/- The contracts of the document's Popup, Flags. -/
import Derived.Test.YtnnjfiknfmjliaaSbRef1
import Derived.Test.YtnnjfiknfmjliaaOctLow
import Derived.Deep.RegionHeldLaw
namespace Go.Proofs.Ytnnjfiknfmjliaa
open Go.RowKit Go.Deep

theorem rpopup_any (x : Int) (w : World) : Calls Try.prog 17 #[.int .i64 x] w fun e w' => e = .returned (.int .i64 (Sb.popup x)) ∧ w = w' := by
  have h3 : 0 ≤ x % 64 := Int.emod_nonneg _ (by decide)
  have h4 : x % 64 < 64 := Int.emod_lt_of_pos _ (by decide)
  have c1 := fun W => rwithin_any x W
  have c2 := fun W => rhas4_any (x % 64) W h3 (by omega)
  rw [Sb.bit_mod] at c2
  have hp : Sb.popup x = if Sb.bit x 4 then x % 64 else 0 := rfl
  rw [hp]
  obtain ⟨y, hy⟩ : ∃ y, x % 64 = y := ⟨_, rfl⟩
  obtain ⟨b, hb⟩ : ∃ b, Sb.bit x 4 = b := ⟨_, rfl⟩
  rw [hy] at c1 c2 ⊢
  rw [hb] at c2 ⊢
  have C1 := Lib.hid c1; have C2 := Lib.hid c2
  clear c1 c2 h3 h4 hp hy hb
  cases b with
  | true =>
    go_enter Try.func17, Try.ntmps17
    go_wp2_with fail
    refine (C1.out _).mono ?_
    rintro e w1 ⟨rfl, rfl⟩
    go_wp2_with fail
    refine (C2.out _).mono ?_
    rintro e w1 ⟨rfl, rfl⟩
    go_wp2_with fail
    go_ret
    exact ⟨rfl, rfl⟩
  | false =>
    go_enter Try.func17, Try.ntmps17
    go_wp2_with fail
    refine (C1.out _).mono ?_
    rintro e w1 ⟨rfl, rfl⟩
    go_wp2_with fail
    refine (C2.out _).mono ?_
    rintro e w1 ⟨rfl, rfl⟩
    go_wp2_with fail
    go_ret
    exact ⟨rfl, rfl⟩
theorem rlow_at (s : List UInt8) (w : World) (hs : s.length ≤ 100000000) : Calls Try.prog 30 #[.string (bA s)] w fun e w' => e = .returned (.string (bA (Oct.lower s))) ∧ Below w.heap.size w w' :=
  rlower_any (bA s) w (by rw [bA_size]; unfold maxLen; omega)
/-- What stands while words are held against names. -/
structure RdyL (w0 : World) (A : Option Addr) (ws : List (List UInt8)) (An : Option Addr) (W : World) : Prop where
  bel : Below w0.heap.size w0 W
  t : SeenT W A ws
  n : SeenT W An Sb.nms
theorem RdyL.below {w0 : World} {A : Option Addr} {ws : List (List UInt8)} {An : Option Addr} {W W' : World} (h : RdyL w0 A ws An W) (hb : Below W.heap.size W W') : RdyL w0 A ws An W' := ⟨Below.onto h.bel hb, h.t.below hb, h.n.below hb⟩
theorem RdyL.drew {w0 : World} {A : Option Addr} {ws : List (List UInt8)} {An : Option Addr} {W : World} (h : RdyL w0 A ws An W) : RdyL w0 A ws An W.drew := h.below (Below.refl _ _).drew
theorem nms_at {i : Nat} (hi : i < 6) : Sb.nms[i]'(by exact hi) = Sb.nm i := by
  match i, hi with
  | 0, _ => rfl
  | 1, _ => rfl
  | 2, _ => rfl
  | 3, _ => rfl
  | 4, _ => rfl
  | 5, _ => rfl
theorem RdyL.cs {w0 : World} {g q g2 q2 j k : Nat} {ws : List (List UInt8)} {t n : List UInt8} {W : World} (hj : j < ws.length) (ht : ws[j] = t) (hk : k < 6) (hn : Sb.nm k = n) (h : RdyL w0 (some ⟨g, q, none⟩) ws (some ⟨g2, q2, none⟩) W) :
    W.cell? ⟨g, q + j, none⟩ = some (.string (bA t)) ∧ W.cell? ⟨g2, q2 + k, none⟩ = some (.string (bA n)) ∧ RdyL w0 (some ⟨g, q, none⟩) ws (some ⟨g2, q2, none⟩) W := by
  obtain ⟨_, _, e1, _, c1⟩ := h.t (by omega)
  obtain ⟨_, _, e2, _, c2⟩ := h.n (by decide)
  cases e1; cases e2
  have a1 := c1 j hj
  have a2 := c2 k hk
  rw [ht] at a1
  rw [nms_at hk, hn] at a2
  exact ⟨a1, a2, h⟩
theorem sumB_pow (k : Nat) (hk : k < 6) : 1 ≤ (2 : Int) ^ k ∧ (2 : Int) ^ k ≤ 32 := by
  match k, hk with
  | 0, _ => decide
  | 1, _ => decide
  | 2, _ => decide
  | 3, _ => decide
  | 4, _ => decide
  | 5, _ => decide
theorem has_take {ws : List (List UInt8)} {n : List UInt8} {j : Nat} (hj : j < ws.length) : Sb.has (ws.take (j + 1)) n = (Sb.has (ws.take j) n || (Oct.lower ws[j] == n)) := by
  unfold Sb.has
  rw [List.take_succ_eq_append_getElem hj, List.any_append]; simp
set_option maxHeartbeats 4000000 in
theorem rflags_any (A : Option Addr) (c : Nat) (ws : List (List UInt8)) (w : World) (hl : ws.length ≤ 100000000) (hle : ∀ t ∈ ws, t.length ≤ 100000000) (hA : SeenT w A ws) :
    Calls Try.prog 15 #[.slice A ws.length c] w fun e w' => e = .returned (.int .i64 (Sb.flags ws)) ∧ Below w.heap.size w w' := by
  have hfl : Sb.flags ws = Sb.sumB (fun i => !Sb.has ws (Sb.nm i)) 6 := rfl
  rw [hfl]
  obtain ⟨f, hf⟩ : ∃ f : Nat → Bool, f = fun i => !Sb.has ws (Sb.nm i) := ⟨_, rfl⟩
  rw [← hf]
  have hfi : ∀ i, f i = !Sb.has ws (Sb.nm i) := fun i => by rw [hf]
  have HF := Lib.hid hfi
  have HBD := Lib.hid (sumB_bd f)
  have HLE := Lib.hid hle; have HA := Lib.hid hA
  clear hf hfi hle hA hfl
  go_enter Try.func15, Try.ntmps15
  go_wp2_with fail
  refine (rnames_any w).mono ?_
  rintro e w1 ⟨An, rfl, hb1, hn1⟩
  have HR1 : Hid (RdyL w A ws An w1) := Lib.hid ⟨hb1, HA.out.below hb1, hn1⟩
  clear hb1 hn1 HA
  go_wp2_with fail
  go_loopw [4, 5, 6] (fun ov fv iv wr => ∃ k : Nat, k ≤ 6 ∧ ov = .int .i64 (Sb.sumB f k) ∧ fv = .int .i64 ((2 : Int) ^ k) ∧ iv = .int .i64 k ∧ Hid (RdyL w A ws An wr)) (fun _ _ iv _ => 6 - (intOf iv).toNat)
  case atStart => exact ⟨0, by omega, rfl, rfl, rfl, HR1⟩
  case round =>
    obtain ⟨k, hk, rfl, rfl, rfl, hrd⟩ := hrel
    by_cases hlt : k < 6
    · have hlt' : (k : Int) < 6 := by omega
      have hnx : Sb.sumB f (k + 1) = Sb.sumB f k + if f k then (2 : Int) ^ k else 0 := rfl
      have hbd := HBD.out k hk
      have hfk := HF.out k
      obtain ⟨p1, p2⟩ := sumB_pow k hlt
      have hp2 : (2 : Int) ^ (k + 1) = 2 * (2 : Int) ^ k := by rw [Int.pow_succ]; omega
      obtain ⟨n, hn⟩ : ∃ n, Sb.nm k = n := ⟨_, rfl⟩
      rw [hn] at hfk
      obtain ⟨S, hS⟩ : ∃ S, Sb.sumB f k = S := ⟨_, rfl⟩
      obtain ⟨F, hF⟩ : ∃ F, (2 : Int) ^ k = F := ⟨_, rfl⟩
      rw [hS, hF, hfk] at hnx
      rw [hS] at hbd
      rw [hF] at p1 p2 hp2
      rw [hS, hF]
      have HNX := Lib.hid hnx; have HP2 := Lib.hid hp2; have HN := Lib.hid hn
      clear hS hF hnx hfk hp2 hn
      obtain ⟨g2, q2, eN, _, _⟩ := hrd.out.n (by decide)
      subst eN
      go_wp2_with fail
      go_loopw [7, 8] (fun lv jv wq => ∃ j : Nat, j ≤ ws.length ∧ lv = .bool (Sb.has (ws.take j) n) ∧ jv = .int .i64 j ∧ Hid (RdyL w A ws (some ⟨g2, q2, none⟩) wq)) (fun _ jv _ => ws.length - (intOf jv).toNat)
      case atStart => exact ⟨0, by omega, rfl, rfl, hrd⟩
      case round =>
        obtain ⟨j, hj, rfl, rfl, hrd2⟩ := hrel
        by_cases hjt : j < ws.length
        · obtain ⟨g, q, eA, _, hc0⟩ := hrd2.out.t (by omega)
          clear hc0
          subst eA
          have hht := has_take (n := n) hjt
          obtain ⟨t, ht⟩ : ∃ t, ws[j] = t := ⟨_, rfl⟩
          have htl : t.length ≤ 100000000 := by rw [← ht]; exact HLE.out _ (List.getElem_mem hjt)
          rw [ht] at hht
          have cl := fun W => rlow_at t W htl
          obtain ⟨y, hy⟩ : ∃ y, Oct.lower t = y := ⟨_, rfl⟩
          rw [hy] at hht cl
          obtain ⟨L, hL⟩ : ∃ b, Sb.has (ws.take j) n = b := ⟨_, rfl⟩
          rw [hL] at hht ⊢
          obtain ⟨m, hm⟩ : ∃ b, (y == n) = b := ⟨_, rfl⟩
          rw [hm] at hht
          have CL := Lib.hid cl; have HHT := Lib.hid hht; have HTT := Lib.hid ht
          have hR1 := hrd2.out
          clear ht htl hht cl hy hL
          go_wp2_with fail
          go_region_held_law (fun W => W.cell? ⟨g, q + j, none⟩ = some (.string (bA t)) ∧ W.cell? ⟨g2, q2 + k, none⟩ = some (.string (bA n)) ∧ RdyL w (some ⟨g, q, none⟩) ws (some ⟨g2, q2, none⟩) W)
            (first
              | exact hR2.cs hjt HTT.out hlt HN.out
              | exact hR2.drew.cs hjt HTT.out hlt HN.out
              | exact hR1.drew.cs hjt HTT.out hlt HN.out
              | exact hR1.cs hjt HTT.out hlt HN.out)
            (first
              | (go_at_call 30; refine (CL.out _).mono ?_; rintro e w5 ⟨rfl, hb5⟩; have hR2 := hR1.drew.below hb5)
              | (go_at_call 30; refine (CL.out _).mono ?_; rintro e w5 ⟨rfl, hb5⟩; have hR2 := hR1.below hb5))
          all_goals
            have HR2 := Lib.hid hR2
            clear hR2 hR1
            cases L <;> cases m
            all_goals
              go_wp2_with fail
              exact ⟨⟨j + 1, by omega, by rw [HHT.out]; rfl, by go_num, HR2⟩, by simp [intOf]; omega⟩
        · obtain rfl : j = ws.length := by omega
          rw [List.take_of_length_le (Nat.le_refl _)]
          have hnx2 := HNX.out
          obtain ⟨L, hL⟩ : ∃ b, Sb.has ws n = b := ⟨_, rfl⟩
          rw [hL] at hnx2 ⊢
          have HN2 := Lib.hid hnx2
          clear hL hnx2
          cases L with
          | true =>
            go_wp2_with fail
            exact ⟨⟨k + 1, by omega, by rw [HN2.out]; simp, by rw [HP2.out], by go_num, hrd2⟩, by simp [intOf]; omega⟩
          | false =>
            go_wp2_with fail
            exact ⟨⟨k + 1, by omega, by rw [HN2.out]; simp, by rw [HP2.out], by go_num, hrd2⟩, by simp [intOf]; omega⟩
    · obtain rfl : k = 6 := by omega
      go_wp2_with fail
      go_ret
      exact ⟨rfl, hrd.out.bel⟩
end Go.Proofs.Ytnnjfiknfmjliaa
