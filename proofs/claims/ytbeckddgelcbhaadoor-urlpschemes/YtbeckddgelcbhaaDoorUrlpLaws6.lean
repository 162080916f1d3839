/- The walk of the statement on what stands at the ends. -/
import Derived.Test.YtbeckddgelcbhaaDoorUrlpLaws3
import Derived.Test.YtbeckddgelcbhaaDoorUrlpMath5
namespace Go.Proofs.YtbeckddgelcbhaaDoor
open Go.RowKit

theorem first_bad (P : UInt8 → Bool) (q : List UInt8) : (∀ b ∈ q, P b = true) ∨ ∃ j, ∃ hj : j < (bA q).size, (∀ i (hi : i < (bA q).size), i < j → P (bA q)[i] = true) ∧ P (bA q)[j] = false := by
  induction q with
  | nil => exact .inl (by intro b hb; cases hb)
  | cons a q ih =>
    cases ha : P a with
    | false => exact .inr ⟨0, by rw [bA_size]; simp, fun i _ hi => absurd hi (by omega), ha⟩
    | true =>
      rcases ih with h | ⟨j, hj, h1, h2⟩
      · exact .inl (by intro b hb; rcases List.mem_cons.1 hb with rfl | hb; exact ha; exact h b hb)
      · refine .inr ⟨j + 1, by rw [bA_size] at hj ⊢; simp; exact hj, ?_, h2⟩
        intro i hi hij
        match i, hi with
        | 0, _ => exact ha
        | i + 1, hi => exact h1 i (by rw [bA_size] at hi ⊢; simp at hi; exact hi) (by omega)
theorem mem_bA (q : List UInt8) (k : Nat) (hk : k < (bA q).size) : (bA q)[k] ∈ q := by
  have h2 : k < q.length := hk
  have e : (bA q)[k] = q[k] := rfl
  rw [e]; exact List.getElem_mem h2
def endP (b : UInt8) : Bool := decide (32 < (b.toNat : Int)) && !((b.toNat : Int) == 35)
theorem endP_yes {b : UInt8} (h : endP b = true) : (32 : Int) < b.toNat ∧ ((b.toNat : Int) == 35) = false ∧ Urp.outerB b = false ∧ b ≠ 35 := by
  unfold endP at h
  rw [Bool.and_eq_true, decide_eq_true_eq, Bool.not_eq_true'] at h
  refine ⟨h.1, h.2, ?_, ?_⟩
  · unfold Urp.outerB; exact decide_eq_false (by omega)
  · intro hc; rw [hc] at h; exact absurd h.2 (by decide)
theorem endP_no {b : UInt8} (h : endP b = false) : (b.toNat : Int) ≤ 32 ∨ ((32 : Int) < b.toNat ∧ ((b.toNat : Int) == 35) = true) := by
  unfold endP at h
  by_cases h1 : (32 : Int) < b.toNat
  · rw [decide_eq_true h1, Bool.true_and] at h
    exact .inr ⟨h1, by simpa using h⟩
  · exact .inl (by omega)

set_option maxHeartbeats 8000000 in
set_option maxRecDepth 100000 in
theorem walk_UrlpEnds (s0 m0 : ByteArray) (w : World) (hs : s0.size ≤ maxLen) (hm : m0.size ≤ maxLen) (hT : Tab w) (hT8 : Tab8 w) : Calls Tryd.prog 6 #[.string s0, .string m0] w fun e w' => e = .returned (.bool true) ∧ Below w.heap.size w w' := by
  unfold maxLen at hs hm
  have HA := Lib.hid (awake_any w hT hT8)
  have HT8 := Lib.hid hT8
  clear hT hT8
  obtain ⟨l, hl⟩ : ∃ l, s0 = bA l := ⟨s0.data.toList, rfl⟩
  subst hl
  obtain ⟨m, hml⟩ : ∃ q, m0 = bA q := ⟨m0.data.toList, rfl⟩
  subst hml
  rw [bA_size] at hs hm
  by_cases hb : 1000 < l.length
  · have hb' : (1000 : Int) < (l.length : Int) := by omega
    clear hb
    go_enter Tryd.func6, Tryd.ntmps6
    go_wp2_with fail
    refine HA.out.mono ?_
    rintro e w1 ⟨rfl, hb1⟩
    go_wp2_with fail
    go_ret
    exact ⟨rfl, hb1⟩
  have hb1' : (l.length : Int) ≤ 1000 := by omega
  have hl3 : l.length ≤ 1000 := by omega
  by_cases hc : 900 < m.length
  · have hc' : (900 : Int) < (m.length : Int) := by omega
    clear hb hc
    go_enter Tryd.func6, Tryd.ntmps6
    go_wp2_with fail
    refine HA.out.mono ?_
    rintro e w1 ⟨rfl, hb1⟩
    go_wp2_with fail
    go_ret
    exact ⟨rfl, hb1⟩
  have hc1' : (m.length : Int) ≤ 900 := by omega
  have hm3 : m.length ≤ 900 := by omega
  clear hb hc hs hm
  have hU := fun W h => uparse_any l W (by omega) h
  have hV := fun W h => uparse_any ([10, 32, 0] ++ l ++ [9, 32]) W (by simp; omega) h
  rw [Urp.parse_ends [10, 32, 0] l [9, 32] (by decide) (by decide)] at hV
  have HC1 : Hid ((⟨#[10, 32, 0]⟩ : ByteArray) ++ bA l ++ (⟨#[9, 32]⟩ : ByteArray) = bA ([10, 32, 0] ++ l ++ [9, 32])) := Lib.hid (by
    have e1 : (⟨#[10, 32, 0]⟩ : ByteArray) ++ bA l = bA ([10, 32, 0] ++ l) := bA_app [10, 32, 0] l
    rw [e1]; exact bA_app ([10, 32, 0] ++ l) [9, 32])
  have HC2 : Hid (bA l ++ (⟨#[35]⟩ : ByteArray) ++ bA m = bA (l ++ [35] ++ m)) := Lib.hid (by
    have e1 : bA l ++ (⟨#[35]⟩ : ByteArray) = bA (l ++ [35]) := bA_app l [35]
    rw [e1]; exact bA_app (l ++ [35]) m)
  have hW := fun W h => uparse_any (l ++ [35] ++ m) W (by simp; omega) h
  have hsp := fun W => split_any (bA l) 58 W (by rw [bA_size]; omega)
  have esp : Oct.split (fun x => x == 58) (bA l).data.toList = Oct.split (fun x => x == 58) l := rfl
  rw [esp] at hsp
  rcases first_bad endP l with hg | ⟨j, hj, hg, hbad⟩
  · have HG : Hid (∀ k (hk : k < (bA l).size), (32 : Int) < (bA l)[k].toNat ∧ (((bA l)[k].toNat : Int) == 35) = false) := Lib.hid (fun k hk => by
      have := endP_yes (hg _ (mem_bA l k hk)); exact ⟨this.1, this.2.1⟩)
    have hout : ∀ b ∈ l, Urp.outerB b = false ∧ b ≠ 35 := fun b hb => (endP_yes (hg b hb)).2.2
    cases hcol : Urp.hasB 58 l with
    | false =>
      have hp := Urp.parse_nocolon (fun b hb => (hout b hb).1) hcol
      have h1 := Urp.split_none1 hcol
      rw [hp] at hU hV
      unfold resV urlV uCells at hU hV
      have HU : Hid (∀ W : World, Tab8 W → Calls Tryd.prog 11 #[.string (bA l)] W fun e w' => e = .returned (.tuple #[.agg #[.string ⟨#[]⟩, .string ⟨#[]⟩, .bool false, .int .u32 0, .int .i64 0, .string ⟨#[]⟩, .bool false, .string ⟨#[]⟩, .string ⟨#[]⟩], .int .i64 30]) ∧ Below W.heap.size W w') := Lib.hid hU
      have HV : Hid (∀ W : World, Tab8 W → Calls Tryd.prog 11 #[.string (bA ([10, 32, 0] ++ l ++ [9, 32]))] W fun e w' => e = .returned (.tuple #[.agg #[.string ⟨#[]⟩, .string ⟨#[]⟩, .bool false, .int .u32 0, .int .i64 0, .string ⟨#[]⟩, .bool false, .string ⟨#[]⟩, .string ⟨#[]⟩], .int .i64 30]) ∧ Below W.heap.size W w') := Lib.hid hV
      obtain ⟨ps, hps⟩ : ∃ ps, Oct.split (fun x => x == 58) l = ps := ⟨_, rfl⟩
      rw [hps] at hsp h1
      have HSP := Lib.hid hsp
      have h1' : ((ps.length : Int) == 1) = true := by rw [beq_iff_eq]; omega
      clear hU hV hW hsp hp hps hg hout hcol esp
      go_enter Tryd.func6, Tryd.ntmps6
      go_wp2_with fail
      refine HA.out.mono ?_
      rintro e w1 ⟨rfl, hb1⟩
      have HT1 := Lib.hid (HT8.out.below hb1)
      go_wp2_with fail
      refine (HU.out _ HT1.out).mono ?_
      rintro e w2 ⟨rfl, hb2⟩
      have b2 := below_on hb1 hb2
      have b3 := b2.alloc (o := .cells (uCells Urp.zeroU) 27) b2.size
      have q2 := UBox.new w2 Urp.zeroU
      clear hb2 b2
      have HT2 := Lib.hid (HT8.out.below b3)
      go_wp2_with fail
      rw [HC1.out]
      refine (HV.out _ HT2.out).mono ?_
      rintro e w3 ⟨rfl, hb3⟩
      have b4 := below_on b3 hb3
      have q3 := q2.keep hb3
      have b6 := b4.alloc (o := .cells (uCells Urp.zeroU) 27) b4.size
      have q4 := q3.alloc (.cells (uCells Urp.zeroU) 27)
      have l3 := q3.lt
      have n3 : w2.heap.size ≠ w3.heap.size := by omega
      clear hb3 q2 b3
      have c0 : w3.cell? ⟨w2.heap.size, 0, none⟩ = some (.string ⟨#[]⟩) := q3.c0
      have c1 : w3.cell? ⟨w2.heap.size, 1, none⟩ = some (.string ⟨#[]⟩) := q3.c1
      have c2 : w3.cell? ⟨w2.heap.size, 2, none⟩ = some (.bool false) := q3.c2
      have c3 : w3.cell? ⟨w2.heap.size, 3, none⟩ = some (.int .u32 0) := q3.c3
      have c4 : w3.cell? ⟨w2.heap.size, 4, none⟩ = some (.int .i64 0) := q3.c4
      have c5 : w3.cell? ⟨w2.heap.size, 5, none⟩ = some (.string ⟨#[]⟩) := q3.c5
      have c6 : w3.cell? ⟨w2.heap.size, 6, none⟩ = some (.bool false) := q3.c6
      have c7 : w3.cell? ⟨w2.heap.size, 7, none⟩ = some (.string ⟨#[]⟩) := q3.c7
      have c8 : w3.cell? ⟨w2.heap.size, 8, none⟩ = some (.string ⟨#[]⟩) := q3.c8
      go_wp2_with fail
      clear c0 c1 c2 c3 c4 c5 c6 c7 c8
      go_loop [10] (fun i => ∃ k : Nat, k ≤ l.length ∧ i = .int .i64 k) (fun i => l.length - (intOf i).toNat)
      case atStart => exact ⟨0, Nat.zero_le _, rfl⟩
      case round =>
        obtain ⟨k, hk, rfl⟩ := hrel
        by_cases hlt : k < l.length
        · have hlb : k < (bA l).size := hlt
          obtain ⟨h1, h2⟩ := HG.out k hlb
          go_wp2_with fail
          go_round
          case rel => exact ⟨k + 1, by omega, by go_num⟩
          case measure => simp [intOf]; omega
        · go_wp2_with fail
          refine (HSP.out _).mono ?_
          rintro e w5 ⟨v1, rfl, hb5, hown1⟩
          have b9 := below_on b6 hb5
          have q5 := q4.keep hb5
          rcases owns_view2 hown1 with ⟨rfl, h0⟩ | ⟨g, cap, rfl, hcap, hg, _, _⟩
          · exfalso
            rw [h0] at h1'
            first | (simp at h1'; done) | (rw [h0] at hps1; simp at hps1)
          clear hown1 hb5
          go_wp2_with fail
          go_ret
          exact ⟨rfl, b9⟩
    | true =>
      have h1 := Urp.split_two hcol
      rw [Urp.parse_hash l m hout hcol hl3 hm3] at hW
      unfold resV urlV uCells at hU hV hW
      obtain ⟨x, hx⟩ : ∃ x, getU (Urp.parse l) = x := ⟨_, rfl⟩
      obtain ⟨er, her⟩ : ∃ x, errU (Urp.parse l) = x := ⟨_, rfl⟩
      rw [hx, her] at hU hV hW
      have HU := Lib.hid hU
      have HV := Lib.hid hV
      have HW := Lib.hid hW
      obtain ⟨ps, hps⟩ : ∃ ps, Oct.split (fun x => x == 58) l = ps := ⟨_, rfl⟩
      rw [hps] at hsp h1
      have HSP := Lib.hid hsp
      have h1' : ((ps.length : Int) == 1) = false := by rw [beq_eq_false_iff_ne]; omega
      clear hU hV hW hsp hps hg hout hcol hx her esp
      rcases Bool.eq_false_or_eq_true (er == 30) with h30 | h30
      · have hps1 := h1
        clear h1
        go_enter Tryd.func6, Tryd.ntmps6
        go_wp2_with fail
        refine HA.out.mono ?_
        rintro e w1 ⟨rfl, hb1⟩
        have HT1 := Lib.hid (HT8.out.below hb1)
        go_wp2_with fail
        refine (HU.out _ HT1.out).mono ?_
        rintro e w2 ⟨rfl, hb2⟩
        have b2 := below_on hb1 hb2
        have b3 := b2.alloc (o := .cells (uCells x) 27) b2.size
        have q2 := UBox.new w2 x
        clear hb2 b2
        have HT2 := Lib.hid (HT8.out.below b3)
        go_wp2_with fail
        rw [HC1.out]
        refine (HV.out _ HT2.out).mono ?_
        rintro e w3 ⟨rfl, hb3⟩
        have b4 := below_on b3 hb3
        have q3 := q2.keep hb3
        have b6 := b4.alloc (o := .cells (uCells x) 27) b4.size
        have q4 := q3.alloc (.cells (uCells x) 27)
        have l3 := q3.lt
        have n3 : w2.heap.size ≠ w3.heap.size := by omega
        clear hb3 q2 b3
        have c0 := q3.c0
        have c1 := q3.c1
        have c2 := q3.c2
        have c3 := q3.c3
        have c4 := q3.c4
        have c5 := q3.c5
        have c6 := q3.c6
        have c7 := q3.c7
        have c8 := q3.c8
        go_wp2_with fail
        clear c0 c1 c2 c3 c4 c5 c6 c7 c8
        go_loop [10] (fun i => ∃ k : Nat, k ≤ l.length ∧ i = .int .i64 k) (fun i => l.length - (intOf i).toNat)
        case atStart => exact ⟨0, Nat.zero_le _, rfl⟩
        case round =>
          obtain ⟨k, hk, rfl⟩ := hrel
          by_cases hlt : k < l.length
          · have hlb : k < (bA l).size := hlt
            obtain ⟨h1, h2⟩ := HG.out k hlb
            go_wp2_with fail
            go_round
            case rel => exact ⟨k + 1, by omega, by go_num⟩
            case measure => simp [intOf]; omega
          · go_wp2_with fail
            refine (HSP.out _).mono ?_
            rintro e w5 ⟨v1, rfl, hb5, hown1⟩
            have b9 := below_on b6 hb5
            have q5 := q4.keep hb5
            rcases owns_view2 hown1 with ⟨rfl, h0⟩ | ⟨g, cap, rfl, hcap, hg, _, _⟩
            · exfalso
              rw [h0] at h1'
              first | (simp at h1'; done) | (rw [h0] at hps1; simp at hps1)
            clear hown1 hb5
            have HT9 := Lib.hid (HT8.out.below b9)
            go_wp2_with fail
            rw [HC2.out]
            refine (HW.out _ HT9.out).mono ?_
            rintro e w6 ⟨rfl, hb6⟩
            have b10 := below_on b9 hb6
            have q6 := q5.keep hb6
            have b11 := b10.alloc (o := .cells (uCells x) 27) b10.size
            have l6 := q6.lt
            have n6 : w2.heap.size ≠ w6.heap.size := by omega
            clear hb6
            have d0 := q6.c0
            have d1 := q6.c1
            have d2 := q6.c2
            have d3 := q6.c3
            have d4 := q6.c4
            have d5 := q6.c5
            have d6 := q6.c6
            have d7 := q6.c7
            have d8 := q6.c8
            go_wp2_with fail
            go_ret
            exact ⟨rfl, b11⟩
      · clear h1 h1' HSP
        go_enter Tryd.func6, Tryd.ntmps6
        go_wp2_with fail
        refine HA.out.mono ?_
        rintro e w1 ⟨rfl, hb1⟩
        have HT1 := Lib.hid (HT8.out.below hb1)
        go_wp2_with fail
        refine (HU.out _ HT1.out).mono ?_
        rintro e w2 ⟨rfl, hb2⟩
        have b2 := below_on hb1 hb2
        have b3 := b2.alloc (o := .cells (uCells x) 27) b2.size
        have q2 := UBox.new w2 x
        clear hb2 b2
        have HT2 := Lib.hid (HT8.out.below b3)
        go_wp2_with fail
        rw [HC1.out]
        refine (HV.out _ HT2.out).mono ?_
        rintro e w3 ⟨rfl, hb3⟩
        have b4 := below_on b3 hb3
        have q3 := q2.keep hb3
        have b6 := b4.alloc (o := .cells (uCells x) 27) b4.size
        have q4 := q3.alloc (.cells (uCells x) 27)
        have l3 := q3.lt
        have n3 : w2.heap.size ≠ w3.heap.size := by omega
        clear hb3 q2 b3
        have c0 := q3.c0
        have c1 := q3.c1
        have c2 := q3.c2
        have c3 := q3.c3
        have c4 := q3.c4
        have c5 := q3.c5
        have c6 := q3.c6
        have c7 := q3.c7
        have c8 := q3.c8
        go_wp2_with fail
        clear c0 c1 c2 c3 c4 c5 c6 c7 c8
        go_loop [10] (fun i => ∃ k : Nat, k ≤ l.length ∧ i = .int .i64 k) (fun i => l.length - (intOf i).toNat)
        case atStart => exact ⟨0, Nat.zero_le _, rfl⟩
        case round =>
          obtain ⟨k, hk, rfl⟩ := hrel
          by_cases hlt : k < l.length
          · have hlb : k < (bA l).size := hlt
            obtain ⟨h1, h2⟩ := HG.out k hlb
            go_wp2_with fail
            go_round
            case rel => exact ⟨k + 1, by omega, by go_num⟩
            case measure => simp [intOf]; omega
          · have HT9 := Lib.hid (HT8.out.below b6)
            go_wp2_with fail
            rw [HC2.out]
            refine (HW.out _ HT9.out).mono ?_
            rintro e w6 ⟨rfl, hb6⟩
            have b10 := below_on b6 hb6
            have q6 := q4.keep hb6
            have b11 := b10.alloc (o := .cells (uCells x) 27) b10.size
            have l6 := q6.lt
            have n6 : w2.heap.size ≠ w6.heap.size := by omega
            clear hb6
            have d0 := q6.c0
            have d1 := q6.c1
            have d2 := q6.c2
            have d3 := q6.c3
            have d4 := q6.c4
            have d5 := q6.c5
            have d6 := q6.c6
            have d7 := q6.c7
            have d8 := q6.c8
            go_wp2_with fail
            go_ret
            exact ⟨rfl, b11⟩
  · have HG : Hid (∀ k (hk : k < (bA l).size), k < j → (32 : Int) < (bA l)[k].toNat ∧ (((bA l)[k].toNat : Int) == 35) = false) := Lib.hid (fun k hk hkj => by
      have := endP_yes (hg k hk hkj); exact ⟨this.1, this.2.1⟩)
    have hz := endP_no hbad
    unfold resV urlV uCells at hU hV
    obtain ⟨x, hx⟩ : ∃ x, getU (Urp.parse l) = x := ⟨_, rfl⟩
    obtain ⟨er, her⟩ : ∃ x, errU (Urp.parse l) = x := ⟨_, rfl⟩
    rw [hx, her] at hU hV
    have HU := Lib.hid hU
    have HV := Lib.hid hV
    have hj2 : j < l.length := hj
    clear hU hV hW hsp hx her hg hbad esp
    go_enter Tryd.func6, Tryd.ntmps6
    go_wp2_with fail
    refine HA.out.mono ?_
    rintro e w1 ⟨rfl, hb1⟩
    have HT1 := Lib.hid (HT8.out.below hb1)
    go_wp2_with fail
    refine (HU.out _ HT1.out).mono ?_
    rintro e w2 ⟨rfl, hb2⟩
    have b2 := below_on hb1 hb2
    have b3 := b2.alloc (o := .cells (uCells x) 27) b2.size
    have q2 := UBox.new w2 x
    clear hb2 b2
    have HT2 := Lib.hid (HT8.out.below b3)
    go_wp2_with fail
    rw [HC1.out]
    refine (HV.out _ HT2.out).mono ?_
    rintro e w3 ⟨rfl, hb3⟩
    have b4 := below_on b3 hb3
    have q3 := q2.keep hb3
    have b6 := b4.alloc (o := .cells (uCells x) 27) b4.size
    have q4 := q3.alloc (.cells (uCells x) 27)
    have l3 := q3.lt
    have n3 : w2.heap.size ≠ w3.heap.size := by omega
    clear hb3 q2 b3
    have c0 := q3.c0
    have c1 := q3.c1
    have c2 := q3.c2
    have c3 := q3.c3
    have c4 := q3.c4
    have c5 := q3.c5
    have c6 := q3.c6
    have c7 := q3.c7
    have c8 := q3.c8
    go_wp2_with fail
    clear c0 c1 c2 c3 c4 c5 c6 c7 c8
    go_loop [10] (fun i => ∃ k : Nat, k ≤ j ∧ i = .int .i64 k) (fun i => l.length - (intOf i).toNat)
    case atStart => exact ⟨0, Nat.zero_le _, rfl⟩
    case round =>
      obtain ⟨k, hk, rfl⟩ := hrel
      rcases Nat.lt_or_ge k j with hlt | hge
      · have hlb : k < (bA l).size := by rw [bA_size]; omega
        have hlq : k < l.length := by omega
        obtain ⟨h1, h2⟩ := HG.out k hlb hlt
        go_wp2_with fail
        go_round
        case rel => exact ⟨k + 1, by omega, by go_num⟩
        case measure => simp [intOf]; omega
      · obtain rfl : k = j := by omega
        have hlb : k < (bA l).size := hj
        rcases hz with h1 | ⟨h1, h2⟩
        all_goals
          go_wp2_with fail
          go_ret
          exact ⟨rfl, b6⟩
end Go.Proofs.YtbeckddgelcbhaaDoor
