/- The walk of the statement on queries. -/
import Derived.Test.YtbeckddgelcbhaaDoorUrlpLaws4
namespace Go.Proofs.YtbeckddgelcbhaaDoor
open Go.RowKit

/-- A query more. -/
def withQ (u : Urp.URL) (q : List UInt8) : Urp.URL := { u with hasq := true, query := q }
theorem good_withQ {u : Urp.URL} {q : List UInt8} (g : Urp.Good u) (hq : ∀ b ∈ q, Urp.plainC b) : Urp.Good (withQ u q) :=
  ⟨g.net, g.host, g.hch, g.port, g.path, g.pch, hq, (fun h => by cases h), g.rest⟩
theorem text_withQ {u : Urp.URL} {q : List UInt8} (hn : Urp.netB u.scheme = true) (hq : u.hasq = false) : utextL (withQ u q) = utextL u ++ [63] ++ q := by
  have e1 : queryT u = [] := by unfold queryT; rw [hq]; rfl
  have e2 : queryT (withQ u q) = 63 :: q := rfl
  rw [Urp.utext_net (u := withQ u q) hn, Urp.utext_net hn]
  unfold Urp.afterC
  rw [e1, e2]
  simp [withQ]
theorem bad_byte {q : List UInt8} (h : ¬ ∀ b ∈ q, Urp.plainC b) : ∃ j : Nat, ∃ hj : j < (bA q).size, ((∀ i (hi : i < (bA q).size), i < j → (33 : Int) ≤ (bA q)[i].toNat ∧ ((bA q)[i].toNat : Int) ≤ 126 ∧ (((bA q)[i].toNat : Int) == 35) = false)) ∧ (((bA q)[j].toNat : Int) < 33 ∨ 126 < ((bA q)[j].toNat : Int) ∨ (((bA q)[j].toNat : Int) == 35) = true) := by
  induction q with
  | nil => exact absurd (by intro b hb; cases hb) h
  | cons a q ih =>
    by_cases ha : Urp.plainC a
    · have hq : ¬ ∀ b ∈ q, Urp.plainC b := fun hx => h (by intro b hb; rcases List.mem_cons.1 hb with rfl | hb; exact ha; exact hx b hb)
      obtain ⟨j, hj, h1, h2⟩ := ih hq
      refine ⟨j + 1, by rw [bA_size] at hj ⊢; simp; exact hj, ?_, h2⟩
      intro i hi hij
      match i, hi with
      | 0, hi =>
        obtain ⟨p1, p2⟩ := ha
        unfold Urp.visI at p1
        rw [Bool.and_eq_true, decide_eq_true_eq, decide_eq_true_eq] at p1
        refine ⟨?_, ?_, ?_⟩
        · show (33 : Int) ≤ a.toNat; omega
        · show (a.toNat : Int) ≤ 126; omega
        · show ((a.toNat : Int) == 35) = false
          rw [beq_eq_false_iff_ne]
          intro hc
          exact p2 (UInt8.toNat_inj.1 (by have : a.toNat = 35 := by omega
                                          rw [this]; rfl))
      | i + 1, hi => exact h1 i (by rw [bA_size] at hi ⊢; simp at hi; exact hi) (by omega)
    · refine ⟨0, by rw [bA_size]; simp, fun i _ hi => absurd hi (by omega), ?_⟩
      show (a.toNat : Int) < 33 ∨ 126 < (a.toNat : Int) ∨ ((a.toNat : Int) == 35) = true
      by_cases h1 : (a.toNat : Int) < 33
      · exact .inl h1
      · by_cases h2 : 126 < (a.toNat : Int)
        · exact .inr (.inl h2)
        · refine .inr (.inr ?_)
          rw [beq_iff_eq]
          by_cases h3 : (a.toNat : Int) = 35
          · exact h3
          · exfalso
            refine ha ⟨?_, fun hc => h3 (by rw [hc]; rfl)⟩
            unfold Urp.visI
            rw [Bool.and_eq_true, decide_eq_true_eq, decide_eq_true_eq]
            omega
theorem good_bytes {q : List UInt8} (h : ∀ b ∈ q, Urp.plainC b) : ∀ k (hk : k < (bA q).size), (33 : Int) ≤ (bA q)[k].toNat ∧ ((bA q)[k].toNat : Int) ≤ 126 ∧ (((bA q)[k].toNat : Int) == 35) = false := by
  intro k hk
  have hm : (bA q)[k] ∈ q := by
    have h2 : k < q.length := hk
    have e : (bA q)[k] = q[k] := rfl
    rw [e]; exact List.getElem_mem h2
  obtain ⟨p1, p2⟩ := h _ hm
  generalize (bA q)[k] = a at p1 p2
  unfold Urp.visI at p1
  rw [Bool.and_eq_true, decide_eq_true_eq, decide_eq_true_eq] at p1
  refine ⟨by omega, by omega, ?_⟩
  rw [beq_eq_false_iff_ne]
  intro hc
  exact p2 (UInt8.toNat_inj.1 (by have : a.toNat = 35 := by omega
                                  rw [this]; rfl))

set_option maxHeartbeats 8000000 in
set_option maxRecDepth 100000 in
theorem walk_UrlpQueries (s0 q0 : ByteArray) (w : World) (hs : s0.size ≤ maxLen) (hq : q0.size ≤ maxLen) (hT : Tab w) (hT8 : Tab8 w) : Calls Tryd.prog 9 #[.string s0, .string q0] w fun e w' => e = .returned (.bool true) ∧ Below w.heap.size w w' := by
  unfold maxLen at hs hq
  have HA := Lib.hid (awake_any w hT hT8)
  have HT8 := Lib.hid hT8
  have HT := Lib.hid hT
  clear hT hT8
  obtain ⟨l, hl⟩ : ∃ l, s0 = bA l := ⟨s0.data.toList, rfl⟩
  subst hl
  obtain ⟨q, hql⟩ : ∃ q, q0 = bA q := ⟨q0.data.toList, rfl⟩
  subst hql
  rw [bA_size] at hs hq
  by_cases hb : 900 < l.length
  · have hb' : (900 : Int) < (l.length : Int) := by omega
    clear hb
    go_enter Tryd.func9, Tryd.ntmps9
    go_wp2_with fail
    refine HA.out.mono ?_
    rintro e w1 ⟨rfl, hb1⟩
    go_wp2_with fail
    go_ret
    exact ⟨rfl, hb1⟩
  have hb1' : (l.length : Int) ≤ 900 := by omega
  have hl3 : l.length ≤ 900 := by omega
  by_cases hc : 900 < q.length
  · have hc' : (900 : Int) < (q.length : Int) := by omega
    clear hb hc
    go_enter Tryd.func9, Tryd.ntmps9
    go_wp2_with fail
    refine HA.out.mono ?_
    rintro e w1 ⟨rfl, hb1⟩
    go_wp2_with fail
    go_ret
    exact ⟨rfl, hb1⟩
  have hc1' : (q.length : Int) ≤ 900 := by omega
  have hq3 : q.length ≤ 900 := by omega
  clear hb hc hs hq
  by_cases hpl : ∀ b ∈ q, Urp.plainC b
  · have HPL := Lib.hid (good_bytes hpl)
    rcases parse_ways l with ⟨er, hp, her⟩ | ⟨u, hp, hn⟩ | ⟨u, hp, hn⟩
    · have HU := Lib.hid (fun W h => uparse_er hp (by omega) W h)
      have her2 := ne_eq her
      clear hp hpl
      go_enter Tryd.func9, Tryd.ntmps9
      go_wp2_with fail
      refine HA.out.mono ?_
      rintro e w1 ⟨rfl, hb1⟩
      go_wp2_with fail
      go_loop [6] (fun i => ∃ k : Nat, k ≤ q.length ∧ i = .int .i64 k) (fun i => q.length - (intOf i).toNat)
      case atStart => exact ⟨0, Nat.zero_le _, rfl⟩
      case round =>
        obtain ⟨k, hk, rfl⟩ := hrel
        by_cases hlt : k < q.length
        · have hlb : k < (bA q).size := hlt
          obtain ⟨h1, h2, h3⟩ := HPL.out k hlb
          go_wp2_with fail
          go_round
          case rel => exact ⟨k + 1, by omega, by go_num⟩
          case measure => simp [intOf]; omega
        · have HT1 := Lib.hid (HT8.out.below hb1)
          go_wp2_with fail
          refine (HU.out _ HT1.out).mono ?_
          rintro e w2 ⟨rfl, hb2⟩
          have b2 := below_on hb1 hb2
          have b3 := b2.alloc (o := .cells (uCells Urp.zeroU) 27) b2.size
          have q2 := UBox.new w2 Urp.zeroU
          clear hb2
          go_wp2_with fail
          refine (netV_any _ _ _ _ _ _ _ _ _ _).mono ?_
          rintro e w3 ⟨rfl, hb3⟩
          have b4 := below_on b3 hb3
          have q3 := q2.keep hb3
          clear hb3 b3 q2
          go_wp2_with fail
          go_ret
          exact ⟨rfl, b4⟩
    · have HU := Lib.hid (fun W h => uparse_ok hp (by omega) W h)
      have HN := Lib.hid hn
      clear hp hn hpl
      go_enter Tryd.func9, Tryd.ntmps9
      go_wp2_with fail
      refine HA.out.mono ?_
      rintro e w1 ⟨rfl, hb1⟩
      go_wp2_with fail
      go_loop [6] (fun i => ∃ k : Nat, k ≤ q.length ∧ i = .int .i64 k) (fun i => q.length - (intOf i).toNat)
      case atStart => exact ⟨0, Nat.zero_le _, rfl⟩
      case round =>
        obtain ⟨k, hk, rfl⟩ := hrel
        by_cases hlt : k < q.length
        · have hlb : k < (bA q).size := hlt
          obtain ⟨h1, h2, h3⟩ := HPL.out k hlb
          go_wp2_with fail
          go_round
          case rel => exact ⟨k + 1, by omega, by go_num⟩
          case measure => simp [intOf]; omega
        · have HT1 := Lib.hid (HT8.out.below hb1)
          go_wp2_with fail
          refine (HU.out _ HT1.out).mono ?_
          rintro e w2 ⟨rfl, hb2⟩
          have b2 := below_on hb1 hb2
          have b3 := b2.alloc (o := .cells (uCells u) 27) b2.size
          have q2 := UBox.new w2 u
          clear hb2
          go_wp2_with fail
          refine (netV_any _ _ _ _ _ _ _ _ _ _).mono ?_
          rintro e w3 ⟨rfl, hb3⟩
          have b4 := below_on b3 hb3
          have q3 := q2.keep hb3
          clear hb3 b3 q2
          have en : Urp.netB (bA u.scheme).data.toList = false := HN.out
          rw [en]
          clear en
          go_wp2_with fail
          go_ret
          exact ⟨rfl, b4⟩
    · have HU := Lib.hid (fun W h => uparse_ok hp (by omega) W h)
      rcases Bool.eq_false_or_eq_true u.hasq with hx | hx
      · have HN := Lib.hid hn
        have HX := Lib.hid hx
        clear hp hn hpl hx
        go_enter Tryd.func9, Tryd.ntmps9
        go_wp2_with fail
        refine HA.out.mono ?_
        rintro e w1 ⟨rfl, hb1⟩
        go_wp2_with fail
        go_loop [6] (fun i => ∃ k : Nat, k ≤ q.length ∧ i = .int .i64 k) (fun i => q.length - (intOf i).toNat)
        case atStart => exact ⟨0, Nat.zero_le _, rfl⟩
        case round =>
          obtain ⟨k, hk, rfl⟩ := hrel
          by_cases hlt : k < q.length
          · have hlb : k < (bA q).size := hlt
            obtain ⟨h1, h2, h3⟩ := HPL.out k hlb
            go_wp2_with fail
            go_round
            case rel => exact ⟨k + 1, by omega, by go_num⟩
            case measure => simp [intOf]; omega
          · have HT1 := Lib.hid (HT8.out.below hb1)
            go_wp2_with fail
            refine (HU.out _ HT1.out).mono ?_
            rintro e w2 ⟨rfl, hb2⟩
            have b2 := below_on hb1 hb2
            have b3 := b2.alloc (o := .cells (uCells u) 27) b2.size
            have q2 := UBox.new w2 u
            clear hb2
            go_wp2_with fail
            refine (netV_any _ _ _ _ _ _ _ _ _ _).mono ?_
            rintro e w3 ⟨rfl, hb3⟩
            have b4 := below_on b3 hb3
            have q3 := q2.keep hb3
            clear hb3 b3 q2
            have en : Urp.netB (bA u.scheme).data.toList = true := HN.out
            rw [en]
            clear en
            have c6 := q3.c6
            rw [HX.out] at c6
            go_wp2_with fail
            go_ret
            exact ⟨rfl, b4⟩
      · obtain ⟨g, hgl⟩ := Urp.parse_good hp hn
        have hsm := Urp.good_small g (by omega)
        have hlen : (utextL (withQ u q)).length ≤ 2000 := by
          rw [text_withQ hn hx]
          simp only [List.length_append, List.length_cons, List.length_nil]
          omega
        have hpt := Urp.parse_text (good_withQ g hpl) hlen
        have htq := text_withQ (q := q) hn hx
        rw [htq] at hpt hlen
        have HP := Lib.hid (fun W h => uparse_ok hpt (by omega) W h)
        have HTX := Lib.hid (fun W h => text_cells u W hsm h)
        obtain ⟨t, ht⟩ : ∃ t, utextL u = t := ⟨_, rfl⟩
        rw [ht] at HTX HP hlen hgl
        have htl : t.length ≤ 901 := by omega
        have HC1 : Hid (bA t ++ (⟨#[63]⟩ : ByteArray) ++ bA q = bA (t ++ [63] ++ q)) := Lib.hid (by
          have e1 : bA t ++ (⟨#[63]⟩ : ByteArray) = bA (t ++ [63]) := bA_app t [63]
          rw [e1]; exact bA_app (t ++ [63]) q)
        unfold withQ at HP
        have HN := Lib.hid hn
        have HX := Lib.hid hx
        clear hp hn hpl hx g hgl hsm hpt htq ht hlen
        go_enter Tryd.func9, Tryd.ntmps9
        go_wp2_with fail
        refine HA.out.mono ?_
        rintro e w1 ⟨rfl, hb1⟩
        go_wp2_with fail
        go_loop [6] (fun i => ∃ k : Nat, k ≤ q.length ∧ i = .int .i64 k) (fun i => q.length - (intOf i).toNat)
        case atStart => exact ⟨0, Nat.zero_le _, rfl⟩
        case round =>
          obtain ⟨k, hk, rfl⟩ := hrel
          by_cases hlt : k < q.length
          · have hlb : k < (bA q).size := hlt
            obtain ⟨h1, h2, h3⟩ := HPL.out k hlb
            go_wp2_with fail
            go_round
            case rel => exact ⟨k + 1, by omega, by go_num⟩
            case measure => simp [intOf]; omega
          · have HT1 := Lib.hid (HT8.out.below hb1)
            go_wp2_with fail
            refine (HU.out _ HT1.out).mono ?_
            rintro e w2 ⟨rfl, hb2⟩
            have b2 := below_on hb1 hb2
            have b3 := b2.alloc (o := .cells (uCells u) 27) b2.size
            have q2 := UBox.new w2 u
            clear hb2
            go_wp2_with fail
            refine (netV_any _ _ _ _ _ _ _ _ _ _).mono ?_
            rintro e w3 ⟨rfl, hb3⟩
            have b4 := below_on b3 hb3
            have q3 := q2.keep hb3
            clear hb3 b3 q2
            have en : Urp.netB (bA u.scheme).data.toList = true := HN.out
            rw [en]
            clear en
            have c0 := q3.c0
            have c1 := q3.c1
            have c2 := q3.c2
            have c3 := q3.c3
            have c4 := q3.c4
            have c5 := q3.c5
            have c6 := q3.c6
            have c7 := q3.c7
            have c8 := q3.c8
            rw [HX.out] at c6
            rw [HX.out] at HTX
            have HT4 := Lib.hid (HT.out.below b4)
            go_wp2_with fail
            refine (HTX.out _ HT4.out).mono ?_
            rintro e w4 ⟨rfl, hb4⟩
            have b5 := below_on b4 hb4
            have q4 := q3.keep hb4
            clear hb4 q3 c0 c1 c2 c3 c4 c5 c6 c7 c8 b4
            have HT5 := Lib.hid (HT8.out.below b5)
            go_wp2_with fail
            rw [HC1.out]
            refine (HP.out _ HT5.out).mono ?_
            rintro e w5 ⟨rfl, hb5⟩
            have b6 := below_on b5 hb5
            have q5 := q4.keep hb5
            have l5 := q5.lt
            have n5 : w2.heap.size ≠ w5.heap.size := by omega
            have lw : w.heap.size ≤ w2.heap.size := b2.size
            have f5 := q5.fr
            clear hb5 q4 b5
            have c0 := q5.c0
            have c1 := q5.c1
            have c2 := q5.c2
            have c3 := q5.c3
            have c4 := q5.c4
            have c5 := q5.c5
            have c6 := q5.c6
            have c7 := q5.c7
            have c8 := q5.c8
            go_wp2_with fail
            have bz := (b6.setCell (p := ⟨w2.heap.size, 6, none⟩) lw (.bool true)).setCell (p := ⟨w2.heap.size, 7, none⟩) lw (.string (bA q))
            go_ret
            exact ⟨rfl, bz.alloc bz.size _⟩
  · obtain ⟨j, hj, hg, hbad⟩ := bad_byte hpl
    have HG := Lib.hid hg
    have hj2 : j < q.length := hj
    clear hpl hg
    go_enter Tryd.func9, Tryd.ntmps9
    go_wp2_with fail
    refine HA.out.mono ?_
    rintro e w1 ⟨rfl, hb1⟩
    go_wp2_with fail
    go_loop [6] (fun i => ∃ k : Nat, k ≤ j ∧ i = .int .i64 k) (fun i => q.length - (intOf i).toNat)
    case atStart => exact ⟨0, Nat.zero_le _, rfl⟩
    case round =>
      obtain ⟨k, hk, rfl⟩ := hrel
      rcases Nat.lt_or_ge k j with hlt | hge
      · have hlb : k < (bA q).size := by rw [bA_size]; omega
        have hlq : k < q.length := by omega
        obtain ⟨h1, h2, h3⟩ := HG.out k hlb hlt
        go_wp2_with fail
        go_round
        case rel => exact ⟨k + 1, by omega, by go_num⟩
        case measure => simp [intOf]; omega
      · obtain rfl : k = j := by omega
        have hlb : k < (bA q).size := hj
        have hz : (((bA q)[k].toNat : Int) < 33) ∨ (33 ≤ ((bA q)[k].toNat : Int) ∧ 126 < ((bA q)[k].toNat : Int)) ∨ (33 ≤ ((bA q)[k].toNat : Int) ∧ ((bA q)[k].toNat : Int) ≤ 126 ∧ (((bA q)[k].toNat : Int) == 35) = true) := by
          rcases hbad with h | h | h
          · exact .inl h
          · exact .inr (.inl ⟨by omega, h⟩)
          · have := beq_iff_eq.1 h
            exact .inr (.inr ⟨by omega, by omega, h⟩)
        rcases hz with h1 | ⟨h1, h2⟩ | ⟨h1, h2, h3⟩
        all_goals
          clear hbad
          go_wp2_with fail
          go_ret
          exact ⟨rfl, hb1⟩
end Go.Proofs.YtbeckddgelcbhaaDoor
