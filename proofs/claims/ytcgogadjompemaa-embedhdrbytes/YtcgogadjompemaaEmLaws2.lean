/- The walk of the statement EmbedhdrBytes. -/
import Derived.Test.YtcgogadjompemaaEmAwake
namespace Go.Proofs.Ytcgogadjompemaa
open Go.RowKit

/-- embedhdr's resource policy of one line, and of two, just laid. -/
theorem corp1_at {s : List UInt8} {v : Int} (hs : s.length ≤ 5000) (hv : Em.corpW (Oct.trim s) = v) (w : World) : Calls Try.prog 11 #[.slice (some ⟨w.heap.size, 0, none⟩) 1 1] (w.alloc (.cells #[.string (bA Em.nC), .string (bA s)] 28)) fun e w' => e = .returned (.int .i64 v) ∧ Below w.heap.size w w' :=
  corp_at hs (by rw [Em.corp_one]; exact hv) w
theorem corp2_at {s t : List UInt8} (hs : s.length ≤ 5000) (ht : t.length ≤ 5000) (w : World) : Calls Try.prog 11 #[.slice (some ⟨w.heap.size, 0, none⟩) 2 2] (w.alloc (.cells #[.string (bA Em.nC), .string (bA s), .string (bA Em.nC), .string (bA t)] 28)) fun e w' => e = .returned (.int .i64 0) ∧ Below w.heap.size w w' := by
  have h := corp_any (some ⟨w.heap.size, 0, none⟩) 2 2 [⟨Em.nC, s⟩, ⟨Em.nC, t⟩] _ rfl (small_two (by decide) hs (by decide) ht) (two_line w Em.nC s Em.nC t)
  rw [Em.corp_two] at h
  exact h.mono fun e w' ⟨h1, h2⟩ => ⟨h1, Below.onto1 (Below.refl _ w) h2⟩
theorem otrim_bA (s : List UInt8) (w : World) (hs : s.length ≤ 5000) : Calls Try.prog 17 #[.string (bA s)] w fun e w' => e = .returned (.string (bA (Oct.trim s))) ∧ w = w' :=
  otrim_any (bA s) w (by rw [bA_size]; unfold maxLen; omega)
set_option maxHeartbeats 8000000 in
set_option maxRecDepth 20000 in
theorem walk_EmbedhdrBytes (s t : ByteArray) (w : World) (hs : s.size ≤ maxLen) (ht : t.size ≤ maxLen) :
    Calls Try.prog 6 #[.string s, .string t] w fun e w' => e = .returned (.bool true) ∧ Below w.heap.size w w' := by
  unfold maxLen at hs ht
  by_cases hok : s.size ≤ 4000 ∧ t.size ≤ 4000
  · obtain ⟨h1, h2⟩ := hok
    have z1 : ¬ ((4000 : Int) < (s.size : Int)) := by omega
    have z2 : ¬ ((4000 : Int) < (t.size : Int)) := by omega
    obtain ⟨S, rfl⟩ : ∃ S, s = bA S := ⟨s.data.toList, rfl⟩
    obtain ⟨T, rfl⟩ : ∃ T, t = bA T := ⟨t.data.toList, rfl⟩
    rw [bA_size] at h1 h2 z1 z2
    have ct := fun W => otrim_bA S W (by omega)
    have c1 := fun v (hv : Em.corpW (Oct.trim S) = v) => corp1_at (s := S) (by omega) hv
    have c2 := corp2_at (s := S) (t := T) (by omega) (by omega)
    obtain ⟨v, hv⟩ : ∃ v, Oct.trim S = v := ⟨_, rfl⟩
    rw [hv] at ct c1
    have CT := Lib.hid ct; have C1 := Lib.hid c1; have C2 := Lib.hid c2
    clear ct c1 c2 hv hs ht h1 h2
    have key : ∀ (val : Int) (hval : Em.corpW v = val), ∀ b1 b2 b3 : Bool, (v == Em.wSO) = b1 → (v == Em.wSS) = b2 → (v == Em.wCO) = b3 → (val = 0 ∧ b1 = false ∧ b2 = false ∧ b3 = false ∨ val = 1 ∧ b1 = true ∧ b2 = false ∧ b3 = false ∨ val = 2 ∧ b1 = false ∧ b2 = true ∧ b3 = false ∨ val = 3 ∧ b1 = false ∧ b2 = false ∧ b3 = true) →
        Calls Try.prog 6 #[.string (bA S), .string (bA T)] w fun e w' => e = .returned (.bool true) ∧ Below w.heap.size w w' := by
      intro val hval b1 b2 b3 e1 e2 e3 hc
      have CC := Lib.hid (C1.out val hval)
      clear C1 hval
      unfold Em.wSO at e1; unfold Em.wSS at e2; unfold Em.wCO at e3
      rcases hc with ⟨rfl, rfl, rfl, rfl⟩ | ⟨rfl, rfl, rfl, rfl⟩ | ⟨rfl, rfl, rfl, rfl⟩ | ⟨rfl, rfl, rfl, rfl⟩
      all_goals
        go_enter Try.func6, Try.ntmps6
        go_wp2_with fail
        refine (awake9_any _).mono ?_
        rintro e w1 ⟨rfl, hb1⟩
        have HB1 := Lib.hid hb1
        clear hb1
        go_wp2_with fail
        refine (CT.out _).mono ?_
        rintro e w2 ⟨rfl, rfl⟩
        clear CT
        go_wp2_with fail
        refine (corp_line _ _).mono ?_
        rintro e w3 ⟨rfl, hb3⟩
        have HB3 := Lib.hid (Below.onto HB1.out hb3)
        clear hb3 HB1
        go_wp2_with fail
        refine (CC.out _).mono ?_
        rintro e w4 ⟨rfl, hb4⟩
        have HB4 := Lib.hid (Below.onto HB3.out hb4)
        clear hb4 HB3 CC
        go_wp2_with fail
        refine (corp_line _ _).mono ?_
        rintro e w5 ⟨rfl, hb5⟩
        have HB5 := Lib.hid (Below.onto HB4.out hb5)
        clear hb5 HB4
        go_wp2_with fail
        refine (corp_line _ _).mono ?_
        rintro e w6 ⟨rfl, hb6⟩
        have HB6 := Lib.hid (Below.onto HB5.out hb6)
        clear hb6 HB5
        go_wp2_with fail
        refine (C2.out _).mono ?_
        rintro e w7 ⟨rfl, hb7⟩
        have HB7 := Lib.hid (Below.onto HB6.out hb7)
        clear hb7 HB6
        go_wp2_with fail
        go_ret
        exact ⟨rfl, HB7.out⟩
    have hW : Em.corpW v = if v = Em.wSO then 1 else if v = Em.wSS then 2 else if v = Em.wCO then 3 else 0 := rfl
    by_cases g1 : v = Em.wSO
    · exact key 1 (by rw [hW, if_pos g1]) true false false (by rw [g1]; rfl) (by rw [g1]; rfl) (by rw [g1]; rfl) (by decide)
    · by_cases g2 : v = Em.wSS
      · exact key 2 (by rw [hW, if_neg g1, if_pos g2]) false true false (by rw [g2]; rfl) (by rw [g2]; rfl) (by rw [g2]; rfl) (by decide)
      · by_cases g3 : v = Em.wCO
        · exact key 3 (by rw [hW, if_neg g1, if_neg g2, if_pos g3]) false false true (by rw [g3]; rfl) (by rw [g3]; rfl) (by rw [g3]; rfl) (by decide)
        · exact key 0 (by rw [hW, if_neg g1, if_neg g2, if_neg g3]) _ _ _ (beq_eq_false_iff_ne.2 g1) (beq_eq_false_iff_ne.2 g2) (beq_eq_false_iff_ne.2 g3) (by decide)
  · have HB : (4000 : Int) < (s.size : Int) ∨ (¬ (4000 : Int) < (s.size : Int) ∧ (4000 : Int) < (t.size : Int)) := by omega
    rcases HB with z1 | ⟨z1, z2⟩
    all_goals
      clear hok
      go_enter Try.func6, Try.ntmps6
      go_wp2_with fail
      refine (awake9_any _).mono ?_
      rintro e w1 ⟨rfl, hb1⟩
      have HB1 := Lib.hid hb1
      clear hb1
      go_wp2_with fail
      go_ret
      exact ⟨rfl, HB1.out⟩
end Go.Proofs.Ytcgogadjompemaa
