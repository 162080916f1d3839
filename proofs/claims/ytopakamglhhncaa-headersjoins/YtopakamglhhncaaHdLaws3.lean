/- The walk of the statement HeadersJoins. -/
import Derived.Test.YtopakamglhhncaaHdLaws1
namespace Go.Proofs.Ytopakamglhhncaa
open Go.RowKit

/-- Two headers in a block of the call's own. -/
theorem seen_two (w : World) (n a b : List UInt8) : SeenH (w.alloc (.cells #[.string (bA n), .string (bA a), .string (bA n), .string (bA b)] 34)) (some ⟨w.heap.size, 0, none⟩) [⟨n, a⟩, ⟨n, b⟩] := seen_lit (World.alloc_heap_new _ _) rfl
theorem seen_one (w : World) (n a : List UInt8) : SeenH (w.alloc (.cells #[.string (bA n), .string (bA a)] 34)) (some ⟨w.heap.size, 0, none⟩) [⟨n, a⟩] := seen_lit (World.alloc_heap_new _ _) rfl
set_option maxHeartbeats 4000000 in
theorem walk_HeadersJoins (nm a b : ByteArray) (w : World) (hnm : nm.size ≤ maxLen) (ha : a.size ≤ maxLen) (hb : b.size ≤ maxLen) :
    Calls Try.prog 6 #[.string nm, .string a, .string b] w fun e w' => e = .returned (.bool true) ∧ Below w.heap.size w w' := by
  unfold maxLen at hnm ha hb
  by_cases hok : a.size ≤ 2000 ∧ b.size ≤ 2000 ∧ nm.size ≤ 1000
  · obtain ⟨h1, h2, h3⟩ := hok
    have h1z : ¬ ((2000 : Int) < (a.size : Int)) := by omega
    have h2z : ¬ ((2000 : Int) < (b.size : Int)) := by omega
    have h3z : ¬ ((1000 : Int) < (nm.size : Int)) := by omega
    have la : a.data.toList.length ≤ 2000 := by simpa using h1
    have lb : b.data.toList.length ≤ 2000 := by simpa using h2
    have ln : nm.data.toList.length ≤ 10000 := by simp; omega
    have HSM : Hid (SmallH [⟨nm.data.toList, a.data.toList⟩, ⟨nm.data.toList, b.data.toList⟩]) := Lib.hid ⟨by simp, fun x hx => by
      simp only [List.mem_cons, List.not_mem_nil, or_false] at hx
      rcases hx with rfl | rfl
      · exact ⟨ln, Nat.le_trans la (by omega)⟩
      · exact ⟨ln, Nat.le_trans lb (by omega)⟩⟩
    clear h1 h2 h3
    go_enter Try.func6, Try.ntmps6
    go_wp2_with fail
    refine (awake_any _).mono ?_
    rintro e w1 ⟨rfl, hb1⟩
    have HB1 := Lib.hid hb1
    clear hb1
    go_wp2_with fail
    have hS2 := seen_two w1 nm.data.toList a.data.toList b.data.toList
    have hB2 : Below w1.heap.size w1 (w1.alloc (.cells #[.string nm, .string a, .string nm, .string b] 34)) := (Below.refl _ _).alloc (Nat.le_refl _) _
    obtain ⟨w2, hw2⟩ : ∃ w2, w1.alloc (.cells #[.string nm, .string a, .string nm, .string b] 34) = w2 := ⟨_, rfl⟩
    replace hS2 : SeenH (w1.alloc (.cells #[.string nm, .string a, .string nm, .string b] 34)) (some ⟨w1.heap.size, 0, none⟩) [⟨nm.data.toList, a.data.toList⟩, ⟨nm.data.toList, b.data.toList⟩] := hS2
    rw [hw2] at hS2 hB2 ⊢
    have HS2 := Lib.hid hS2; have HB2 := Lib.hid (Below.onto HB1.out hB2)
    clear hw2 hS2 hB2
    obtain ⟨X, hX⟩ : ∃ X, Oct.trim a.data.toList = X := ⟨_, rfl⟩
    obtain ⟨Y, hY⟩ : ∃ Y, Oct.trim b.data.toList = Y := ⟨_, rfl⟩
    have hXl : X.length ≤ 2000 := by rw [← hX]; exact Nat.le_trans (Oct.trim_length _) la
    have hYl : Y.length ≤ 2000 := by rw [← hY]; exact Nat.le_trans (Oct.trim_length _) lb
    have HC2 : Hid (Hd.comb [⟨nm.data.toList, a.data.toList⟩, ⟨nm.data.toList, b.data.toList⟩] nm.data.toList = X ++ [44, 32] ++ Y) := Lib.hid (by rw [Hd.comb_two, hX, hY])
    have HV2 : Hid (Hd.vals [⟨nm.data.toList, a.data.toList⟩, ⟨nm.data.toList, b.data.toList⟩] nm.data.toList = [X, Y]) := Lib.hid (by rw [Hd.vals_two, hX, hY])
    have hz1 : ∀ W : World, (Op.stringOp .add (bA X) ⟨#[44, 32]⟩).run Try.prog W = .ok (.string (bA (X ++ [44, 32]))) W := fun W => by
      rw [run_string_add_sum W (bA X) (bA [44, 32]) (by simp only [bA_size, List.length_cons, List.length_nil]; omega), bA_app]
    have hz2 : ∀ W : World, (Op.stringOp .add (bA (X ++ [44, 32])) (bA Y)).run Try.prog W = .ok (.string (bA (X ++ [44, 32] ++ Y))) W := fun W => by
      rw [run_string_add_sum W _ (bA Y) (by simp only [bA_size, List.length_append, List.length_cons, List.length_nil]; omega), bA_app]
    have hSl : (X ++ [44, 32] ++ Y).length ≤ 4002 := by simp; omega
    obtain ⟨S, hS⟩ : ∃ S, X ++ [44, 32] ++ Y = S := ⟨_, rfl⟩
    rw [hS] at HC2 hz2 hSl
    have HZ1 := Lib.hid hz1; have HZ2 := Lib.hid hz2
    have HSM1 : Hid (SmallH [⟨nm.data.toList, S⟩]) := Lib.hid ⟨by simp, fun x hx => by
      simp only [List.mem_cons, List.not_mem_nil, or_false] at hx
      subst hx; exact ⟨ln, Nat.le_trans hSl (by omega)⟩⟩
    clear hX hY hz1 hz2 hS
    have hc := combined_any (some ⟨w1.heap.size, 0, none⟩) 2 2 _ nm.data.toList w2 rfl HSM.out ln HS2.out
    rw [HC2.out, Hd.has_two] at hc
    refine hc.mono ?_
    rintro e w3 ⟨rfl, hb3⟩
    have HS3 := Lib.hid (HS2.out.below hb3); have HB3 := Lib.hid (Below.onto HB2.out hb3)
    clear hc hb3
    go_wp2_with fail
    have hS4 : SeenH (w3.alloc (.cells #[.string nm, .string (bA S)] 34)) (some ⟨w3.heap.size, 0, none⟩) [⟨nm.data.toList, S⟩] := seen_one w3 nm.data.toList S
    have hB4 : Below w3.heap.size w3 (w3.alloc (.cells #[.string nm, .string (bA S)] 34)) := (Below.refl _ _).alloc (Nat.le_refl _) _
    obtain ⟨w4, hw4⟩ : ∃ w4, w3.alloc (.cells #[.string nm, .string (bA S)] 34) = w4 := ⟨_, rfl⟩
    rw [hw4] at hS4 hB4 ⊢
    have HS4 := Lib.hid hS4; have HT4 := Lib.hid (HS3.out.below hB4); have HB4 := Lib.hid (Below.onto HB3.out hB4)
    clear hw4 hS4 hB4
    have hc := values_any (some ⟨w1.heap.size, 0, none⟩) 2 2 _ nm.data.toList w4 rfl HSM.out ln HT4.out
    rw [HV2.out] at hc
    refine hc.mono ?_
    intro e w5 hr
    obtain ⟨g5, c5, rfl, hb5, hg5, hcs5⟩ := texts_known hr (by simp)
    have HV0 : Hid (w5.cell? ⟨g5, 0, none⟩ = some (.string (bA X))) := Lib.hid (hcs5 0 (by simp))
    have HV1 : Hid (w5.cell? ⟨g5, 1, none⟩ = some (.string (bA Y))) := Lib.hid (hcs5 1 (by simp))
    have HS5 := Lib.hid (HS4.out.below hb5); have HB5 := Lib.hid (Below.onto HB4.out hb5)
    clear hc hr hb5 hcs5
    go_wp2_with fail
    have hc := combined_any (some ⟨w3.heap.size, 0, none⟩) 1 1 _ nm.data.toList w5 rfl HSM1.out ln HS5.out
    rw [Hd.comb_one, Hd.has_one] at hc
    obtain ⟨Z, hZ⟩ : ∃ Z, Oct.trim S = Z := ⟨_, rfl⟩
    rw [hZ] at hc
    have HT : Hid (∀ W, Calls Try.prog 22 #[.string (bA S)] W fun e w' => e = .returned (.string (bA Z)) ∧ w' = W) := Lib.hid fun W => (trim_val S (by omega) W).mono fun _ _ h => ⟨by rw [h.1, hZ], h.2.symm⟩
    clear hZ
    refine hc.mono ?_
    rintro e w6 ⟨rfl, hb6⟩
    have HB6 := Lib.hid (Below.onto HB5.out hb6)
    have d0 := (hb6.cell (p := ⟨g5, 0, none⟩) hg5).trans HV0.out
    have d1 := (hb6.cell (p := ⟨g5, 1, none⟩) hg5).trans HV1.out
    have hz1 := HZ1.out; have hz2 := HZ2.out
    clear hc hb6
    go_wp2_with fail
    go_quiet (first | (go_at_call 22; refine Calls.quiet_of_same (HT.out _)))
    go_wp2_with fail
    go_ret
    exact ⟨rfl, below_drewN' HB6.out _⟩
  · go_enter Try.func6, Try.ntmps6
    go_wp2_with fail
    refine (awake_any _).mono ?_
    rintro e w1 ⟨rfl, hb1⟩
    have hz : (2000 : Int) < (a.size : Int) ∨ (2000 : Int) < (b.size : Int) ∨ (1000 : Int) < (nm.size : Int) := by omega
    clear hok
    go_wp2_with fail
    all_goals (go_ret; exact ⟨rfl, hb1⟩)
end Go.Proofs.Ytopakamglhhncaa
