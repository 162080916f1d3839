/- The contracts of the statements' few and head. -/
import Derived.Test.YtopakamglhhncaaHdPall
import Derived.Test.YtopakamglhhncaaHdCheck2
namespace Go.Proofs.Ytopakamglhhncaa
open Go.RowKit

def fewH (h : Hd.Hdr) : Bool := decide (h.name.length ≤ 1000) && decide (h.value.length ≤ 5000)
def fewB (l : List Hd.Hdr) : Bool := decide (l.length ≤ 110) && l.all fewH
theorem few_small {l : List Hd.Hdr} (h : fewB l = true) : SmallH l := by
  unfold fewB at h
  rw [Bool.and_eq_true, decide_eq_true_eq] at h
  refine ⟨by omega, fun x hx => ?_⟩
  have := List.all_eq_true.1 h.2 x hx
  unfold fewH at this
  rw [Bool.and_eq_true, decide_eq_true_eq, decide_eq_true_eq] at this
  omega
theorem few_len {l : List Hd.Hdr} (h : fewB l = true) : l.length ≤ 110 := by
  unfold fewB at h
  rw [Bool.and_eq_true, decide_eq_true_eq] at h
  exact h.1
def fewTo (l : List Hd.Hdr) (k : Nat) : Prop := (l.take k).all fewH = true
theorem fewTo.succ {l : List Hd.Hdr} {k : Nat} (h : fewTo l k) (hk : k < l.length) (hx : fewH l[k] = true) : fewTo l (k + 1) := by
  unfold fewTo at h ⊢
  rw [List.take_succ_eq_append_getElem hk, List.all_append, h]
  simpa using hx
theorem few_no {l : List Hd.Hdr} {k : Nat} (hk : k < l.length) (hx : fewH l[k] = false) : fewB l = false := by
  unfold fewB
  rw [Bool.and_eq_false_iff]; right
  rw [List.all_eq_false]
  exact ⟨l[k], List.getElem_mem hk, by rw [hx]; simp⟩
theorem few_yes {l : List Hd.Hdr} (h1 : l.length ≤ 110) (h : fewTo l l.length) : fewB l = true := by
  unfold fewTo at h
  rw [List.take_of_length_le (Nat.le_refl _)] at h
  unfold fewB
  rw [h, decide_eq_true h1]; rfl
set_option maxHeartbeats 2000000 in
theorem few_any (A : Option Addr) (c n : Nat) (l : List Hd.Hdr) (w : World) (hn : l.length = n) (hA : SeenH w A l) :
    Calls Try.prog 10 #[.slice A n c] w fun e w' => e = .returned (.bool (fewB l)) ∧ w' = w := by
  subst hn
  by_cases h1 : l.length ≤ 110
  · have h1z : ¬ ((110 : Int) < (l.length : Int)) := by omega
    have HA := Lib.hid hA
    clear hA
    go_enter Try.func10, Try.ntmps10
    go_wp2
    go_loopw [3] (fun i wr => ∃ k : Nat, k ≤ l.length ∧ i = .int .i64 k ∧ Hid (fewTo l k) ∧ wr = w) (fun i _ => l.length - (intOf i).toNat)
    case atStart => exact ⟨0, by omega, rfl, Lib.hid rfl, rfl⟩
    case round =>
      obtain ⟨k, hk, rfl, hok, rfl⟩ := hrel
      by_cases hlt : k < l.length
      · obtain ⟨g, o, rfl, hg, hc⟩ := HA.out (by omega)
        have hce := hc k hlt
        have c0 := hce.1; have c1 := hce.2
        obtain ⟨x, hx⟩ : ∃ x, l[k] = x := ⟨_, rfl⟩
        rw [hx] at c0 c1
        have HX := Lib.hid hx
        clear hc hce hx
        by_cases hN : x.name.length ≤ 1000
        · have hNz : ¬ ((1000 : Int) < (x.name.length : Int)) := by omega
          by_cases hV : x.value.length ≤ 5000
          · have hVz : ¬ ((5000 : Int) < (x.value.length : Int)) := by omega
            have HF : Hid (fewH x = true) := Lib.hid (by unfold fewH; rw [decide_eq_true hN, decide_eq_true hV]; rfl)
            clear hN hV
            go_wp2_with fail
            exact ⟨⟨k + 1, by omega, by go_num, Lib.hid (hok.out.succ hlt (by rw [HX.out]; exact HF.out)), trivial⟩, by simp [intOf]; omega⟩
          · have hVz : (5000 : Int) < (x.value.length : Int) := by omega
            have HF : Hid (fewH x = false) := Lib.hid (by unfold fewH; rw [decide_eq_false hV, Bool.and_false])
            clear hN hV
            go_wp2_with fail
            go_ret
            exact ⟨by rw [few_no hlt (by rw [HX.out]; exact HF.out)]; rfl, rfl⟩
        · have hNz : (1000 : Int) < (x.name.length : Int) := by omega
          have HF : Hid (fewH x = false) := Lib.hid (by unfold fewH; rw [decide_eq_false hN, Bool.false_and])
          clear hN
          go_wp2_with fail
          go_ret
          exact ⟨by rw [few_no hlt (by rw [HX.out]; exact HF.out)]; rfl, rfl⟩
      · obtain rfl : k = l.length := by omega
        go_wp2_with fail
        go_ret
        exact ⟨by rw [few_yes h1 hok.out]; rfl, rfl⟩
  · have h1z : (110 : Int) < (l.length : Int) := by omega
    have HN : Hid (fewB l = false) := Lib.hid (by unfold fewB; rw [decide_eq_false h1, Bool.false_and])
    clear hA
    go_enter Try.func10, Try.ntmps10
    go_wp2
    go_ret
    exact ⟨by rw [HN.out]; rfl, rfl⟩

/-! ### the head -/
def awL : List Hd.Hdr := [⟨[65], [120, 32]⟩, ⟨[98], [121]⟩, ⟨[97], [34, 122, 44, 119, 34, 44, 32, 118]⟩]
theorem awSmall : SmallH awL := ⟨by decide, by decide⟩
theorem aw1Small : SmallH [⟨[97, 32, 98], []⟩] := ⟨by decide, by decide⟩
theorem awV : Hd.vals awL [97] = [[120], [34, 122, 44, 119, 34, 44, 32, 118]] := by decide +kernel
theorem awC : Hd.comb awL [97] = [120, 44, 32, 34, 122, 44, 119, 34, 44, 32, 118] := by decide +kernel
theorem awH : Hd.hasB awL [97] = true := by decide +kernel
theorem awP : Hd.partsL awL [97] = [[120], [34, 122, 44, 119, 34], [118]] := by decide +kernel
theorem awK : Hd.checkB awL = true := by decide +kernel
theorem awK1 : Hd.checkB [⟨[97, 32, 98], []⟩] = false := by decide +kernel
/-- A list of headers as a block of the call's own. -/
theorem seen_lit {w : World} {g : Nat} {l : List Hd.Hdr} {cs : Array Value} (hg : w.heap[g]? = some (.cells cs 34 (0, 0))) (hc : cs.toList = rowH l) : SeenH w (some ⟨g, 0, none⟩) l := fun hn => by
  refine ⟨g, 0, rfl, (Array.getElem?_eq_some_iff.1 hg).1, fun i hi => ?_⟩
  obtain ⟨x1, x2⟩ := rowH_at l i hi
  rw [← hc, Array.getElem?_toList] at x1 x2
  rw [Nat.zero_add]
  constructor
  · simp [World.cell?, hg, x1]
  · simp [World.cell?, hg, x2]
/-- A list of texts that is known: where it lies, and its cells. -/
theorem texts_known {w : World} {ps : List (List UInt8)} {e : Ending} {w' : World} (h : RetTexts w ps e w') (h0 : ps ≠ []) : ∃ g c, e = .returned (.slice (some ⟨g, 0, none⟩) ps.length c) ∧ Below w.heap.size w w' ∧ g < w'.heap.size ∧ ∀ i (h : i < ps.length), w'.cell? ⟨g, i, none⟩ = some (.string (bA ps[i])) := by
  obtain ⟨v, rfl, hb, ho⟩ := h
  rcases owns_view ho with ⟨rfl, e⟩ | ⟨g, c, rfl, _, hg, _, hc⟩
  · exact absurd e h0
  · exact ⟨g, c, rfl, hb, hg, hc⟩
set_option maxHeartbeats 4000000 in
theorem awake_any (w : World) : Calls Try.prog 9 #[] w fun e w' => e = .returned (.bool true) ∧ Below w.heap.size w w' := by
  go_enter Try.func9, Try.ntmps9
  go_wp2_with fail
  have hS : SeenH (w.alloc (.cells #[.string ⟨#[65]⟩, .string ⟨#[120, 32]⟩, .string ⟨#[98]⟩, .string ⟨#[121]⟩, .string ⟨#[97]⟩, .string ⟨#[34, 122, 44, 119, 34, 44, 32, 118]⟩] 34)) (some ⟨w.heap.size, 0, none⟩) awL := seen_lit (World.alloc_heap_new _ _) rfl
  have hB1 : Below w.heap.size w (w.alloc (.cells #[.string ⟨#[65]⟩, .string ⟨#[120, 32]⟩, .string ⟨#[98]⟩, .string ⟨#[121]⟩, .string ⟨#[97]⟩, .string ⟨#[34, 122, 44, 119, 34, 44, 32, 118]⟩] 34)) := (Below.refl _ w).alloc (Nat.le_refl _) _
  obtain ⟨w1, hw1⟩ : ∃ w1, w.alloc (.cells #[.string ⟨#[65]⟩, .string ⟨#[120, 32]⟩, .string ⟨#[98]⟩, .string ⟨#[121]⟩, .string ⟨#[97]⟩, .string ⟨#[34, 122, 44, 119, 34, 44, 32, 118]⟩] 34) = w1 := ⟨_, rfl⟩
  rw [hw1] at hS hB1 ⊢
  have HS := Lib.hid hS; have HB1 := Lib.hid hB1
  clear hw1 hS hB1
  have hc1 := values_any (some ⟨w.heap.size, 0, none⟩) 3 3 awL [97] w1 rfl awSmall (by decide) HS.out
  refine (show Calls Try.prog 12 #[.slice (some ⟨w.heap.size, 0, none⟩) 3 3, .string ⟨#[97]⟩] w1 _ from hc1).mono ?_
  intro e w2 hr
  rw [awV] at hr
  obtain ⟨g2, c2, rfl, hb2, hg2, hcs2⟩ := texts_known hr (by simp)
  have HV0 : Hid (w2.cell? ⟨g2, 0, none⟩ = some (.string ⟨#[120]⟩)) := Lib.hid (hcs2 0 (by decide))
  have HS2 := Lib.hid (HS.out.below hb2); have HB2 := Lib.hid (Below.onto HB1.out hb2)
  clear hr hc1 hcs2
  go_wp2_with fail
  have hc2 := combined_any (some ⟨w.heap.size, 0, none⟩) 3 3 awL [97] w2 rfl awSmall (by decide) HS2.out
  rw [awC, awH] at hc2
  refine (show Calls Try.prog 16 #[.slice (some ⟨w.heap.size, 0, none⟩) 3 3, .string ⟨#[97]⟩] w2 _ from hc2).mono ?_
  rintro e w3 ⟨rfl, hb3⟩
  have HS3 := Lib.hid (HS2.out.below hb3); have HB3 := Lib.hid (Below.onto HB2.out hb3)
  have HV3 : Hid (w3.cell? ⟨g2, 0, none⟩ = some (.string ⟨#[120]⟩)) := Lib.hid ((hb3.cell (p := ⟨g2, 0, none⟩) hg2).trans HV0.out)
  have hg3 : g2 < w3.heap.size := Nat.lt_of_lt_of_le hg2 hb3.size
  clear hc2
  go_wp2_with fail
  have hc3 := parts_any (some ⟨w.heap.size, 0, none⟩) 3 3 awL [97] w3 rfl awSmall (by decide) HS3.out
  refine (show Calls Try.prog 14 #[.slice (some ⟨w.heap.size, 0, none⟩) 3 3, .string ⟨#[97]⟩] w3 _ from hc3).mono ?_
  intro e w4 hr
  rw [awP] at hr
  obtain ⟨g4, c4, rfl, hb4, hg4, hcs4⟩ := texts_known hr (by simp)
  have hv4 : w4.cell? ⟨g2, 0, none⟩ = some (.string ⟨#[120]⟩) := (hb4.cell (p := ⟨g2, 0, none⟩) hg3).trans HV3.out
  have hp4 : w4.cell? ⟨g4, 1, none⟩ = some (.string ⟨#[34, 122, 44, 119, 34]⟩) := hcs4 1 (by decide)
  have HS4 := Lib.hid (HS3.out.below hb4); have HB4 := Lib.hid (Below.onto HB3.out hb4)
  clear hr hc3 hcs4
  go_wp2_with fail
  have hc5 := check_any (some ⟨w.heap.size, 0, none⟩) 3 3 awL w4 rfl awSmall HS4.out
  rw [awK] at hc5
  refine hc5.mono ?_
  rintro e w5 ⟨rfl, hb5⟩
  have HB5 := Lib.hid (Below.onto HB4.out hb5)
  clear hc5
  simp only [errV, if_true]
  go_wp2_with fail
  have hS6 : SeenH (w5.alloc (.cells #[.string ⟨#[97, 32, 98]⟩, .string ⟨#[]⟩] 34)) (some ⟨w5.heap.size, 0, none⟩) [⟨[97, 32, 98], []⟩] := seen_lit (World.alloc_heap_new _ _) rfl
  have hc6 := check_any (some ⟨w5.heap.size, 0, none⟩) 1 1 [⟨[97, 32, 98], []⟩] _ rfl aw1Small hS6
  rw [awK1] at hc6
  refine hc6.mono ?_
  rintro e w6 ⟨rfl, hb6⟩
  have HB6 := Lib.hid (Below.onto1 HB5.out hb6)
  clear hc6 hS6 hb6 hv4 hp4
  simp only [errV, Bool.false_eq_true, if_false]
  go_wp2_with fail
  go_ret
  exact ⟨rfl, HB6.out⟩
end Go.Proofs.Ytopakamglhhncaa
