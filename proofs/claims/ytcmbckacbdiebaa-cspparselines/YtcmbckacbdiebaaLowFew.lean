/- The contract of glacislaw08's Few (heads that are not too great); a list of headers as a block. (No sfitem.) -/
import Derived.Test.YtcmbckacbdiebaaHdIter
namespace Go.Proofs.Ytcmbckacbdiebaa
open Go.RowKit

def lowH (h : Hd.Hdr) : Bool := decide (h.name.length ≤ 200) && decide (h.value.length ≤ 4000)
def lowB (l : List Hd.Hdr) : Bool := decide (l.length ≤ 100) && l.all lowH
theorem low_small {l : List Hd.Hdr} (h : lowB l = true) : SmallH l := by
  unfold lowB at h
  rw [Bool.and_eq_true, decide_eq_true_eq] at h
  refine ⟨by omega, fun x hx => ?_⟩
  have := List.all_eq_true.1 h.2 x hx
  unfold lowH at this
  rw [Bool.and_eq_true, decide_eq_true_eq, decide_eq_true_eq] at this
  omega
theorem low_len {l : List Hd.Hdr} (h : lowB l = true) : l.length ≤ 100 := by
  unfold lowB at h
  rw [Bool.and_eq_true, decide_eq_true_eq] at h
  exact h.1
def lowTo (l : List Hd.Hdr) (k : Nat) : Prop := (l.take k).all lowH = true
theorem lowTo.succ {l : List Hd.Hdr} {k : Nat} (h : lowTo l k) (hk : k < l.length) (hx : lowH l[k] = true) : lowTo l (k + 1) := by
  unfold lowTo at h ⊢
  rw [List.take_succ_eq_append_getElem hk, List.all_append, h]
  simpa using hx
theorem low_no {l : List Hd.Hdr} {k : Nat} (hk : k < l.length) (hx : lowH l[k] = false) : lowB l = false := by
  unfold lowB
  rw [Bool.and_eq_false_iff]; right
  rw [List.all_eq_false]
  exact ⟨l[k], List.getElem_mem hk, by rw [hx]; simp⟩
theorem low_yes {l : List Hd.Hdr} (h1 : l.length ≤ 100) (h : lowTo l l.length) : lowB l = true := by
  unfold lowTo at h
  rw [List.take_of_length_le (Nat.le_refl _)] at h
  unfold lowB
  rw [h, decide_eq_true h1]; rfl
set_option maxHeartbeats 2000000 in
theorem low_any (A : Option Addr) (c n : Nat) (l : List Hd.Hdr) (w : World) (hn : l.length = n) (hA : SeenH w A l) :
    Calls Try.prog 13 #[.slice A n c] w fun e w' => e = .returned (.bool (lowB l)) ∧ w' = w := by
  subst hn
  by_cases h1 : l.length ≤ 100
  · have h1z : ¬ ((100 : Int) < (l.length : Int)) := by omega
    have HA := Lib.hid hA
    clear hA
    go_enter Try.func13, Try.ntmps13
    go_wp2
    go_loopw [3] (fun i wr => ∃ k : Nat, k ≤ l.length ∧ i = .int .i64 k ∧ Hid (lowTo l k) ∧ wr = w) (fun i _ => l.length - (intOf i).toNat)
    case atStart => exact ⟨0, by omega, rfl, Lib.hid rfl, rfl⟩
    case round =>
      obtain ⟨k, hk, rfl, hok, rfl⟩ := hrel
      by_cases hlt : k < l.length
      · obtain ⟨g, o, rfl, hg, hc⟩ := HA.out (by omega)
        have hce := hc k hlt
        have c0 := hce.1; have c1 := hce.2
        obtain ⟨x, hx⟩ : ∃ x, l[k] = x := ⟨_, rfl⟩
        rw [hx] at c0 c1
        have HX := Lib.hid hx
        clear hc hce hx
        by_cases hN : x.name.length ≤ 200
        · have hNz : ¬ ((200 : Int) < (x.name.length : Int)) := by omega
          by_cases hV : x.value.length ≤ 4000
          · have hVz : ¬ ((4000 : Int) < (x.value.length : Int)) := by omega
            have HF : Hid (lowH x = true) := Lib.hid (by unfold lowH; rw [decide_eq_true hN, decide_eq_true hV]; rfl)
            clear hN hV
            go_wp2_with fail
            exact ⟨⟨k + 1, by omega, by go_num, Lib.hid (hok.out.succ hlt (by rw [HX.out]; exact HF.out)), trivial⟩, by simp [intOf]; omega⟩
          · have hVz : (4000 : Int) < (x.value.length : Int) := by omega
            have HF : Hid (lowH x = false) := Lib.hid (by unfold lowH; rw [decide_eq_false hV, Bool.and_false])
            clear hN hV
            go_wp2_with fail
            go_ret
            exact ⟨by rw [low_no hlt (by rw [HX.out]; exact HF.out)]; rfl, rfl⟩
        · have hNz : (200 : Int) < (x.name.length : Int) := by omega
          have HF : Hid (lowH x = false) := Lib.hid (by unfold lowH; rw [decide_eq_false hN, Bool.false_and])
          clear hN
          go_wp2_with fail
          go_ret
          exact ⟨by rw [low_no hlt (by rw [HX.out]; exact HF.out)]; rfl, rfl⟩
      · obtain rfl : k = l.length := by omega
        go_wp2_with fail
        go_ret
        exact ⟨by rw [low_yes h1 hok.out]; rfl, rfl⟩
  · have h1z : (100 : Int) < (l.length : Int) := by omega
    have HN : Hid (lowB l = false) := Lib.hid (by unfold lowB; rw [decide_eq_false h1, Bool.false_and])
    clear hA
    go_enter Try.func13, Try.ntmps13
    go_wp2
    go_ret
    exact ⟨by rw [HN.out]; rfl, rfl⟩


/-- A list of headers as a block of the call's own. -/
theorem seen_block {w : World} {g : Nat} {l : List Hd.Hdr} {cs : Array Value} (hg : w.heap[g]? = some (.cells cs 38 (0, 0))) (hc : cs.toList = rowH l) : SeenH w (some ⟨g, 0, none⟩) l := fun hn => by
  refine ⟨g, 0, rfl, (Array.getElem?_eq_some_iff.1 hg).1, fun i hi => ?_⟩
  obtain ⟨x1, x2⟩ := rowH_at l i hi
  rw [← hc, Array.getElem?_toList] at x1 x2
  rw [Nat.zero_add]
  constructor
  · simp [World.cell?, hg, x1]
  · simp [World.cell?, hg, x2]

end Go.Proofs.Ytcmbckacbdiebaa
