/- The contract of embedhdr.Xfo: a loop over the map of words, in whatever order they come. -/
import Derived.Test.YtcgogadjompemaaEmCode
namespace Go.Proofs.Ytcgogadjompemaa
open Go.RowKit
open Go.Maps Go.WideMaps

theorem bA_inj {a b : List UInt8} (h : bA a = bA b) : a = b := by
  have : (bA a).data.toList = (bA b).data.toList := by rw [h]
  exact this
theorem strike_left {left : Lit → Bool} {x s : List UInt8} (h : (left (.string s) && !(Lit.string s).sameKey (.string x)) = false) : left (.string s) = false ∨ s = x := by
  rcases Bool.and_eq_false_iff.1 h with h | h
  · exact .inl h
  · right
    have h2 : (Lit.string s).sameKey (.string x) = true := by simpa using h
    exact Lit.string.inj ((WideAt.sameKey_iff (a := Lit.string s) (b := Lit.string x) trivial).1 h2)
set_option maxHeartbeats 2000000 in
set_option maxRecDepth 20000 in
theorem xfo_any (A : Option Addr) (c n : Nat) (l : List Hd.Hdr) (w : World) (hn : l.length = n) (hl : SmallH l) (hA : SeenH w A l) :
    Calls Try.prog 13 #[.slice A n c] w fun e w' => e = .returned (.int .i64 (Em.xfoL l)) ∧ Below w.heap.size w w' := by
  have hcall := frameWords_any A c n l w hn hl hA
  have hx : Em.xfoL l = Em.xfoW (Em.xw l) := rfl
  rw [hx]
  obtain ⟨ws, hws⟩ : ∃ ws, Em.xw l = ws := ⟨_, rfl⟩
  rw [hws] at hcall ⊢
  have hmany := many_size ws
  have hfound := fun s h1 h2 => opt_found (ws := ws) (s := s) h1 h2
  have hnone := fun m h => opt_none (ws := ws) (m := m) h
  have hhas := fun s => (has_setW ws s).1
  have hhasr := fun s => (has_setW ws s).2
  have hsz : ∃ N, Maps.size (setW ws) = N := ⟨_, rfl⟩
  obtain ⟨N, hN⟩ := hsz
  obtain ⟨D, hD⟩ : ∃ D, setW ws = D := ⟨_, rfl⟩
  obtain ⟨res, hres⟩ : ∃ res, Em.xfoW ws = res := ⟨_, rfl⟩
  rw [hN] at hmany
  rw [hD] at hcall hN hhas hhasr
  rw [hres] at hfound hnone ⊢
  obtain ⟨m, hm⟩ : ∃ m, Em.many ws = m := ⟨_, rfl⟩
  rw [hm] at hmany hfound
  have HC := Lib.hid hcall; have HF := Lib.hid hfound; have H0 := Lib.hid hnone; have HH := Lib.hid hhas; have HHR := Lib.hid hhasr; have HN := Lib.hid hN
  clear hcall hfound hnone hhas hhasr hN hl hA hx hws hD hres hm
  cases hlt : decide (1 < N) with
  | true =>
    rw [hlt] at hmany
    subst hmany
    have hNz : ((1 : Int) < (N : Int)) := by have := of_decide_eq_true hlt; omega
    have hNd : decide ((1 : Int) < (N : Int)) = true := decide_eq_true hNz
    clear hlt
    go_enter Try.func13, Try.ntmps13
    go_wp2_with fail
    refine HC.out.mono ?_
    rintro e w1 ⟨rfl, hb1, ho1, hle⟩
    obtain ⟨nn, hnn⟩ : ∃ nn, ws.length = nn := ⟨_, rfl⟩
    rw [hnn] at ho1 hle
    have hown1 : w1.ownsMap Try.prog 9 (unitElem (H := Unit)) w.heap.size nn D := ho1
    have HB1 := Lib.hid hb1
    clear hb1 ho1 hnn
    go_wp2_with (first
      | (at_len; refine wpList_len_own _ rfl _ 40 rfl 9 51 Try.underlying40 (unitElem (H := Unit)) w.heap.size nn D rfl hown1 ?_; rw [HN.out])
      | (at_range; refine wpList_range_own _ rfl _ 40 rfl 9 51 emLaw Try.underlying40 (unitElem (H := Unit)) w.heap.size nn D rfl hown1 ?_; intro w2 hrg2 hg2 hs2)
      | fail)
    go_frame
    go_loopw [5] (fun _ wr => ∃ (left : Lit → Bool) (cnt : Nat), wr.ranges Try.prog 9 (unitElem (H := Unit)) w.heap.size w1.heap.size nn D left cnt ∧ Hid (∀ kl, left kl = true → Maps.has D kl = true) ∧ Hid (∀ s ∈ ws, left (.string s) = false → optW s true = 0) ∧ Hid (Below w.heap.size w wr))
      (fun _ wr => wr.rangeLeft w.heap.size w1.heap.size)
    case atStart =>
      refine ⟨_, _, hrg2, Lib.hid fun _ h => h, Lib.hid fun s hs h => ?_, Lib.hid (HB1.out.grown hg2 HB1.out.size (by simp))⟩
      rw [HHR.out s hs] at h
      exact absurd h (by decide)
    case round =>
      obtain ⟨left, cnt, hrg, hin, hdone, hbel⟩ := hrel
      go_wp2_with (first
        | (at_next; refine wpList_next_ranges _ rfl _ rfl 9 emLaw (unitElem (H := Unit)) (fun s : List UInt8 => Value.string (bA s)) (fun _ : Unit => Value.agg #[]) (fun key kl h => by obtain ⟨s, rfl, _, _⟩ := keyOf_text_inv Try.underlying9 h; exact ⟨s, rfl⟩) (fun v y h => by obtain ⟨rfl, _⟩ := unitElem_inv h; exact ⟨(), rfl⟩) w.heap.size w1.heap.size nn D _ _ rfl hrg ?_ ?_)
        | fail)
      · intro _ hl0
        have hz := H0.out true fun s hs => hdone.out s hs (hl0 _)
        subst hz
        go_wp2_with fail
        go_ret
        exact ⟨rfl, hbel.out⟩
      · intro x kl d ps w3 cnt3 hkey hlk hy hat hrg3 hlt3 hg3 hs3 hen
        have hkl : kl = .string x := by
          obtain ⟨s, e1, e2, _⟩ := keyOf_text_inv Try.underlying9 hkey
          rw [e2, bA_inj (Value.string.inj e1)]
        subst hkl
        have hxs : x ∈ ws := HH.out x (hin.out _ hlk)
        have hen3 : (Instr.entry (.pointer (some ⟨w1.heap.size, 0, none⟩))).run Try.prog w3 = .ok (.tuple #[.string (bA x), .agg #[]]) w3 := hen
        have HB3 := Lib.hid (hbel.out.grown hg3 hbel.out.size (fun j hj => by cases hj; exact HB1.out.size))
        have hf := HF.out x hxs
        have hcall := frameOption_any x true w3
        have hdone3 : ∀ z, optW x true = z → z = 0 → ∀ s ∈ ws, (left (.string s) && !(Lit.string s).sameKey (.string x)) = false → optW s true = 0 := fun z hz hz0 s hs h => by
          rcases strike_left h with h | h
          · exact hdone.out s hs h
          · rw [h, hz, hz0]
        have hin3 : ∀ kl, (left kl && !kl.sameKey (.string x)) = true → Maps.has D kl = true := fun kl h => hin.out kl (by rw [Bool.and_eq_true] at h; exact h.1)
        obtain ⟨z, hz⟩ : ∃ z, optW x true = z := ⟨_, rfl⟩
        have HD3 := Lib.hid (hdone3 z hz); have HI3 := Lib.hid hin3
        rw [hz] at hf hcall
        clear hen hkey hy hat hlk hxs hdone hin hdone3 hin3 hz
        go_wp2_with fail
        refine hcall.mono ?_
        rintro e w4 ⟨rfl, rfl⟩
        clear hcall
        by_cases h0 : z = 0
        · subst h0
          go_wp2_with fail
          refine ⟨⟨_, cnt3, hrg3, Lib.hid HI3.out, Lib.hid (HD3.out (by simp)), HB3⟩, ?_⟩
          rw [hrg3.left_eq, hrg.left_eq]; exact hlt3
        · obtain rfl := hf h0
          go_wp2_with fail
          go_ret
          exact ⟨rfl, HB3.out⟩
  | false =>
    rw [hlt] at hmany
    subst hmany
    have hNz : ¬ ((1 : Int) < (N : Int)) := by have := of_decide_eq_false hlt; omega
    have hNd : decide ((1 : Int) < (N : Int)) = false := decide_eq_false hNz
    clear hlt
    go_enter Try.func13, Try.ntmps13
    go_wp2_with fail
    refine HC.out.mono ?_
    rintro e w1 ⟨rfl, hb1, ho1, hle⟩
    obtain ⟨nn, hnn⟩ : ∃ nn, ws.length = nn := ⟨_, rfl⟩
    rw [hnn] at ho1 hle
    have hown1 : w1.ownsMap Try.prog 9 (unitElem (H := Unit)) w.heap.size nn D := ho1
    have HB1 := Lib.hid hb1
    clear hb1 ho1 hnn
    go_wp2_with (first
      | (at_len; refine wpList_len_own _ rfl _ 40 rfl 9 51 Try.underlying40 (unitElem (H := Unit)) w.heap.size nn D rfl hown1 ?_; rw [HN.out])
      | (at_range; refine wpList_range_own _ rfl _ 40 rfl 9 51 emLaw Try.underlying40 (unitElem (H := Unit)) w.heap.size nn D rfl hown1 ?_; intro w2 hrg2 hg2 hs2)
      | fail)
    go_frame
    go_loopw [5] (fun _ wr => ∃ (left : Lit → Bool) (cnt : Nat), wr.ranges Try.prog 9 (unitElem (H := Unit)) w.heap.size w1.heap.size nn D left cnt ∧ Hid (∀ kl, left kl = true → Maps.has D kl = true) ∧ Hid (∀ s ∈ ws, left (.string s) = false → optW s false = 0) ∧ Hid (Below w.heap.size w wr))
      (fun _ wr => wr.rangeLeft w.heap.size w1.heap.size)
    case atStart =>
      refine ⟨_, _, hrg2, Lib.hid fun _ h => h, Lib.hid fun s hs h => ?_, Lib.hid (HB1.out.grown hg2 HB1.out.size (by simp))⟩
      rw [HHR.out s hs] at h
      exact absurd h (by decide)
    case round =>
      obtain ⟨left, cnt, hrg, hin, hdone, hbel⟩ := hrel
      go_wp2_with (first
        | (at_next; refine wpList_next_ranges _ rfl _ rfl 9 emLaw (unitElem (H := Unit)) (fun s : List UInt8 => Value.string (bA s)) (fun _ : Unit => Value.agg #[]) (fun key kl h => by obtain ⟨s, rfl, _, _⟩ := keyOf_text_inv Try.underlying9 h; exact ⟨s, rfl⟩) (fun v y h => by obtain ⟨rfl, _⟩ := unitElem_inv h; exact ⟨(), rfl⟩) w.heap.size w1.heap.size nn D _ _ rfl hrg ?_ ?_)
        | fail)
      · intro _ hl0
        have hz := H0.out false fun s hs => hdone.out s hs (hl0 _)
        subst hz
        go_wp2_with fail
        go_ret
        exact ⟨rfl, hbel.out⟩
      · intro x kl d ps w3 cnt3 hkey hlk hy hat hrg3 hlt3 hg3 hs3 hen
        have hkl : kl = .string x := by
          obtain ⟨s, e1, e2, _⟩ := keyOf_text_inv Try.underlying9 hkey
          rw [e2, bA_inj (Value.string.inj e1)]
        subst hkl
        have hxs : x ∈ ws := HH.out x (hin.out _ hlk)
        have hen3 : (Instr.entry (.pointer (some ⟨w1.heap.size, 0, none⟩))).run Try.prog w3 = .ok (.tuple #[.string (bA x), .agg #[]]) w3 := hen
        have HB3 := Lib.hid (hbel.out.grown hg3 hbel.out.size (fun j hj => by cases hj; exact HB1.out.size))
        have hf := HF.out x hxs
        have hcall := frameOption_any x false w3
        have hdone3 : ∀ z, optW x false = z → z = 0 → ∀ s ∈ ws, (left (.string s) && !(Lit.string s).sameKey (.string x)) = false → optW s false = 0 := fun z hz hz0 s hs h => by
          rcases strike_left h with h | h
          · exact hdone.out s hs h
          · rw [h, hz, hz0]
        have hin3 : ∀ kl, (left kl && !kl.sameKey (.string x)) = true → Maps.has D kl = true := fun kl h => hin.out kl (by rw [Bool.and_eq_true] at h; exact h.1)
        obtain ⟨z, hz⟩ : ∃ z, optW x false = z := ⟨_, rfl⟩
        have HD3 := Lib.hid (hdone3 z hz); have HI3 := Lib.hid hin3
        rw [hz] at hf hcall
        clear hen hkey hy hat hlk hxs hdone hin hdone3 hin3 hz
        go_wp2_with fail
        refine hcall.mono ?_
        rintro e w4 ⟨rfl, rfl⟩
        clear hcall
        by_cases h0 : z = 0
        · subst h0
          go_wp2_with fail
          refine ⟨⟨_, cnt3, hrg3, Lib.hid HI3.out, Lib.hid (HD3.out (by simp)), HB3⟩, ?_⟩
          rw [hrg3.left_eq, hrg.left_eq]; exact hlt3
        · obtain rfl := hf h0
          go_wp2_with fail
          go_ret
          exact ⟨rfl, HB3.out⟩
end Go.Proofs.Ytcgogadjompemaa
