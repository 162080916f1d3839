/- The contracts of the document's SameParams and Same, and of the statements' few. -/
import Derived.Test.YtilclhhpmenjaaaGreatDoorSfAwake
import Derived.Deep.QuietTactic
import Derived.BigQuiet
namespace Go.Proofs.YtilclhhpmenjaaaGreatDoor
open Go.RowKit Go.Shelf Go.Maps Go.Deep

instance : DecidableEq Sf.Par := fun a b => decidable_of_iff (eqP a b = true) eqP_iff
instance : DecidableEq Sf.Itm := fun a b => decidable_of_iff (a.kind = b.kind ∧ a.n = b.n ∧ a.text = b.text ∧ a.params = b.params) ⟨fun h => by obtain ⟨k, n, t, l⟩ := a; obtain ⟨k', n', t', l'⟩ := b; obtain ⟨h1, h2, h3, h4⟩ := h; simp only at h1 h2 h3 h4; rw [h1, h2, h3, h4], fun h => by rw [h]; exact ⟨rfl, rfl, rfl, rfl⟩⟩
theorem pars_miss {l m : List Sf.Par} {k : Nat} (h1 : k < l.length) (h2 : k < m.length) {x y : Sf.Par} (hx : l[k] = x) (hy : m[k] = y) (hne : eqP x y = false) : false = decide (l = m) := by
  symm
  apply decide_eq_false
  rintro rfl
  rw [hx] at hy
  subst hy
  rw [eqP_iff.2 rfl] at hne; cases hne
theorem pars_next {l m : List Sf.Par} {k : Nat} (h1 : k < l.length) (h2 : k < m.length) {x y : Sf.Par} (hx : l[k] = x) (hy : m[k] = y) (hne : eqP x y = true) (h : l.take k = m.take k) : l.take (k + 1) = m.take (k + 1) := by
  rw [List.take_succ_eq_append_getElem h1, List.take_succ_eq_append_getElem h2, h, hx, hy, eqP_iff.1 hne]
theorem pars_end {l m : List Sf.Par} {k : Nat} (hk : l.length ≤ k) (hl : l.length = m.length) (h : l.take k = m.take k) : true = decide (l = m) := by
  symm
  apply decide_eq_true
  rw [List.take_of_length_le hk, List.take_of_length_le (by omega)] at h
  exact h
set_option maxHeartbeats 2000000 in
set_option maxRecDepth 20000 in
theorem sameP_off (g1 o1 g2 o2 c1 c2 : Nat) (l m : List Sf.Par) (w : World) (hl : l.length = m.length) (hm : l.length ≤ maxLen)
    (ha : ∀ i (h : i < l.length), w.cell? ⟨g1, o1 + i * 4, none⟩ = some (.string (bA l[i].key)) ∧ w.cell? ⟨g1, o1 + i * 4 + 1, none⟩ = some (.int .i64 l[i].kind) ∧ w.cell? ⟨g1, o1 + i * 4 + 2, none⟩ = some (.int .i64 l[i].n) ∧ w.cell? ⟨g1, o1 + i * 4 + 3, none⟩ = some (.string (bA l[i].text)))
    (hb : ∀ i (h : i < m.length), w.cell? ⟨g2, o2 + i * 4, none⟩ = some (.string (bA m[i].key)) ∧ w.cell? ⟨g2, o2 + i * 4 + 1, none⟩ = some (.int .i64 m[i].kind) ∧ w.cell? ⟨g2, o2 + i * 4 + 2, none⟩ = some (.int .i64 m[i].n) ∧ w.cell? ⟨g2, o2 + i * 4 + 3, none⟩ = some (.string (bA m[i].text))) :
    Calls Tryz.prog 20 #[.slice (some ⟨g1, o1, none⟩) l.length c1, .slice (some ⟨g2, o2, none⟩) l.length c2] w fun e w' => e = .returned (.bool (decide (l = m))) ∧ ∃ q, w' = w.drewN q := by
  unfold maxLen at hm
  have HL := Lib.hid hl
  have HA := Lib.hid ha
  have HB := Lib.hid hb
  clear ha hb hl
  have h0 : ((l.length : Int) != (l.length : Int)) = false := by simp
  go_enter Tryz.func20, Tryz.ntmps20
  go_wp2
  clear h0
  go_loopw [5] (fun i wr => ∃ k m' : Nat, k ≤ l.length ∧ i = .int .i64 k ∧ wr = w.drewN m' ∧ Hid (l.take k = m.take k)) (fun i _ => l.length - (intOf i).toNat)
  case atStart => exact ⟨0, 0, Nat.zero_le _, rfl, rfl, rfl⟩
  case round =>
    obtain ⟨k, m', hk, rfl, rfl, hin⟩ := hrel
    by_cases hlt : k < l.length
    · have hlt2 : k < m.length := by rw [← HL.out]; exact hlt
      obtain ⟨a0, a1, a2, a3⟩ := HA.out k hlt
      obtain ⟨b0, b1, b2, b3⟩ := HB.out k hlt2
      obtain ⟨x, hx⟩ : ∃ x, l[k] = x := ⟨_, rfl⟩
      obtain ⟨y, hy⟩ : ∃ y, m[k] = y := ⟨_, rfl⟩
      rw [hx] at a0 a1 a2 a3; rw [hy] at b0 b1 b2 b3
      have HX := Lib.hid hx; have HY := Lib.hid hy
      clear hx hy
      have hE : ∀ W : World, (Op.equalIn 10000 44 (.agg #[.string (bA x.key), .int .i64 x.kind, .int .i64 x.n, .string (bA x.text)]) (.agg #[.string (bA y.key), .int .i64 y.kind, .int .i64 y.n, .string (bA y.text)])).run Tryz.prog W = .ok (eqP x y) W := fun W => eqIn_par x y W
      obtain ⟨b, hbe⟩ : ∃ b, eqP x y = b := ⟨_, rfl⟩
      simp only [hbe] at hE
      have HE := Lib.hid hbe
      clear hbe
      go_wp2
      go_quiet (fail)
      cases b with
      | false =>
        go_wp2
        go_ret
        exact ⟨Oct.ret_bool (pars_miss hlt hlt2 HX.out HY.out HE.out), m' + nq, World.drewN_drewN _ _ _⟩
      | true =>
        go_wp2
        go_roundw
        case rel => exact ⟨k + 1, m' + nq, by omega, by go_num, rfl, pars_next hlt hlt2 HX.out HY.out HE.out hin.out⟩
        case measure => simp [intOf]; omega
    · go_wp2
      go_ret
      exact ⟨Oct.ret_bool (pars_end (by omega) HL.out hin.out), m', rfl⟩

theorem below_drew (w : World) (q : Nat) : Below w.heap.size w (w.drewN q) := ⟨rfl, rfl, rfl, Nat.le_refl _, fun _ _ => rfl⟩
theorem own_len4 {w : World} {base : Nat} {A : Option Addr} {n c : Nat} {xs : List Value} (h : w.ownsRow base 44 4 (.slice A n c) n xs) : n ≤ maxLen := by
  obtain ⟨_, ⟨h1, h2⟩ | ⟨g, cap, cur, _, hb, hg, h3, h4, h5, h6⟩⟩ := h
  · unfold maxLen; omega
  · omega
set_option maxHeartbeats 1000000 in
/-- Are two lists of parameters the same? -/
theorem sameP_any (A B : Option Addr) (c d : Nat) (l m : List Sf.Par) (w : World) (hA : SeenP w A l) (hB : SeenP w B m) (hm : l.length ≤ maxLen) :
    Calls Tryz.prog 20 #[.slice A l.length c, .slice B m.length d] w fun e w' => e = .returned (.bool (decide (l = m))) ∧ Below w.heap.size w w' := by
  by_cases hl : l.length = m.length
  · by_cases h0 : 0 < l.length
    · obtain ⟨g1, o1, rfl, _, ha⟩ := hA h0
      obtain ⟨g2, o2, rfl, _, hb⟩ := hB (by omega)
      have := sameP_off g1 o1 g2 o2 c d l m w hl hm ha hb
      rw [← hl]
      refine this.mono ?_
      rintro e w' ⟨rfl, q, rfl⟩
      exact ⟨rfl, below_drew _ _⟩
    · have e1 : l = [] := List.length_eq_zero_iff.1 (by omega)
      have e2 : m = [] := List.length_eq_zero_iff.1 (by omega)
      subst e1; subst e2
      clear hA hB hl h0 hm
      go_enter Tryz.func20, Tryz.ntmps20
      go_wp2
      go_loop [5] (fun i => i = .int .i64 0) (fun _ => 0)
      case atStart => rfl
      case round =>
        subst hrel
        go_wp2
        go_ret
        exact ⟨rfl, Below.refl _ _⟩
  · have hne : decide (l = m) = false := by
      apply decide_eq_false
      rintro rfl
      exact hl rfl
    rw [hne]
    have h0 : ((l.length : Int) != (m.length : Int)) = true := by simp; omega
    obtain ⟨a, ha⟩ : ∃ a, l.length = a := ⟨_, rfl⟩
    obtain ⟨b, hb⟩ : ∃ b, m.length = b := ⟨_, rfl⟩
    rw [ha, hb] at h0 ⊢
    clear hA hB hl hm hne ha hb
    go_enter Tryz.func20, Tryz.ntmps20
    go_wp2
    go_ret
    exact ⟨rfl, Below.refl _ _⟩
theorem itm_eq (k n k' n' : Int) (t t' : List UInt8) (l l' : List Sf.Par) : decide ((⟨k, n, t, l⟩ : Sf.Itm) = ⟨k', n', t', l'⟩) = (decide (l = l') && (k == k' && (n == n' && t == t'))) := by
  rw [Bool.eq_iff_iff]
  simp
  constructor
  · rintro ⟨a, b, c, d⟩; exact ⟨d, a, b, c⟩
  · rintro ⟨d, a, b, c⟩; exact ⟨a, b, c, d⟩
set_option maxHeartbeats 2000000 in
set_option maxRecDepth 20000 in
/-- Are two items the same? -/
theorem same_any (k n k' n' : Int) (t t' : List UInt8) (A B : Option Addr) (c d : Nat) (l m : List Sf.Par) (w : World) (hA : SeenP w A l) (hB : SeenP w B m) (hm : l.length ≤ maxLen) :
    Calls Tryz.prog 15 #[.agg #[.int .i64 k, .int .i64 n, .string (bA t), .slice A l.length c], .agg #[.int .i64 k', .int .i64 n', .string (bA t'), .slice B m.length d]] w fun e w' => e = .returned (.bool (decide ((⟨k, n, t, l⟩ : Sf.Itm) = ⟨k', n', t', m⟩))) ∧ Below w.heap.size w w' := by
  rw [itm_eq]
  have hb1 : Below w.heap.size w (w.alloc (.cells (iC k n t (.slice A l.length c)) 25)) := (Below.refl _ _).alloc (Nat.le_refl _) _
  have hb2 := below_al hb1 (.cells (iC k' n' t' (.slice B m.length d)) 25)
  have H := Lib.hid (sameP_any A B c d l m _ (hA.below hb2) (hB.below hb2) hm)
  have hsz : (w.alloc (.cells (iC k n t (.slice A l.length c)) 25)).heap.size = w.heap.size + 1 := by simp
  have HX : Hid (CBox ((w.alloc (.cells (iC k n t (.slice A l.length c)) 25)).alloc (.cells (iC k' n' t' (.slice B m.length d)) 25)) w.heap.size 25 (iC k n t (.slice A l.length c))) := Lib.hid ((CBox.new w _ _).alloc _)
  have HY : Hid (CBox ((w.alloc (.cells (iC k n t (.slice A l.length c)) 25)).alloc (.cells (iC k' n' t' (.slice B m.length d)) 25)) (w.heap.size + 1) 25 (iC k' n' t' (.slice B m.length d))) := Lib.hid (by rw [← hsz]; exact CBox.new _ _ _)
  have HB2 := Lib.hid hb2
  obtain ⟨b, hb⟩ : ∃ b, decide (l = m) = b := ⟨_, rfl⟩
  rw [hb] at H ⊢
  clear hb1 hb2 hsz hA hB hm hb
  go_enter Tryz.func15, Tryz.ntmps15
  go_wp2_with fail
  refine H.out.mono ?_
  rintro e w1 ⟨rfl, hb⟩
  obtain ⟨c0, c1, c2, c3, _, _, _, _⟩ := (HX.out.keep hb).all4
  obtain ⟨d0, d1, d2, d3, _, _, _, _⟩ := (HY.out.keep hb).all4
  have HB := Lib.hid (onto HB2.out hb)
  clear hb H HX HY HB2
  cases b with
  | false =>
    go_wp2_with fail
    go_ret
    exact ⟨rfl, HB.out⟩
  | true =>
    go_wp2_with fail
    all_goals (go_ret; refine ⟨Oct.ret_bool ?_, HB.out⟩; simp_all)

def fewB (t : List UInt8) (l : List Sf.Par) : Bool := decide (l.length ≤ 100) && (decide (t.length ≤ 1000) && l.all fun p => decide (p.key.length ≤ 1000) && decide (p.text.length ≤ 1000))
theorem few_next {l : List Sf.Par} {k : Nat} (h : k < l.length) {q : Sf.Par → Bool} (hi : (l.take k).all q = true) (hq : q l[k] = true) : (l.take (k + 1)).all q = true := by
  rw [List.take_succ_eq_append_getElem h, List.all_append, hi]; simpa using hq
theorem few_miss {l : List Sf.Par} {k : Nat} (h : k < l.length) {q : Sf.Par → Bool} (hq : q l[k] = false) : l.all q = false := by
  rw [List.all_eq_false]; exact ⟨l[k], List.getElem_mem h, by simp [hq]⟩
set_option maxHeartbeats 2000000 in
set_option maxRecDepth 20000 in
theorem few_any (k n : Int) (t : List UInt8) (A : Option Addr) (c : Nat) (l : List Sf.Par) (w : World) (hA : SeenP w A l) (ht : t.length ≤ maxLen) (hm : l.length ≤ maxLen) :
    Calls Tryz.prog 23 #[.agg #[.int .i64 k, .int .i64 n, .string (bA t), .slice A l.length c]] w fun e w' => e = .returned (.bool (fewB t l)) ∧ Below w.heap.size w w' := by
  unfold maxLen at ht hm
  have HB : Hid (Below w.heap.size w (w.alloc (.cells (iC k n t (.slice A l.length c)) 25))) := Lib.hid ((Below.refl _ _).alloc (Nat.le_refl _) _)
  have HA := Lib.hid hA
  clear hA
  unfold fewB
  by_cases h1 : l.length ≤ 100
  · by_cases h2 : t.length ≤ 1000
    · have h1' : (l.length : Int) ≤ 100 := by omega
      have h2' : (t.length : Int) ≤ 1000 := by omega
      rw [decide_eq_true h1, decide_eq_true h2]
      obtain ⟨B, hB⟩ : ∃ B, (true && (true && l.all fun p => decide (p.key.length ≤ 1000) && decide (p.text.length ≤ 1000))) = B := ⟨_, rfl⟩
      rw [hB]
      rw [Bool.true_and, Bool.true_and] at hB
      have HQ := Lib.hid hB
      clear hB
      go_enter Tryz.func23, Tryz.ntmps23
      go_wp2_with fail
      go_loop [3] (fun i => ∃ j : Nat, j ≤ l.length ∧ i = .int .i64 j ∧ Hid ((l.take j).all (fun p => decide (p.key.length ≤ 1000) && decide (p.text.length ≤ 1000)) = true)) (fun i => l.length - (intOf i).toNat)
      case atStart => exact ⟨0, Nat.zero_le _, rfl, rfl⟩
      case round =>
        obtain ⟨j, hj, rfl, hin⟩ := hrel
        by_cases hjl : j < l.length
        · obtain ⟨g, o, rfl, hlt, hc⟩ := HA.out (by omega)
          obtain ⟨a0, _, _, a3⟩ := hc j hjl
          have hne : ¬ g = w.heap.size := by omega
          have HN := Lib.hid (few_next hjl (q := fun p => decide (p.key.length ≤ 1000) && decide (p.text.length ≤ 1000)) hin.out)
          have HM := Lib.hid (few_miss hjl (q := fun p => decide (p.key.length ≤ 1000) && decide (p.text.length ≤ 1000)))
          rw [HQ.out] at HM
          obtain ⟨p, hp⟩ : ∃ p, l[j] = p := ⟨_, rfl⟩
          rw [hp] at a0 a3 HN HM
          clear hp hc HA HQ
          by_cases hk : p.key.length ≤ 1000
          · by_cases hx : p.text.length ≤ 1000
            · have hk' : (p.key.length : Int) ≤ 1000 := by omega
              have hx' : (p.text.length : Int) ≤ 1000 := by omega
              have HR := Lib.hid (HN.out (by simp [hk, hx]))
              clear HN HM hk hx
              go_wp2_with fail
              go_round
              case rel => exact ⟨j + 1, by omega, by go_num, HR.out⟩
              case measure => simp [intOf]; omega
            · have hk' : (p.key.length : Int) ≤ 1000 := by omega
              have hx' : (1000 : Int) < (p.text.length : Int) := by omega
              have HR := Lib.hid (HM.out (by simp [hx]))
              clear HN HM hk hx
              go_wp2_with fail
              go_ret
              exact ⟨Oct.ret_bool HR.out.symm, HB.out⟩
          · have hk' : (1000 : Int) < (p.key.length : Int) := by omega
            have HR := Lib.hid (HM.out (by simp [hk]))
            clear HN HM hk
            go_wp2_with fail
            go_ret
            exact ⟨Oct.ret_bool HR.out.symm, HB.out⟩
        · have hB : B = true := by
            rw [← HQ.out, ← List.take_of_length_le (l := l) (i := j) (by omega)]
            exact hin.out
          subst hB
          clear hin HA HQ
          go_wp2_with fail
          go_ret
          exact ⟨rfl, HB.out⟩
    · have h1' : (l.length : Int) ≤ 100 := by omega
      have h2' : (1000 : Int) < (t.length : Int) := by omega
      rw [decide_eq_true h1, decide_eq_false h2]
      go_enter Tryz.func23, Tryz.ntmps23
      go_wp2_with fail
      go_ret
      exact ⟨rfl, HB.out⟩
  · have h1' : (100 : Int) < (l.length : Int) := by omega
    rw [decide_eq_false h1]
    go_enter Tryz.func23, Tryz.ntmps23
    go_wp2_with fail
    go_ret
    exact ⟨rfl, HB.out⟩
end Go.Proofs.YtilclhhpmenjaaaGreatDoor
