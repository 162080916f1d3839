/- The contracts of the document's domain and pattern. -/
import Derived.Test.YtinjkpbpkedfnaaGreatDoorCmRef2
import Derived.Test.YtinjkpbpkedfnaaGreatDoorTxIn
import Derived.Test.YtinjkpbpkedfnaaGreatDoorHostAll
namespace Go.Proofs.YtinjkpbpkedfnaaGreatDoor
open Go.RowKit

theorem domB_len {n : List UInt8} (h : n.length < 1 ∨ 253 < n.length) : Hst.domB n = false := by
  unfold Hst.domB
  rcases h with h | h
  · have : n = [] := List.length_eq_zero_iff.1 (by omega)
    subst this; rfl
  · rw [show decide (n.length ≤ 253) = false by simp; omega]; rfl
theorem domB_bad {n : List UInt8} (k : Nat) (hk : k < (Hst.parts n).length) (h : Hst.labelB (Hst.parts n)[k] = false) : Hst.domB n = false := by
  unfold Hst.domB
  rw [Bool.and_eq_false_iff]; right
  rw [List.all_eq_false]
  exact ⟨_, List.getElem_mem hk, by rw [h]; simp⟩
theorem labL_len {p : List UInt8} (h : p.length < 1 ∨ 63 < p.length) : Hst.labelB p = false := by
  unfold Hst.labelB
  rcases h with h | h
  · have : p = [] := List.length_eq_zero_iff.1 (by omega)
    subst this; rfl
  · have : decide (p.length ≤ 63) = false := by simp; omega
    rw [this]; simp
theorem labL_fin {p : List UInt8} {k : Nat} (h : p.length ≤ k) (hi : Oct.allB Hst.labI (p.take k) = true) (h0 : 1 ≤ p.length) (h1 : p.length ≤ 63) : Hst.labelB p = true := by
  rw [List.take_of_length_le h] at hi
  unfold Hst.labelB
  rw [hi, show decide (p.length ≤ 63) = true by simpa using h1]
  cases p with
  | nil => simp at h0
  | cons a r => rfl
theorem labL_next {p : List UInt8} {k : Nat} (hk : k < p.length) (h : Oct.allB Hst.labI (p.take k) = true) (hp : Hst.labI p[k].toNat = true) : Oct.allB Hst.labI (p.take (k + 1)) = true := by
  unfold Oct.allB at h ⊢
  rw [List.take_succ_eq_append_getElem hk, List.all_append, h]; simp [hp]
theorem labL_miss {p : List UInt8} {k : Nat} (hk : k < p.length) (hp : Hst.labI p[k].toNat = false) : Hst.labelB p = false := by
  have : Oct.allB Hst.labI p = false := by
    unfold Oct.allB
    rw [List.all_eq_false]
    exact ⟨_, List.getElem_mem hk, by rw [hp]; simp⟩
  unfold Hst.labelB
  rw [this]; rfl
theorem lab_yes2 {c : Int} (h : Hst.labI c = true) : (97 ≤ c ∧ c ≤ 122) ∨ (48 ≤ c ∧ c ≤ 57 ∧ c < 97) ∨ (c < 97 ∧ c < 48 ∧ (c == 45) = true) ∨ (48 ≤ c ∧ 57 < c ∧ c < 97 ∧ (c == 45) = false ∧ (c == 95) = true) := by
  rcases lab_cases h with h | h | ⟨h1, h2, h3⟩ | ⟨h1, h2, h3, h4, h5⟩
  · exact .inl h
  · exact .inr (.inl h)
  · exact .inr (.inr (.inl ⟨h1, h2, by simpa using h3⟩))
  · exact .inr (.inr (.inr ⟨h1, h2, h3, by simpa using h4, by simpa using h5⟩))
theorem lab_no2 {c : Int} (h : Hst.labI c = false) : ((c < 97 ∧ c < 48) ∨ (48 ≤ c ∧ 57 < c ∧ c < 97) ∨ (97 ≤ c ∧ 122 < c ∧ 48 ≤ c ∧ 57 < c)) ∧ (c == 45) = false ∧ (c == 95) = false := by
  obtain ⟨h1, h2, h3⟩ := lab_bad h
  exact ⟨h1, by simpa using h2, by simpa using h3⟩
theorem bA_get (l : List UInt8) (k : Nat) (h : k < l.length) : (bA l)[k]'(by rw [bA_size]; exact h) = l[k] := rfl
set_option maxHeartbeats 4000000 in
theorem rdomain_any (n : List UInt8) (w : World) (hs : n.length ≤ 100000000) : Calls Tryz.prog 70 #[.string (bA n)] w fun e w' => e = .returned (.bool (Hst.domB n)) ∧ Below w.heap.size w w' := by
  by_cases h0 : n.length < 1
  · have hd := domB_len (.inl h0)
    go_enter Tryz.func70, Tryz.ntmps70
    go_wp2_with fail
    go_ret
    exact ⟨by first | rfl | (rw [hd]; rfl), Below.refl _ _⟩
  by_cases h1 : 253 < n.length
  · have hd := domB_len (.inr h1)
    have h1' : (253 : Int) < (n.length : Int) := by omega
    have h0' : 1 ≤ n.length := by omega
    go_enter Tryz.func70, Tryz.ntmps70
    go_wp2_with fail
    go_ret
    exact ⟨by first | rfl | (rw [hd]; rfl), Below.refl _ _⟩
  have h0' : 1 ≤ n.length := by omega
  have h1' : n.length ≤ 253 := by omega
  have hcall := rsplit_any (bA n) 46 w (by rw [bA_size]; omega)
  have hparts : Oct.split (fun x => x == 46) (bA n).data.toList = Hst.parts n := rfl
  rw [hparts] at hcall
  have hbad : ∀ k p, (Hst.parts n)[k]? = some p → Hst.labelB p = false → Hst.domB n = false := fun k p hp h => by
    obtain ⟨hk, e⟩ := List.getElem?_eq_some_iff.1 hp
    exact domB_bad k hk (by rw [e]; exact h)
  have hgood := fun h => dom_of (n := n) h1' h
  have hlen : (Hst.parts n).length ≤ 254 := by have := Oct.split_len (fun x => x == 46) n; unfold Hst.parts; omega
  obtain ⟨ps, hps⟩ : ∃ ps, Hst.parts n = ps := ⟨_, rfl⟩
  rw [hps] at hcall hbad hgood hlen
  have HC := Lib.hid hcall; have HBAD := Lib.hid hbad; have HGOOD := Lib.hid hgood
  clear h0 h1 hcall hparts hbad hgood hps
  go_enter Tryz.func70, Tryz.ntmps70
  go_wp2_with fail
  refine HC.out.mono ?_
  rintro e w1 ⟨v, rfl, hb1, hr1⟩
  obtain ⟨A, c, rfl, _⟩ := own_cap hr1
  have HR1 := Lib.hid hr1; have HB1 := Lib.hid hb1
  clear hb1 hr1 HC
  go_wp2
  go_loopw [4] (fun i wr => ∃ k : Nat, k ≤ ps.length ∧ i = .int .i64 k ∧ Hid ((ps.take k).all Hst.labelB = true) ∧ wr = w1) (fun i _ => ps.length - (intOf i).toNat)
  case atStart => exact ⟨0, by omega, rfl, Lib.hid rfl, rfl⟩
  case round =>
    obtain ⟨k, hk, rfl, hall, rfl⟩ := hrel
    by_cases hlt : k < ps.length
    · rcases owns_view HR1.out with ⟨e1, hz⟩ | ⟨g, cap, e1, _, hg, hgb, hc⟩
      · exfalso; rw [hz] at hlt; simp at hlt
      · cases e1
        have hce := hc k hlt
        have hnx := fun h => all_next (p := Hst.labelB) hlt hall.out h
        have hbk := HBAD.out k ps[k] (List.getElem?_eq_getElem hlt)
        obtain ⟨p, hp⟩ : ∃ p, ps[k] = p := ⟨_, rfl⟩
        rw [hp] at hce hnx hbk
        unfold Oct.strV at hce
        have hce : wr.cell? ⟨g, k, none⟩ = some (.string (bA p)) := hce
        have HNX := Lib.hid hnx; have HBK := Lib.hid hbk
        clear hc hp hnx hbk
        by_cases p0 : p.length < 1
        · have HD := Lib.hid (HBK.out (labL_len (.inl p0)))
          go_wp2_with fail
          go_ret
          exact ⟨by rw [HD.out]; rfl, HB1.out⟩
        by_cases p1 : 63 < p.length
        · have HD := Lib.hid (HBK.out (labL_len (.inr p1)))
          have p1' : (63 : Int) < (p.length : Int) := by omega
          have p0' : 1 ≤ p.length := by omega
          go_wp2_with fail
          go_ret
          exact ⟨by rw [HD.out]; rfl, HB1.out⟩
        have p0' : 1 ≤ p.length := by omega
        have p1' : p.length ≤ 63 := by omega
        clear p0 p1
        go_wp2_with fail
        go_loopw [5] (fun i wq => ∃ j : Nat, j ≤ p.length ∧ i = .int .i64 j ∧ Hid (Oct.allB Hst.labI (p.take j) = true) ∧ wq = wr) (fun i _ => p.length - (intOf i).toNat)
        case atStart => exact ⟨0, by omega, rfl, Lib.hid rfl, rfl⟩
        case round =>
          obtain ⟨j, hj, rfl, hal, rfl⟩ := hrel
          by_cases hjt : j < p.length
          · have hge := bA_get p j hjt
            cases hl : Hst.labI p[j].toNat with
            | true =>
              have HN := Lib.hid (labL_next hjt hal.out hl)
              rcases lab_yes2 hl with ⟨a1, a2⟩ | ⟨a1, a2, a3⟩ | ⟨a1, a2, a3⟩ | ⟨a1, a2, a3, a4, a5⟩
              all_goals
                go_wp2_with fail
                exact ⟨⟨j + 1, by omega, by go_num, HN, trivial⟩, by simp [intOf]; omega⟩
            | false =>
              have HD := Lib.hid (HBK.out (labL_miss hjt hl))
              obtain ⟨hr, h5, h6⟩ := lab_no2 hl
              rcases hr with ⟨a1, a2⟩ | ⟨a1, a2, a3⟩ | ⟨a1, a2, a3, a4⟩
              all_goals
                first
                  | (have b57 : decide ((p[j].toNat : Int) ≤ 57) = false := (by simp; omega)
                     have b122 : decide ((p[j].toNat : Int) ≤ 122) = false := (by simp; omega))
                  | have b57 : decide ((p[j].toNat : Int) ≤ 57) = false := (by simp; omega)
                  | skip
                go_wp2_with fail
                go_ret
                exact ⟨by rw [HD.out]; rfl, HB1.out⟩
          · obtain rfl : j = p.length := by omega
            have HN := Lib.hid (HNX.out (labL_fin (Nat.le_refl _) hal.out p0' p1'))
            go_wp2_with fail
            exact ⟨⟨k + 1, by omega, by go_num, HN, trivial⟩, by simp [intOf]; omega⟩
    · obtain rfl : k = ps.length := by omega
      have HD := Lib.hid (HGOOD.out (all_done (Nat.le_refl _) hall.out))
      go_wp2_with fail
      go_ret
      exact ⟨by rw [HD.out]; rfl, HB1.out⟩
set_option maxHeartbeats 2000000 in
theorem rpattern_any (n : List UInt8) (w : World) (hs : n.length ≤ 100000000) : Calls Tryz.prog 34 #[.string (bA n)] w fun e w' => e = .returned (.bool (Cm.patB n)) ∧ Below w.heap.size w w' := by
  unfold Cm.patB
  cases h1 : n == [42] with
  | true =>
    rw [Bool.true_or]
    go_enter Tryz.func34, Tryz.ntmps34
    go_wp2_with fail
    go_ret
    exact ⟨rfl, Below.refl _ _⟩
  | false =>
    rw [Bool.false_or]
    have t1 : (bA n).extract 0 2 = bA (n.take 2) := Byt.take_ext (bA n) 2
    have t2 : (bA n).extract 2 n.length = bA (n.drop 2) := by have := Byt.drop_ext (bA n) 2; rw [bA_size] at this; exact this
    by_cases h2 : 2 < n.length
    · have h2' : (2 : Int) < (n.length : Int) := by omega
      have h2'' : (2 : Int) ≤ (n.length : Int) := by omega
      cases h3 : n.take 2 == [42, 46] with
      | true =>
        rw [if_pos ⟨h2, beq_iff_eq.1 h3⟩]
        have hcall := rdomain_any (n.drop 2) w (by rw [List.length_drop]; omega)
        go_enter Tryz.func34, Tryz.ntmps34
        go_wp2_with fail
        refine hcall.mono ?_
        rintro e w1 ⟨rfl, hb1⟩
        go_wp2_with fail
        go_ret
        exact ⟨by simp, hb1⟩
      | false =>
        rw [if_neg (fun h => beq_eq_false_iff_ne.1 h3 h.2)]
        have hcall := rdomain_any n w hs
        go_enter Tryz.func34, Tryz.ntmps34
        go_wp2_with fail
        refine hcall.mono ?_
        rintro e w1 ⟨rfl, hb1⟩
        go_wp2_with fail
        go_ret
        exact ⟨by simp, hb1⟩
    · rw [if_neg (fun h => h2 h.1)]
      have h2' : ¬ (2 : Int) < (n.length : Int) := by omega
      have hcall := rdomain_any n w hs
      go_enter Tryz.func34, Tryz.ntmps34
      go_wp2_with fail
      refine hcall.mono ?_
      rintro e w1 ⟨rfl, hb1⟩
      go_wp2_with fail
      go_ret
      exact ⟨by simp, hb1⟩
end Go.Proofs.YtinjkpbpkedfnaaGreatDoor
