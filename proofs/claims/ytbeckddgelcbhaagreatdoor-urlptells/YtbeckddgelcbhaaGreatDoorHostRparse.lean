/- The contract of the document's Parse. -/
import Derived.Test.YtbeckddgelcbhaaGreatDoorHostParse
namespace Go.Proofs.YtbeckddgelcbhaaGreatDoor
open Go.RowKit

theorem read_len {n : List UInt8} (h : n.length < 1 ∨ 253 < n.length) : Hst.read n = none := by
  have e : Hst.domB n = false := by
    unfold Hst.domB
    rcases h with h | h
    · have : n = [] := List.length_eq_zero_iff.1 (by omega)
      subst this; rfl
    · rw [show decide (n.length ≤ 253) = false by simp; omega]; rfl
  unfold Hst.read; rw [e]; rfl
theorem read_bad {n : List UInt8} (k : Nat) (hk : k < (Hst.parts n).length) (h : Hst.labelB (Hst.parts n)[k] = false) : Hst.read n = none := by
  have e : Hst.domB n = false := by
    unfold Hst.domB
    rw [Bool.and_eq_false_iff]; right
    rw [List.all_eq_false]
    exact ⟨_, List.getElem_mem hk, by rw [h]; simp⟩
  unfold Hst.read; rw [e]; rfl
theorem dom_of {n : List UInt8} (hl : n.length ≤ 253) (h : (Hst.parts n).all Hst.labelB = true) : Hst.domB n = true := by
  unfold Hst.domB; rw [h, show decide (n.length ≤ 253) = true by simpa using hl]; rfl
theorem read_name {n : List UInt8} (hd : Hst.domB n = true) (h : Hst.digB (Hst.last n) = false) : Hst.read n = some ⟨n, false, 0⟩ := by
  unfold Hst.read; rw [hd, h]; rfl
theorem read_no {n : List UInt8} (hd : Hst.domB n = true) (h : Hst.digB (Hst.last n) = true) (hn : Hst.numsB (Hst.parts n) = false) : Hst.read n = none := by
  unfold Hst.read; rw [hd, h, hn]; rfl
theorem read_yes {n : List UInt8} (hd : Hst.domB n = true) (h : Hst.digB (Hst.last n) = true) (hn : Hst.numsB (Hst.parts n) = true) : Hst.read n = some ⟨[], true, Hst.addrOf (Hst.parts n)⟩ := by
  unfold Hst.read; rw [hd, h, hn]; rfl
theorem nums_len {ps : List (List UInt8)} (h : ¬ ps.length = 4) : Hst.numsB ps = false := by unfold Hst.numsB; simp [h]
theorem nums_bad {ps : List (List UInt8)} (k : Nat) (hk : k < ps.length) (h : Oct.numOk ps[k] 255 = false) : Hst.numsB ps = false := by
  unfold Hst.numsB
  rw [Bool.and_eq_false_iff]; right
  rw [List.all_eq_false]
  exact ⟨_, List.getElem_mem hk, by rw [h]; simp⟩
theorem nums_all {ps : List (List UInt8)} (hl : ps.length = 4) (h : ps.all (fun p => Oct.numOk p 255) = true) : Hst.numsB ps = true := by unfold Hst.numsB; simp [hl, h]
theorem all_next {p : List UInt8 → Bool} {ps : List (List UInt8)} {k : Nat} (hk : k < ps.length) (h : (ps.take k).all p = true) (hp : p ps[k] = true) : (ps.take (k + 1)).all p = true := by
  rw [List.take_succ_eq_append_getElem hk, List.all_append, h]; simp [hp]
theorem all_done {p : List UInt8 → Bool} {ps : List (List UInt8)} {k : Nat} (hk : ps.length ≤ k) (h : (ps.take k).all p = true) : ps.all p = true := by
  rwa [List.take_of_length_le hk] at h
theorem last_at (l : List UInt8) (h : (Hst.parts l).length - 1 < (Hst.parts l).length) : (Hst.parts l)[(Hst.parts l).length - 1] = Hst.last l := by
  unfold Hst.last
  generalize Hst.parts l = ps at *
  have hne : ps ≠ [] := by intro e; subst e; simp at h
  rw [← List.getLast_eq_getElem hne]
  cases ps with
  | nil => exact absurd rfl hne
  | cons a r => rw [List.getLastD_cons, List.getLast_eq_getLastD]
theorem addr_snoc (l : List (List UInt8)) (p : List UInt8) : Hst.addrOf (l ++ [p]) = 256 * Hst.addrOf l + Oct.val p := by simp [Hst.addrOf]
theorem addr_take (ps : List (List UInt8)) (k : Nat) (hk : k < ps.length) : Hst.addrOf (ps.take (k + 1)) = 256 * Hst.addrOf (ps.take k) + Oct.val ps[k] := by
  rw [List.take_succ_eq_append_getElem hk, addr_snoc]
theorem addr_bd (ps : List (List UInt8)) : ∀ k, k ≤ ps.length → (ps.take k).all (fun p => Oct.numOk p 255) = true → 0 ≤ Hst.addrOf (ps.take k) ∧ Hst.addrOf (ps.take k) < 256 ^ k
  | 0, _, _ => by simp [Hst.addrOf]
  | k + 1, hk, h => by
    have hk' : k < ps.length := by omega
    rw [List.take_succ_eq_append_getElem hk', List.all_append, Bool.and_eq_true] at h
    have ih := addr_bd ps k (by omega) h.1
    have hv := num_bd (l := ps[k]) (by simpa using h.2)
    rw [addr_take ps k hk', Int.pow_succ]
    omega
theorem addr_bd3 (ps : List (List UInt8)) (k : Nat) (hk : k < 4) (hl : k ≤ ps.length) (h : (ps.take k).all (fun p => Oct.numOk p 255) = true) : 0 ≤ Hst.addrOf (ps.take k) ∧ Hst.addrOf (ps.take k) ≤ 16777215 := by
  have := addr_bd ps k hl h
  refine ⟨this.1, ?_⟩
  have hp : (256 : Int) ^ k ≤ 16777216 := by
    match k, hk with
    | 0, _ => decide
    | 1, _ => decide
    | 2, _ => decide
    | 3, _ => decide
  omega

theorem rlabel_is (p : List UInt8) (b : Bool) (w : World) (hs : p.length ≤ 1000) (h : Hst.labelB p = b) : Calls Tryz.prog 68 #[.string ⟨p.toArray⟩] w fun e w' => e = .returned (.bool b) ∧ w = w' := by
  subst h; exact rlabel_any ⟨p.toArray⟩ w (by unfold maxLen; simp [ByteArray.size]; omega)
theorem rdigits_is (p : List UInt8) (b : Bool) (w : World) (hs : p.length ≤ 1000) (h : Hst.digB p = b) : Calls Tryz.prog 69 #[.string ⟨p.toArray⟩] w fun e w' => e = .returned (.bool b) ∧ w = w' := by
  subst h; exact rdigits_any ⟨p.toArray⟩ w (by unfold maxLen; simp [ByteArray.size]; omega)
theorem rnumber_no (p : List UInt8) (w : World) (hs : p.length ≤ 1000) (hok : Oct.numOk p 255 = false) :
    Calls Tryz.prog 47 #[.string ⟨p.toArray⟩, .int .i64 255] w fun e w' => e = .returned (.tuple #[.int .i64 0, .bool false]) ∧ w = w' :=
  (rnumber_any ⟨p.toArray⟩ 255 w (by unfold maxLen; simp [ByteArray.size]; omega) (by decide) (by decide)).mono (by rintro e w' ⟨rfl, h⟩; exact ⟨(num_no hok).symm, h⟩)
theorem rnumber_ok (p : List UInt8) (v : Int) (w : World) (hs : p.length ≤ 1000) (hok : Oct.numOk p 255 = true) (hv : Oct.val p = v) :
    Calls Tryz.prog 47 #[.string ⟨p.toArray⟩, .int .i64 255] w fun e w' => e = .returned (.tuple #[.int .i64 v, .bool true]) ∧ w = w' :=
  (rnumber_any ⟨p.toArray⟩ 255 w (by unfold maxLen; simp [ByteArray.size]; omega) (by decide) (by decide)).mono (by rintro e w' ⟨rfl, h⟩; exact ⟨(num_yes hok hv.symm).symm, h⟩)

set_option maxHeartbeats 2000000 in
theorem rparse_any (s : ByteArray) (w : World) (hs : s.size ≤ maxLen) : Calls Tryz.prog 46 #[.string s] w fun e w' => e = .returned (parseV (Hst.parse s.data.toList)) ∧ Below w.heap.size w w' := by
  have hn := lower_size s hs
  obtain ⟨n, hnl⟩ : ∃ n : ByteArray, n = ⟨(Oct.lower s.data.toList).toArray⟩ := ⟨_, rfl⟩
  rw [← hnl] at hn
  have hlow : ∀ W : World, Calls Tryz.prog 26 #[.string s] W fun e w' => e = .returned (.string n) ∧ Below W.heap.size W w' := fun W => by rw [hnl]; exact rlower_any s W hs
  have hpn : Hst.parse s.data.toList = Hst.read n.data.toList := by rw [hnl]; rfl
  rw [hpn]
  have HL := Lib.hid hlow
  have hlen : n.data.toList.length = n.size := by simp
  obtain ⟨R, hR⟩ : ∃ R, Hst.read n.data.toList = R := ⟨_, rfl⟩
  rw [hR]
  have HR := Lib.hid hR
  have HLN := Lib.hid hlen
  clear hpn hnl hlow hR hlen
  unfold maxLen at hn
  by_cases h0 : n.size < 1
  · obtain rfl : R = none := by rw [← HR.out]; exact read_len (.inl (by rw [HLN.out]; exact h0))
    go_enter Tryz.func46, Tryz.ntmps46
    go_wp2_with fail
    refine (HL.out _).mono ?_
    rintro e w1 ⟨rfl, hb1⟩
    have q1 := (HBox.new w ⟨#[]⟩ false 0).below hb1 (by simp)
    have c0 := q1.c0; have c1 := q1.c1; have c2 := q1.c2; have f := q1.fr
    go_wp2_with fail
    have q3 := q1.set ⟨#[]⟩ false 0
    have r0 := q3.c0; have r1 := q3.c1; have r2 := q3.c2
    have hbe := below_set3 (Below.trans ((Below.refl _ w).alloc (Nat.le_refl _) _) (hb1.mono (by simp))) (Nat.le_refl w.heap.size) ⟨#[]⟩ false 0
    unfold set3 at r0 r1 r2 hbe
    exact bodyPost_ret (v := parseV none) (by simp [results, Tryz.results46, go_sem, r0, r1, r2, parseV, hostV, Hst.none_, errI]) rfl ⟨rfl, hbe⟩
  by_cases h1 : 253 < n.size
  · obtain rfl : R = none := by rw [← HR.out]; exact read_len (.inr (by rw [HLN.out]; exact h1))
    have h1' : (253 : Int) < (n.size : Int) := by omega
    have h0' : 1 ≤ n.size := by omega
    go_enter Tryz.func46, Tryz.ntmps46
    go_wp2_with fail
    refine (HL.out _).mono ?_
    rintro e w1 ⟨rfl, hb1⟩
    have q1 := (HBox.new w ⟨#[]⟩ false 0).below hb1 (by simp)
    have c0 := q1.c0; have c1 := q1.c1; have c2 := q1.c2; have f := q1.fr
    go_wp2_with fail
    have q3 := q1.set ⟨#[]⟩ false 0
    have r0 := q3.c0; have r1 := q3.c1; have r2 := q3.c2
    have hbe := below_set3 (Below.trans ((Below.refl _ w).alloc (Nat.le_refl _) _) (hb1.mono (by simp))) (Nat.le_refl w.heap.size) ⟨#[]⟩ false 0
    unfold set3 at r0 r1 r2 hbe
    exact bodyPost_ret (v := parseV none) (by simp [results, Tryz.results46, go_sem, r0, r1, r2, parseV, hostV, Hst.none_, errI]) rfl ⟨rfl, hbe⟩
  have h0' : 1 ≤ n.size := by omega
  have h1' : n.size ≤ 253 := by omega
  clear h0 h1 hn
  have hpos := Hst.parts_pos n.data.toList
  have hple := Hst.parts_len n.data.toList
  have hshort := parts_short n.data.toList (by rw [HLN.out]; exact h1')
  obtain ⟨ps, hps⟩ : ∃ ps, Hst.parts n.data.toList = ps := ⟨_, rfl⟩
  rw [HLN.out] at hple
  rw [hps] at hpos hple hshort
  have HSH := Lib.hid hshort
  have HPS := Lib.hid hps
  clear hps hshort
  go_enter Tryz.func46, Tryz.ntmps46
  go_wp2_with fail
  refine (HL.out _).mono ?_
  rintro e w1 ⟨rfl, hb1⟩
  have q1 := (HBox.new w ⟨#[]⟩ false 0).below hb1 (by simp)
  go_wp2_with fail
  refine (rsplit_any n 46 w1 (by omega)).mono ?_
  rintro e w2 ⟨v, rfl, hb2, ho⟩
  replace ho : w2.ownsRow w1.heap.size 9 1 v ps.length (ps.map Oct.strV) := by rw [← HPS.out]; exact ho
  rcases owns_view ho with ⟨rfl, h0'⟩ | ⟨g, cap, rfl, hm, hg, hgb, hcells⟩
  · exfalso; subst h0'; simp at hpos
  have q2 := q1.below hb2 q1.lt
  have c0 := q2.c0; have c1 := q2.c1; have c2 := q2.c2; have f := q2.fr
  have HC := Lib.hid hcells
  have hbe := Below.trans ((Below.refl _ w).alloc (Nat.le_refl _) (.cells #[.string ⟨#[]⟩, .bool false, .int .u32 0] 24)) ((hb1.mono (by simp)).trans (hb2.mono (by have := hb1.size; simp at this; omega)))
  have HBE := Lib.hid hbe
  clear ho hcells hm hbe
  go_wp2_with fail
  go_loop [5] (fun i => ∃ k : Nat, k ≤ ps.length ∧ i = .int .i64 k ∧ Hid ((ps.take k).all Hst.labelB = true)) (fun i => ps.length - (intOf i).toNat)
  case atStart => exact ⟨0, Nat.zero_le _, rfl, rfl⟩
  case round =>
    obtain ⟨k, hk, rfl, hin⟩ := hrel
    by_cases hlt : k < ps.length
    · have hce := HC.out k hlt
      have hsh := HSH.out _ (List.getElem_mem hlt)
      obtain ⟨p, hp⟩ : ∃ p, ps[k] = p := ⟨_, rfl⟩
      rw [hp] at hce hsh
      have HP := Lib.hid hp
      clear hp
      unfold Oct.strV at hce
      cases hl : Hst.labelB p with
      | true =>
        have HLB := Lib.hid hl
        clear hl
        go_wp2_with (go_at_call 68; refine (rlabel_is p true _ (by omega) HLB.out).mono ?_; rintro e w' ⟨rfl, rfl⟩)
        go_round
        case rel => exact ⟨k + 1, by omega, by go_num, all_next hlt hin.out (by rw [HP.out]; exact HLB.out)⟩
        case measure => simp [intOf]; omega
      | false =>
        obtain rfl : R = none := by rw [← HR.out]; exact read_bad k (by rw [HPS.out]; exact hlt) (by simp only [HPS.out, HP.out]; exact hl)
        have HLB := Lib.hid hl
        clear hl
        go_wp2_with (go_at_call 68; refine (rlabel_is p false _ (by omega) HLB.out).mono ?_; rintro e w' ⟨rfl, rfl⟩)
        have q3 := q2.set ⟨#[]⟩ false 0
        have r0 := q3.c0; have r1 := q3.c1; have r2 := q3.c2
        have hbe := below_set3 HBE.out (Nat.le_refl w.heap.size) ⟨#[]⟩ false 0
        unfold set3 at r0 r1 r2 hbe
        exact bodyPost_ret (v := parseV none) (by simp [results, Tryz.results46, go_sem, r0, r1, r2, parseV, hostV, Hst.none_, errI]) rfl ⟨rfl, hbe⟩
    · have HDM := Lib.hid (dom_of (n := n.data.toList) (by rw [HLN.out]; exact h1') (by rw [HPS.out]; exact all_done (by omega) hin.out))
      have hlt1 : ps.length - 1 < ps.length := by omega
      have hce := HC.out (ps.length - 1) hlt1
      have hsh := HSH.out _ (List.getElem_mem hlt1)
      have hla : ps[ps.length - 1] = Hst.last n.data.toList := by
        have h := last_at n.data.toList (by rw [HPS.out]; exact hlt1)
        simp only [HPS.out] at h
        exact h
      rw [hla] at hce hsh
      obtain ⟨p, hp⟩ : ∃ p, Hst.last n.data.toList = p := ⟨_, rfl⟩
      rw [hp] at hce hsh
      have HP := Lib.hid hp
      clear hp hla
      unfold Oct.strV at hce
      have hidx : ((ps.length : Int) - 1).toNat = ps.length - 1 := by omega
      cases hl : Hst.digB p with
      | false =>
        obtain rfl : R = some ⟨n.data.toList, false, 0⟩ := by rw [← HR.out]; exact read_name HDM.out (by rw [HP.out]; exact hl)
        have HLB := Lib.hid hl
        clear hl
        go_wp2_with (go_at_call 69; refine (rdigits_is p false _ (by omega) HLB.out).mono ?_; rintro e w' ⟨rfl, rfl⟩)
        have q3 := q2.set n false 0
        have r0 := q3.c0; have r1 := q3.c1; have r2 := q3.c2
        have hbe := below_set3 HBE.out (Nat.le_refl w.heap.size) n false 0
        unfold set3 at r0 r1 r2 hbe
        exact bodyPost_ret (v := parseV (some ⟨n.data.toList, false, 0⟩)) (by simp [results, Tryz.results46, go_sem, r0, r1, r2, parseV, hostV, errI]) rfl ⟨rfl, hbe⟩
      | true =>
        have HDG : Hid (Hst.digB (Hst.last n.data.toList) = true) := by rw [HP.out]; exact hl
        have HLB := Lib.hid hl
        clear hl
        by_cases h4 : ps.length = 4
        · have h4' : ((ps.length : Int) != 4) = false := by rw [h4]; rfl
          have H4 := Lib.hid h4
          have h5 : 4 ≤ ps.length := by omega
          have h6 : ps.length ≤ 4 := by omega
          clear h4
          go_wp2_with (go_at_call 69; refine (rdigits_is p true _ (by omega) HLB.out).mono ?_; rintro e w' ⟨rfl, rfl⟩)
          clear h4' hidx hce
          go_loop [8, 9] (fun ad i => ∃ j : Nat, ∃ a : Int, j ≤ 4 ∧ i = .int .i64 j ∧ ad = .int .u32 a ∧ Hid (a = Hst.addrOf (ps.take j)) ∧ Hid ((ps.take j).all (fun p => Oct.numOk p 255) = true)) (fun _ i => 4 - (intOf i).toNat)
          case atStart => exact ⟨0, 0, by omega, rfl, rfl, rfl, rfl⟩
          case round =>
            obtain ⟨j, a, hj, rfl, rfl, HA, hin2⟩ := hrel
            by_cases hjl : j < 4
            · have hjp : j < ps.length := by omega
              have hce := HC.out j hjp
              have hsh2 := HSH.out _ (List.getElem_mem hjp)
              obtain ⟨a0, a1⟩ := addr_bd3 ps j hjl (by omega) hin2.out
              rw [← HA.out] at a0 a1
              obtain ⟨p2, hp⟩ : ∃ p, ps[j] = p := ⟨_, rfl⟩
              rw [hp] at hce hsh2
              have HP2 := Lib.hid hp
              clear hp
              unfold Oct.strV at hce
              cases hnum : Oct.numOk p2 255 with
              | false =>
                obtain rfl : R = none := by rw [← HR.out]; exact read_no HDM.out HDG.out (nums_bad j (by rw [HPS.out]; exact hjp) (by simp only [HPS.out, HP2.out]; exact hnum))
                have HNM := Lib.hid hnum
                clear hnum
                go_wp2_with (go_at_call 47; refine (rnumber_no p2 _ (by omega) HNM.out).mono ?_; rintro e w' ⟨rfl, rfl⟩)
                have q3 := q2.set ⟨#[]⟩ false 0
                have r0 := q3.c0; have r1 := q3.c1; have r2 := q3.c2
                have hbe := below_set3 HBE.out (Nat.le_refl w.heap.size) ⟨#[]⟩ false 0
                unfold set3 at r0 r1 r2 hbe
                exact bodyPost_ret (v := parseV none) (by simp [results, Tryz.results46, go_sem, r0, r1, r2, parseV, hostV, Hst.none_, errI]) rfl ⟨rfl, hbe⟩
              | true =>
                obtain ⟨v, hv⟩ : ∃ v, Oct.val p2 = v := ⟨_, rfl⟩
                have hbd := num_bd hnum
                rw [hv] at hbd
                obtain ⟨v0, v1⟩ := hbd
                have HV := Lib.hid hv
                have HNM := Lib.hid hnum
                clear hnum hv
                go_wp2_with (go_at_call 47; refine (rnumber_ok p2 v _ (by omega) HNM.out HV.out).mono ?_; rintro e w' ⟨rfl, rfl⟩)
                go_round
                case rel => exact ⟨j + 1, a * 256 + v, by omega, by go_num, rfl, by rw [addr_take ps j hjp, ← HA.out, HP2.out, HV.out]; show _ = _; omega, all_next hjp hin2.out (by rw [HP2.out]; exact HNM.out)⟩
                case measure => simp [intOf]; omega
            · have hj4 : ps.length ≤ j := by omega
              obtain rfl : R = some ⟨[], true, a⟩ := by
                rw [← HR.out, read_yes HDM.out HDG.out (nums_all (by rw [HPS.out]; exact H4.out) (by rw [HPS.out]; exact all_done hj4 hin2.out)), HA.out, List.take_of_length_le hj4, HPS.out]
              go_wp2_with fail
              have q3 := q2.set ⟨#[]⟩ true a
              have r0 := q3.c0; have r1 := q3.c1; have r2 := q3.c2
              have hbe := below_set3 HBE.out (Nat.le_refl w.heap.size) ⟨#[]⟩ true a
              unfold set3 at r0 r1 r2 hbe
              exact bodyPost_ret (v := parseV (some ⟨[], true, a⟩)) (by simp [results, Tryz.results46, go_sem, r0, r1, r2, parseV, hostV, errI]) rfl ⟨rfl, hbe⟩
        · obtain rfl : R = none := by rw [← HR.out]; exact read_no HDM.out HDG.out (nums_len (by rw [HPS.out]; exact h4))
          have h4' : ((ps.length : Int) != 4) = true := by rw [bne_iff_ne]; omega
          clear h4
          go_wp2_with (go_at_call 69; refine (rdigits_is p true _ (by omega) HLB.out).mono ?_; rintro e w' ⟨rfl, rfl⟩)
          have q3 := q2.set ⟨#[]⟩ false 0
          have r0 := q3.c0; have r1 := q3.c1; have r2 := q3.c2
          have hbe := below_set3 HBE.out (Nat.le_refl w.heap.size) ⟨#[]⟩ false 0
          unfold set3 at r0 r1 r2 hbe
          exact bodyPost_ret (v := parseV none) (by simp [results, Tryz.results46, go_sem, r0, r1, r2, parseV, hostV, Hst.none_, errI]) rfl ⟨rfl, hbe⟩
end Go.Proofs.YtbeckddgelcbhaaGreatDoor
