/- The contract of the document's web. -/
import Derived.Test.YtehjnidggnfbfaaGreatDoorUrlpRef2
import Derived.Test.YtehjnidggnfbfaaGreatDoorHostAll
namespace Go.Proofs.YtehjnidggnfbfaaGreatDoor
open Go.RowKit

theorem not1 (c b : UInt8) : notIn [c] b.toNat = (b != c) := by
  unfold notIn Oct.inI
  simp only [List.any_cons, List.any_nil, Bool.or_false, bne]
  congr 1
  rw [Bool.eq_iff_iff]
  simp only [beq_iff_eq, Int.natCast_inj, UInt8.toNat_inj]
  exact ⟨fun h => h.symm, fun h => h.symm⟩
theorem rbef1 (c : UInt8) (l : List UInt8) : rbef [c] l = Urp.bef c l := by
  unfold rbef Urp.bef; congr 1; funext b; exact not1 c b
theorem raft1' (c : UInt8) (l : List UInt8) : raft [c] l = l.dropWhile fun b => b != c := by unfold raft; congr 1; funext b; exact not1 c b
theorem raft1 (c : UInt8) (l : List UInt8) : raft [c] l = if Urp.hasB c l then c :: Urp.aft c l else [] := by
  rw [raft1']
  unfold Urp.hasB Urp.aft
  induction l with
  | nil => rfl
  | cons b l ih =>
    by_cases h : b = c
    · subst h; simp
    · have hb : (b != c) = true := by simpa using h
      have h' : (b == c) = false := by simpa using h
      rw [List.dropWhile_cons_of_pos (p := fun b => b != c) (by simpa using hb)]
      have e : ((b :: l).any fun b => b == c) = l.any fun b => b == c := by simp only [List.any_cons, h', Bool.false_or]
      rw [e]
      exact ih
theorem aft_none {c : UInt8} {l : List UInt8} (h : Urp.hasB c l = false) : Urp.aft c l = [] := by
  rcases Urp.cut_index c l with ⟨_, _, _, h4⟩ | ⟨_, _, _, h3, _⟩
  · exact h4
  · rw [h] at h3; cases h3
theorem Two.alloc {w W : World} {u : Urp.URL} (h : Two w W u) (o : Obj) : Two w (W.alloc o) u := ⟨h.bel.alloc h.bel.size _, h.box.alloc _, h.res.alloc _⟩
theorem rcut_at (l : List UInt8) (of : ByteArray) (w : World) (hl : l.length ≤ 4000) (ho : of.size ≤ 10) : Calls Tryz.prog 48 #[.string (bA l), .string of] w fun e w' => e = .returned (.tuple #[.string (bA (rbef of.data.toList l)), .string (bA (raft of.data.toList l))]) ∧ Below w.heap.size w w' :=
  rcut_any (bA l) of w (by rw [bA_size]; unfold maxLen; omega) (by unfold maxLen; omega)
theorem not2 (c d b : UInt8) : notIn [c, d] b.toNat = ((b != c) && (b != d)) := by
  have h1 := not1 c b
  have h2 := not1 d b
  unfold notIn Oct.inI at *
  simp only [List.any_cons, List.any_nil, Bool.or_false] at *
  rw [Bool.not_or, h1, h2]
theorem rbef2 (c d : UInt8) (l : List UInt8) : rbef [c, d] l = Urp.bef c (Urp.bef d l) := by
  have e : rbef [c, d] l = l.takeWhile fun b => (b != c) && (b != d) := by unfold rbef; congr 1; funext b; exact not2 c d b
  rw [e]
  unfold Urp.bef
  induction l with
  | nil => rfl
  | cons b l ih =>
    have ih := ih (by unfold rbef; congr 1; funext b; exact not2 c d b)
    cases hd : (b != d) with
    | false => rw [List.takeWhile_cons_of_neg (by simp [hd]), List.takeWhile_cons_of_neg (by simp [hd])]; rfl
    | true =>
      rw [List.takeWhile_cons_of_pos (p := fun b => b != d) (by simpa using hd)]
      cases hc : (b != c) with
      | false => rw [List.takeWhile_cons_of_neg (by simp [hc]), List.takeWhile_cons_of_neg (by simp [hc])]
      | true => rw [List.takeWhile_cons_of_pos (by simp [hc, hd]), List.takeWhile_cons_of_pos (by simp [hc]), ih]
theorem raft2 (c d : UInt8) (l : List UInt8) : raft [c, d] l = l.dropWhile fun b => (b != c) && (b != d) := by
  unfold raft; congr 1; funext b; exact not2 c d b
theorem behind_path (l : List UInt8) : rbef [63] (raft [47, 63] l) = raft [47] (Urp.bef 63 l) := by
  have e1 : ∀ x, raft [47] x = x.dropWhile fun b => b != 47 := fun x => by unfold raft; congr 1; funext b; exact not1 47 b
  rw [raft2, rbef1, e1]
  unfold Urp.bef
  induction l with
  | nil => rfl
  | cons b l ih =>
    cases hd : (b != (63 : UInt8)) with
    | false =>
      rw [List.dropWhile_cons_of_neg (by simp [hd]), List.takeWhile_cons_of_neg (by simp [hd])]; rfl
    | true =>
      rw [List.takeWhile_cons_of_pos (p := fun b => b != (63 : UInt8)) (l := l) (by simpa using hd)]
      cases hc : (b != (47 : UInt8)) with
      | false =>
        rw [List.dropWhile_cons_of_neg (by simp [hc]), List.dropWhile_cons_of_neg (by simp [hc]), List.takeWhile_cons_of_pos (by simpa using hd)]
      | true =>
        rw [List.dropWhile_cons_of_pos (by simp [hc, hd]), List.dropWhile_cons_of_pos (by simp [hc]), ih]
theorem behind_query (l : List UInt8) : raft [63] (raft [47, 63] l) = raft [63] l := by
  have e1 : ∀ x, raft [63] x = x.dropWhile fun b => b != 63 := fun x => by unfold raft; congr 1; funext b; exact not1 63 b
  rw [raft2, e1, e1]
  induction l with
  | nil => rfl
  | cons b l ih =>
    cases hd : (b != (63 : UInt8)) with
    | false => rw [List.dropWhile_cons_of_neg (p := fun b => (b != (47 : UInt8)) && (b != 63)) (by simp [hd])]
    | true =>
      cases hc : (b != (47 : UInt8)) with
      | false => rw [List.dropWhile_cons_of_neg (p := fun b => (b != (47 : UInt8)) && (b != 63)) (by simp [hc])]
      | true => rw [List.dropWhile_cons_of_pos (p := fun b => (b != (47 : UInt8)) && (b != 63)) (by simp [hc, hd]), ih, List.dropWhile_cons_of_pos (p := fun b => b != (63 : UInt8)) (by simpa using hd)]
theorem in_has (c : UInt8) (l : List UInt8) : Oct.inI c.toNat l = Urp.hasB c l := by
  unfold Oct.inI Urp.hasB
  congr 1
  funext b
  rw [Bool.eq_iff_iff]
  simp only [beq_iff_eq, Int.natCast_inj, UInt8.toNat_inj]
theorem drop_bA (l : List UInt8) (k n : Nat) (h : l.length ≤ n) : (bA l).extract k n = bA (l.drop k) := by
  rw [Lib.extract_eq]
  congr 2
  exact List.take_of_length_le (by simp; omega)

set_option maxHeartbeats 8000000 in
set_option maxRecDepth 100000 in
theorem rweb_any (s rest : List UInt8) (w : World) (hl : rest.length ≤ 4000) : Calls Tryz.prog 51 #[urlV (begun s), .string (bA rest)] w fun e w' => e = .returned (resV (Urp.web s rest)) ∧ Below w.heap.size w w' := by
  have hT0 := Two.new w (begun s)
  have hpre : ∀ W : World, Calls Tryz.prog 52 #[.string (bA rest), .string ⟨#[47, 47]⟩] W fun e w' => e = .returned (.bool (Urp.begB [47, 47] rest)) ∧ W = w' := fun W => rbegins_any (bA rest) ⟨#[47, 47]⟩ W
  obtain ⟨res, hres⟩ : ∃ r, Urp.web s rest = r := ⟨_, rfl⟩
  rw [hres]
  unfold Urp.web at hres
  cases hb : Urp.begB [47, 47] rest with
  | false =>
    rw [hb, if_neg (by simp)] at hres
    rw [hb] at hpre
    subst hres
    have HP := Lib.hid hpre
    have HT := Lib.hid hT0
    clear hb hpre hT0
    unfold urlV uCells begun
    go_enter Tryz.func51, Tryz.ntmps51
    go_wp2_with fail
    refine (HP.out _).mono ?_
    rintro e w1 ⟨rfl, rfl⟩
    go_wp2_with fail
    refine (rfails_any _ _).mono ?_
    rintro e w2 ⟨rfl, hb2⟩
    have t2 := HT.out.keep hb2
    clear hb2
    have d0 := t2.res.c0; have d1 := t2.res.c1; have d2 := t2.res.c2; have d3 := t2.res.c3; have d4 := t2.res.c4; have d5 := t2.res.c5; have d6 := t2.res.c6; have d7 := t2.res.c7; have d8 := t2.res.c8
    have f := t2.res.fr
    go_wp2_with fail
    exact bodyPost_ret (results_url rfl _ _ rfl (t2.res.set Urp.zeroU)) rfl ⟨rfl, below_set9 t2.bel (by omega) Urp.zeroU⟩
  | true =>
    rw [hb, if_pos rfl] at hres
    rw [hb] at hpre
    have hl2 : 2 ≤ rest.length := by
      have := (List.isPrefixOf_iff_prefix.1 hb).length_le
      simpa using this
    have HP := Lib.hid hpre
    have HT := Lib.hid hT0
    have HDR := Lib.hid (drop_bA rest 2 rest.length (Nat.le_refl _))
    clear hb hpre hT0
    obtain ⟨r, hr⟩ : ∃ r, rest.drop 2 = r := ⟨_, rfl⟩
    have hrl : r.length ≤ 4000 := by rw [← hr, List.length_drop]; omega
    rw [hr] at hres HDR
    clear hr
    have hql : (Urp.bef 63 r).length ≤ 4000 := Nat.le_trans (Urp.bef_len 63 r) hrl
    have hC1 := fun W => rcut_at r ⟨#[47, 63]⟩ W hrl (by decide)
    have e1 : rbef (⟨#[47, 63]⟩ : ByteArray).data.toList r = Urp.bef 47 (Urp.bef 63 r) := rbef2 47 63 r
    have e2 : raft (⟨#[47, 63]⟩ : ByteArray).data.toList r = raft [47, 63] r := rfl
    rw [e1, e2] at hC1
    clear e1 e2
    have hbl : (raft [47, 63] r).length ≤ 4000 := Nat.le_trans (Urp.dropWhile_len _ r) hrl
    have hC3 := fun W => rcut_at (raft [47, 63] r) ⟨#[63]⟩ W hbl (by decide)
    have e3 : rbef (⟨#[63]⟩ : ByteArray).data.toList (raft [47, 63] r) = raft [47] (Urp.bef 63 r) := behind_path r
    have e4 : raft (⟨#[63]⟩ : ByteArray).data.toList (raft [47, 63] r) = raft [63] r := behind_query r
    rw [e3, e4, raft1 47, raft1 63] at hC3
    clear e3 e4
    obtain ⟨bh, hbh⟩ : ∃ bh, raft [47, 63] r = bh := ⟨_, rfl⟩
    rw [hbh] at hC1 hC3 hbl
    clear hbh
    obtain ⟨q, hq⟩ : ∃ q, Urp.bef 63 r = q := ⟨_, rfl⟩
    rw [hq] at hres hql hC1 hC3
    clear hq
    have hal : (Urp.bef 47 q).length ≤ 4000 := Nat.le_trans (Urp.bef_len 47 q) hql
    have hpl : (Urp.aft 47 q).length ≤ 4000 := Nat.le_trans (Urp.aft_len 47 q) hql
    have hsn : Urp.hasB 47 q = false → Urp.aft 47 q = [] := aft_none
    obtain ⟨au, hau⟩ : ∃ au, Urp.bef 47 q = au := ⟨_, rfl⟩
    rw [hau] at hres hal hC1
    clear hau
    have hpl2 : (Urp.aft 47 q).length + 1 ≤ 4001 := by omega
    obtain ⟨sl, hsl⟩ : ∃ b, Urp.hasB 47 q = b := ⟨_, rfl⟩
    have hsq : sl = true → (Urp.aft 47 q).length < q.length := fun h => Urp.aft_lt (by rw [hsl]; exact h)
    obtain ⟨pa, hpa⟩ : ∃ pa, Urp.aft 47 q = pa := ⟨_, rfl⟩
    rw [hpa] at hres hpl hC3 hsn hsq
    rw [hsl] at hC3 hsn
    clear hpa hsl hpl2
    obtain ⟨pth, hpth⟩ : ∃ pth, (if sl = true then 47 :: pa else []) = pth := ⟨_, rfl⟩
    rw [hpth] at hC3
    have hpc : (pth = [] ∧ pa = []) ∨ pth = 47 :: pa := by
      cases sl with
      | false => exact .inl ⟨by rw [← hpth]; rfl, hsn rfl⟩
      | true => exact .inr (by rw [← hpth]; rfl)
    have hptl : pth.length ≤ 4000 := by
      cases sl with
      | false => rw [← hpth]; simp
      | true => have := hsq rfl; rw [← hpth]; simp; omega
    clear hpth hsn hsq
    have HIN : Hid (∀ W : World, Calls Tryz.prog 73 #[.int .u8 64, .string (bA au)] W fun e w' => e = .returned (.bool (Urp.hasB 64 au)) ∧ W = w') := Lib.hid (fun W => by
      have h := rin_any 64 (bA au) W (by rw [bA_size]; unfold maxLen; omega)
      have e : Oct.inI 64 (bA au).data.toList = Urp.hasB 64 au := in_has 64 au
      rw [e] at h; exact h)
    have hC2 := fun W => rcut_at au ⟨#[58]⟩ W hal (by decide)
    have e5 : rbef (⟨#[58]⟩ : ByteArray).data.toList au = Urp.bef 58 au := rbef1 58 au
    have e6 : raft (⟨#[58]⟩ : ByteArray).data.toList au = if Urp.hasB 58 au then 58 :: Urp.aft 58 au else [] := raft1 58 au
    rw [e5, e6] at hC2
    clear e5 e6
    have hnl : (bA (Urp.bef 58 au)).size ≤ maxLen := by rw [bA_size]; have := Urp.bef_len 58 au; unfold maxLen; omega
    have hol : (Urp.aft 58 au).length ≤ 4000 := Nat.le_trans (Urp.aft_len 58 au) hal
    have hon : Urp.hasB 58 au = false → Urp.aft 58 au = [] := aft_none
    have HH := Lib.hid (fun W => rparse_any (bA (Urp.bef 58 au)) W hnl)
    have HCL := Lib.hid (fun W => rclean_any pth pa W hptl hpc)
    obtain ⟨qy, hqy⟩ : ∃ qy, Urp.aft 63 r = qy := ⟨_, rfl⟩
    obtain ⟨hq2, hhq⟩ : ∃ b, Urp.hasB 63 r = b := ⟨_, rfl⟩
    have hqn : Urp.hasB 63 r = false → Urp.aft 63 r = [] := aft_none
    have hqyl : (Urp.aft 63 r).length ≤ 4000 := Nat.le_trans (Urp.aft_len 63 r) hrl
    obtain ⟨co, hco⟩ : ∃ b, Urp.hasB 58 au = b := ⟨_, rfl⟩
    obtain ⟨nm, hnm⟩ : ∃ nm, Urp.bef 58 au = nm := ⟨_, rfl⟩
    obtain ⟨po, hpo⟩ : ∃ po, Urp.aft 58 au = po := ⟨_, rfl⟩
    rw [hqy, hhq] at hres hC3 hqn
    rw [hqy] at hqyl
    rw [hco, hnm, hpo] at hC2
    rw [hco, hpo] at hon
    rw [hpo] at hres hol
    rw [hnm] at hres HH
    clear hqy hhq hco hnm hpo
    obtain ⟨pt, hpt⟩ : ∃ pt, (if co = true then 58 :: po else []) = pt := ⟨_, rfl⟩
    rw [hpt] at hC2
    obtain ⟨qq, hqq⟩ : ∃ qq, (if hq2 = true then 63 :: qy else []) = qq := ⟨_, rfl⟩
    rw [hqq] at hC3
    have HC1 := Lib.hid hC1
    have HC2 := Lib.hid hC2
    have HC3 := Lib.hid hC3
    have hptc : (po = [] ∧ pt.length ≤ 1) ∨ (po ≠ [] ∧ pt = 58 :: po) := by
      cases co with
      | false => exact .inl ⟨hon rfl, by rw [← hpt]; simp⟩
      | true =>
        rcases List.eq_nil_or_concat po with h | ⟨_, _, h⟩
        · exact .inl ⟨h, by rw [← hpt, h]; simp⟩
        · exact .inr ⟨by rw [h]; simp, by rw [← hpt]; rfl⟩
    clear hC1 hC2 hC3 hpt hon hnl hal hql hpl hrl hpc hptl hbl
    cases hat : Urp.hasB 64 au with
    | true =>
      rw [hat, if_pos rfl] at hres
      subst hres
      have HA := Lib.hid hat
      clear hat hqq
      unfold urlV uCells begun
      go_enter Tryz.func51, Tryz.ntmps51
      go_wp2_with fail
      refine (HP.out _).mono ?_
      rintro e w1 ⟨rfl, rfl⟩
      go_wp2_with fail
      rw [HDR.out]
      refine (HC1.out _).mono ?_
      rintro e w2 ⟨rfl, hb2⟩
      have t2 := HT.out.keep hb2
      clear hb2
      go_wp2_with fail
      refine (HIN.out _).mono ?_
      rintro e w3 ⟨rfl, rfl⟩
      rw [HA.out]
      go_wp2_with fail
      refine (rfails_any _ _).mono ?_
      rintro e wf ⟨rfl, hbf⟩
      have tf := t2.keep hbf
      clear hbf
      have d0 := tf.res.c0; have d1 := tf.res.c1; have d2 := tf.res.c2; have d3 := tf.res.c3; have d4 := tf.res.c4; have d5 := tf.res.c5; have d6 := tf.res.c6; have d7 := tf.res.c7; have d8 := tf.res.c8
      have f := tf.res.fr
      go_wp2_with fail
      exact bodyPost_ret (results_url rfl _ _ rfl (tf.res.set Urp.zeroU)) rfl ⟨rfl, below_set9 tf.bel (by omega) Urp.zeroU⟩
    | false =>
      rw [hat, if_neg (by simp)] at hres
      have HA := Lib.hid hat
      clear hat
      cases hh : Hst.parse nm with
      | none =>
        rw [hh] at hres
        simp only at hres
        subst hres
        have HH2 : Hid (∀ W : World, Calls Tryz.prog 76 #[.string (bA nm)] W fun e w' => e = .returned (.tuple #[.agg #[.string ⟨#[]⟩, .bool false, .int .u32 0], .int .i64 20]) ∧ Below W.heap.size W w') := Lib.hid (fun W => by
          have h := HH.out W
          have e : (bA nm).data.toList = nm := rfl
          rw [e, hh] at h
          exact h)
        clear hh HH hqq
        unfold urlV uCells begun
        go_enter Tryz.func51, Tryz.ntmps51
        go_wp2_with fail
        refine (HP.out _).mono ?_
        rintro e w1 ⟨rfl, rfl⟩
        go_wp2_with fail
        rw [HDR.out]
        refine (HC1.out _).mono ?_
        rintro e w2 ⟨rfl, hb2⟩
        have t2 := HT.out.keep hb2
        clear hb2
        go_wp2_with fail
        refine (HIN.out _).mono ?_
        rintro e w3 ⟨rfl, rfl⟩
        rw [HA.out]
        go_wp2_with fail
        refine (HC2.out _).mono ?_
        rintro e w4 ⟨rfl, hb4⟩
        have t4 := t2.keep hb4
        clear hb4 t2
        go_wp2_with fail
        refine (HH2.out _).mono ?_
        rintro e w5 ⟨rfl, hb5⟩
        have t5 := t4.keep hb5
        clear hb5 t4
        go_wp2_with fail
        refine (rfails_any _ _).mono ?_
        rintro e wf ⟨rfl, hbf⟩
        have tf := (t5.alloc _).keep hbf
        clear hbf
        have d0 := tf.res.c0; have d1 := tf.res.c1; have d2 := tf.res.c2; have d3 := tf.res.c3; have d4 := tf.res.c4; have d5 := tf.res.c5; have d6 := tf.res.c6; have d7 := tf.res.c7; have d8 := tf.res.c8
        have f := tf.res.fr
        go_wp2_with fail
        exact bodyPost_ret (results_url rfl _ _ rfl (tf.res.set Urp.zeroU)) rfl ⟨rfl, below_set9 tf.bel (by omega) Urp.zeroU⟩
      | some h =>
        rw [hh] at hres
        simp only at hres
        have HH2 : Hid (∀ W : World, Calls Tryz.prog 76 #[.string (bA nm)] W fun e w' => e = .returned (.tuple #[.agg #[.string (bA h.name), .bool h.v4, .int .u32 h.addr], .int .i64 0]) ∧ Below W.heap.size W w') := Lib.hid (fun W => by
          have h := HH.out W
          have e : (bA nm).data.toList = nm := rfl
          rw [e, hh] at h
          exact h)
        clear hh HH
        unfold Urp.portOf at hres
        rcases hptc with ⟨hpo, hptl⟩ | ⟨hpo, hpt⟩
        · have hpe : po.isEmpty = true := by rw [hpo]; rfl
          rw [hpe, if_pos rfl] at hres
          simp only at hres
          have HRS := Lib.hid hres
          have hptl' : (pt.length : Int) ≤ 1 := by omega
          clear hres hpo hpe
          rcases Bool.eq_false_or_eq_true hq2 with hq | hq
          · rw [hq, if_pos rfl] at hqq
            rw [hq] at HRS
            have hex : (bA (63 :: qy)).extract 1 (qy.length + 1) = bA qy := drop_bA (63 :: qy) 1 (qy.length + 1) (by simp)
            rw [← hqq] at HC3
            clear hq hqq hqn
            unfold urlV uCells begun
            go_enter Tryz.func51, Tryz.ntmps51
            go_wp2_with fail
            refine (HP.out _).mono ?_
            rintro e w1 ⟨rfl, rfl⟩
            go_wp2_with fail
            rw [HDR.out]
            refine (HC1.out _).mono ?_
            rintro e w2 ⟨rfl, hb2⟩
            have t2 := HT.out.keep hb2
            clear hb2
            go_wp2_with fail
            refine (HIN.out _).mono ?_
            rintro e w3 ⟨rfl, rfl⟩
            rw [HA.out]
            go_wp2_with fail
            refine (HC2.out _).mono ?_
            rintro e w4 ⟨rfl, hb4⟩
            have t4 := t2.keep hb4
            clear hb4 t2
            go_wp2_with fail
            refine (HH2.out _).mono ?_
            rintro e w5 ⟨rfl, hb5⟩
            have t5 := t4.keep hb5
            clear hb5 t4
            have c0 := t5.box.c0; have c1 := t5.box.c1; have c2 := t5.box.c2; have c3 := t5.box.c3; have fb := t5.box.fr
            have lb := t5.box.lt
            have nb : w.heap.size ≠ w5.heap.size := by omega
            go_wp2_with fail
            refine (HC3.out _).mono ?_
            rintro e w7 ⟨rfl, hb7⟩
            have t7 := ((t5.sh h).alloc _).keep hb7
            clear hb7
            go_wp2_with fail
            refine (HCL.out _).mono ?_
            rintro e w8 ⟨rfl, hb8⟩
            have t8 := t7.keep hb8
            clear hb8 t7
            obtain ⟨pp, hpp⟩ : ∃ pp, Urp.pathOf pa = pp := ⟨_, rfl⟩
            rw [hpp]
            have HPP := Lib.hid hpp
            clear hpp
            have k0 := t8.box.c0; have k1 := t8.box.c1; have k2 := t8.box.c2; have k3 := t8.box.c3; have k4 := t8.box.c4; have k5 := t8.box.c5; have k6 := t8.box.c6; have k7 := t8.box.c7; have k8 := t8.box.c8; have fb2 := t8.box.fr
            have d0 := t8.res.c0; have d1 := t8.res.c1; have d2 := t8.res.c2; have d3 := t8.res.c3; have d4 := t8.res.c4; have d5 := t8.res.c5; have d6 := t8.res.c6; have d7 := t8.res.c7; have d8 := t8.res.c8
            have f := t8.res.fr
            go_wp2_with fail
            have tx := ((t8.s5 pp).s6 true).s7 qy
            exact bodyPost_ret (results_url rfl _ _ rfl (tx.res.set ⟨s, h, -1, pp, true, qy, []⟩)) rfl ⟨by rw [← HRS.out, HPP.out]; rfl, below_set9 tx.bel (by omega) ⟨s, h, -1, pp, true, qy, []⟩⟩
          · rw [hq, if_neg (by simp)] at hqq
            rw [hq, hqn hq] at HRS
            rw [← hqq] at HC3
            clear hq hqq hqn
            unfold urlV uCells begun
            go_enter Tryz.func51, Tryz.ntmps51
            go_wp2_with fail
            refine (HP.out _).mono ?_
            rintro e w1 ⟨rfl, rfl⟩
            go_wp2_with fail
            rw [HDR.out]
            refine (HC1.out _).mono ?_
            rintro e w2 ⟨rfl, hb2⟩
            have t2 := HT.out.keep hb2
            clear hb2
            go_wp2_with fail
            refine (HIN.out _).mono ?_
            rintro e w3 ⟨rfl, rfl⟩
            rw [HA.out]
            go_wp2_with fail
            refine (HC2.out _).mono ?_
            rintro e w4 ⟨rfl, hb4⟩
            have t4 := t2.keep hb4
            clear hb4 t2
            go_wp2_with fail
            refine (HH2.out _).mono ?_
            rintro e w5 ⟨rfl, hb5⟩
            have t5 := t4.keep hb5
            clear hb5 t4
            have c0 := t5.box.c0; have c1 := t5.box.c1; have c2 := t5.box.c2; have c3 := t5.box.c3; have fb := t5.box.fr
            have lb := t5.box.lt
            have nb : w.heap.size ≠ w5.heap.size := by omega
            go_wp2_with fail
            refine (HC3.out _).mono ?_
            rintro e w7 ⟨rfl, hb7⟩
            have t7 := ((t5.sh h).alloc _).keep hb7
            clear hb7
            go_wp2_with fail
            refine (HCL.out _).mono ?_
            rintro e w8 ⟨rfl, hb8⟩
            have t8 := t7.keep hb8
            clear hb8 t7
            obtain ⟨pp, hpp⟩ : ∃ pp, Urp.pathOf pa = pp := ⟨_, rfl⟩
            rw [hpp]
            have HPP := Lib.hid hpp
            clear hpp
            have k0 := t8.box.c0; have k1 := t8.box.c1; have k2 := t8.box.c2; have k3 := t8.box.c3; have k4 := t8.box.c4; have k5 := t8.box.c5; have k6 := t8.box.c6; have k7 := t8.box.c7; have k8 := t8.box.c8; have fb2 := t8.box.fr
            have d0 := t8.res.c0; have d1 := t8.res.c1; have d2 := t8.res.c2; have d3 := t8.res.c3; have d4 := t8.res.c4; have d5 := t8.res.c5; have d6 := t8.res.c6; have d7 := t8.res.c7; have d8 := t8.res.c8
            have f := t8.res.fr
            go_wp2_with fail
            have tx := t8.s5 pp
            exact bodyPost_ret (results_url rfl _ _ rfl (tx.res.set ⟨s, h, -1, pp, false, [], []⟩)) rfl ⟨by rw [← HRS.out, HPP.out]; rfl, below_set9 tx.bel (by omega) ⟨s, h, -1, pp, false, [], []⟩⟩
        · have hpe : po.isEmpty = false := by cases po with
            | nil => exact absurd rfl hpo
            | cons a b => rfl
          rw [hpe, if_neg (by simp)] at hres
          have HX1 := Lib.hid (drop_bA (58 :: po) 1 (po.length + 1) (by simp))
          have hx1 : (58 :: po).drop 1 = po := rfl
          rw [hx1] at HX1
          subst hpt
          have hpl1 : 1 ≤ po.length := by cases po with
            | nil => exact absurd rfl hpo
            | cons a b => simp
          have hnum := fun W => rnumber_any (bA po) 65535 W (by rw [bA_size]; unfold maxLen; omega) (by omega) (by omega)
          have e7 : (bA po).data.toList = po := rfl
          rw [e7] at hnum
          clear hx1 hpo hpe e7
          cases hk : Oct.numOk po 65535 with
          | false =>
            rw [hk, if_neg (by simp)] at hres
            simp only at hres
            subst hres
            have HN : Hid (∀ W, Calls Tryz.prog 77 #[.string (bA po), .int .i64 65535] W fun e w' => e = .returned (.tuple #[.int .i64 (Oct.numV po 65535), .bool false]) ∧ W = w') := Lib.hid (fun W => by rw [← hk]; exact hnum W)
            clear hnum hk hqq
            unfold urlV uCells begun
            go_enter Tryz.func51, Tryz.ntmps51
            go_wp2_with fail
            refine (HP.out _).mono ?_
            rintro e w1 ⟨rfl, rfl⟩
            go_wp2_with fail
            rw [HDR.out]
            refine (HC1.out _).mono ?_
            rintro e w2 ⟨rfl, hb2⟩
            have t2 := HT.out.keep hb2
            clear hb2
            go_wp2_with fail
            refine (HIN.out _).mono ?_
            rintro e w3 ⟨rfl, rfl⟩
            rw [HA.out]
            go_wp2_with fail
            refine (HC2.out _).mono ?_
            rintro e w4 ⟨rfl, hb4⟩
            have t4 := t2.keep hb4
            clear hb4 t2
            go_wp2_with fail
            refine (HH2.out _).mono ?_
            rintro e w5 ⟨rfl, hb5⟩
            have t5 := t4.keep hb5
            clear hb5 t4
            have c0 := t5.box.c0; have c1 := t5.box.c1; have c2 := t5.box.c2; have c3 := t5.box.c3; have fb := t5.box.fr
            have lb := t5.box.lt
            have nb : w.heap.size ≠ w5.heap.size := by omega
            go_wp2_with fail
            rw [HX1.out]
            refine (HN.out _).mono ?_
            rintro e w6 ⟨rfl, rfl⟩
            go_wp2_with fail
            refine (rfails_any _ _).mono ?_
            rintro e wf ⟨rfl, hbf⟩
            have tf := ((t5.sh h).alloc _).keep hbf
            clear hbf
            have d0 := tf.res.c0; have d1 := tf.res.c1; have d2 := tf.res.c2; have d3 := tf.res.c3; have d4 := tf.res.c4; have d5 := tf.res.c5; have d6 := tf.res.c6; have d7 := tf.res.c7; have d8 := tf.res.c8
            have f := tf.res.fr
            go_wp2_with fail
            exact bodyPost_ret (results_url rfl _ _ rfl (tf.res.set Urp.zeroU)) rfl ⟨rfl, below_set9 tf.bel (by omega) Urp.zeroU⟩
          | true =>
            rw [hk, if_pos rfl] at hres
            have HN : Hid (∀ W, Calls Tryz.prog 77 #[.string (bA po), .int .i64 65535] W fun e w' => e = .returned (.tuple #[.int .i64 (Oct.val po), .bool true]) ∧ W = w') := Lib.hid (fun W => by rw [← numV_ok hk, ← hk]; exact hnum W)
            clear hnum hk
            obtain ⟨x, hx⟩ : ∃ x, Oct.val po = x := ⟨_, rfl⟩
            obtain ⟨y, hy⟩ : ∃ y, Urp.own s = y := ⟨_, rfl⟩
            have HOW : Hid (Urp.own (bA (begun s).scheme).data.toList = y) := Lib.hid hy
            rw [hx, hy] at hres
            rw [hx] at HN
            clear hx hy
            by_cases hxy : x = y
            · rw [if_pos hxy] at hres
              simp only at hres
              have hbx : (x == y) = true := beq_iff_eq.2 hxy
              have hby : (x != y) = false := by rw [bne, hbx]; rfl
              have HRS := Lib.hid hres
              clear hres hxy
              rcases Bool.eq_false_or_eq_true hq2 with hq | hq
              · rw [hq, if_pos rfl] at hqq
                rw [hq] at HRS
                have hex : (bA (63 :: qy)).extract 1 (qy.length + 1) = bA qy := drop_bA (63 :: qy) 1 (qy.length + 1) (by simp)
                rw [← hqq] at HC3
                clear hq hqq hqn
                unfold urlV uCells begun
                go_enter Tryz.func51, Tryz.ntmps51
                go_wp2_with fail
                refine (HP.out _).mono ?_
                rintro e w1 ⟨rfl, rfl⟩
                go_wp2_with fail
                rw [HDR.out]
                refine (HC1.out _).mono ?_
                rintro e w2 ⟨rfl, hb2⟩
                have t2 := HT.out.keep hb2
                clear hb2
                go_wp2_with fail
                refine (HIN.out _).mono ?_
                rintro e w3 ⟨rfl, rfl⟩
                rw [HA.out]
                go_wp2_with fail
                refine (HC2.out _).mono ?_
                rintro e w4 ⟨rfl, hb4⟩
                have t4 := t2.keep hb4
                clear hb4 t2
                go_wp2_with fail
                refine (HH2.out _).mono ?_
                rintro e w5 ⟨rfl, hb5⟩
                have t5 := t4.keep hb5
                clear hb5 t4
                have c0 := t5.box.c0; have c1 := t5.box.c1; have c2 := t5.box.c2; have c3 := t5.box.c3; have fb := t5.box.fr
                have lb := t5.box.lt
                have nb : w.heap.size ≠ w5.heap.size := by omega
                go_wp2_with fail
                rw [HX1.out]
                refine (HN.out _).mono ?_
                rintro e w6 ⟨rfl, rfl⟩
                go_wp2_with fail
                refine (rOwn_any _ _).mono ?_
                rintro e w6 ⟨rfl, rfl⟩
                rw [HOW.out]
                go_wp2_with fail
                refine (HC3.out _).mono ?_
                rintro e w7 ⟨rfl, hb7⟩
                have t7 := ((t5.sh h).alloc _).keep hb7
                clear hb7
                go_wp2_with fail
                refine (HCL.out _).mono ?_
                rintro e w8 ⟨rfl, hb8⟩
                have t8 := t7.keep hb8
                clear hb8 t7
                obtain ⟨pp, hpp⟩ : ∃ pp, Urp.pathOf pa = pp := ⟨_, rfl⟩
                rw [hpp]
                have HPP := Lib.hid hpp
                clear hpp
                have k0 := t8.box.c0; have k1 := t8.box.c1; have k2 := t8.box.c2; have k3 := t8.box.c3; have k4 := t8.box.c4; have k5 := t8.box.c5; have k6 := t8.box.c6; have k7 := t8.box.c7; have k8 := t8.box.c8; have fb2 := t8.box.fr
                have d0 := t8.res.c0; have d1 := t8.res.c1; have d2 := t8.res.c2; have d3 := t8.res.c3; have d4 := t8.res.c4; have d5 := t8.res.c5; have d6 := t8.res.c6; have d7 := t8.res.c7; have d8 := t8.res.c8
                have f := t8.res.fr
                go_wp2_with fail
                have tx := ((t8.s5 pp).s6 true).s7 qy
                exact bodyPost_ret (results_url rfl _ _ rfl (tx.res.set ⟨s, h, -1, pp, true, qy, []⟩)) rfl ⟨by rw [← HRS.out, HPP.out]; rfl, below_set9 tx.bel (by omega) ⟨s, h, -1, pp, true, qy, []⟩⟩
              · rw [hq, if_neg (by simp)] at hqq
                rw [hq, hqn hq] at HRS
                rw [← hqq] at HC3
                clear hq hqq hqn
                unfold urlV uCells begun
                go_enter Tryz.func51, Tryz.ntmps51
                go_wp2_with fail
                refine (HP.out _).mono ?_
                rintro e w1 ⟨rfl, rfl⟩
                go_wp2_with fail
                rw [HDR.out]
                refine (HC1.out _).mono ?_
                rintro e w2 ⟨rfl, hb2⟩
                have t2 := HT.out.keep hb2
                clear hb2
                go_wp2_with fail
                refine (HIN.out _).mono ?_
                rintro e w3 ⟨rfl, rfl⟩
                rw [HA.out]
                go_wp2_with fail
                refine (HC2.out _).mono ?_
                rintro e w4 ⟨rfl, hb4⟩
                have t4 := t2.keep hb4
                clear hb4 t2
                go_wp2_with fail
                refine (HH2.out _).mono ?_
                rintro e w5 ⟨rfl, hb5⟩
                have t5 := t4.keep hb5
                clear hb5 t4
                have c0 := t5.box.c0; have c1 := t5.box.c1; have c2 := t5.box.c2; have c3 := t5.box.c3; have fb := t5.box.fr
                have lb := t5.box.lt
                have nb : w.heap.size ≠ w5.heap.size := by omega
                go_wp2_with fail
                rw [HX1.out]
                refine (HN.out _).mono ?_
                rintro e w6 ⟨rfl, rfl⟩
                go_wp2_with fail
                refine (rOwn_any _ _).mono ?_
                rintro e w6 ⟨rfl, rfl⟩
                rw [HOW.out]
                go_wp2_with fail
                refine (HC3.out _).mono ?_
                rintro e w7 ⟨rfl, hb7⟩
                have t7 := ((t5.sh h).alloc _).keep hb7
                clear hb7
                go_wp2_with fail
                refine (HCL.out _).mono ?_
                rintro e w8 ⟨rfl, hb8⟩
                have t8 := t7.keep hb8
                clear hb8 t7
                obtain ⟨pp, hpp⟩ : ∃ pp, Urp.pathOf pa = pp := ⟨_, rfl⟩
                rw [hpp]
                have HPP := Lib.hid hpp
                clear hpp
                have k0 := t8.box.c0; have k1 := t8.box.c1; have k2 := t8.box.c2; have k3 := t8.box.c3; have k4 := t8.box.c4; have k5 := t8.box.c5; have k6 := t8.box.c6; have k7 := t8.box.c7; have k8 := t8.box.c8; have fb2 := t8.box.fr
                have d0 := t8.res.c0; have d1 := t8.res.c1; have d2 := t8.res.c2; have d3 := t8.res.c3; have d4 := t8.res.c4; have d5 := t8.res.c5; have d6 := t8.res.c6; have d7 := t8.res.c7; have d8 := t8.res.c8
                have f := t8.res.fr
                go_wp2_with fail
                have tx := t8.s5 pp
                exact bodyPost_ret (results_url rfl _ _ rfl (tx.res.set ⟨s, h, -1, pp, false, [], []⟩)) rfl ⟨by rw [← HRS.out, HPP.out]; rfl, below_set9 tx.bel (by omega) ⟨s, h, -1, pp, false, [], []⟩⟩
            · rw [if_neg hxy] at hres
              simp only at hres
              have hbx : (x == y) = false := beq_eq_false_iff_ne.2 hxy
              have hby : (x != y) = true := by rw [bne, hbx]; rfl
              have HRS := Lib.hid hres
              clear hres hxy
              rcases Bool.eq_false_or_eq_true hq2 with hq | hq
              · rw [hq, if_pos rfl] at hqq
                rw [hq] at HRS
                have hex : (bA (63 :: qy)).extract 1 (qy.length + 1) = bA qy := drop_bA (63 :: qy) 1 (qy.length + 1) (by simp)
                rw [← hqq] at HC3
                clear hq hqq hqn
                unfold urlV uCells begun
                go_enter Tryz.func51, Tryz.ntmps51
                go_wp2_with fail
                refine (HP.out _).mono ?_
                rintro e w1 ⟨rfl, rfl⟩
                go_wp2_with fail
                rw [HDR.out]
                refine (HC1.out _).mono ?_
                rintro e w2 ⟨rfl, hb2⟩
                have t2 := HT.out.keep hb2
                clear hb2
                go_wp2_with fail
                refine (HIN.out _).mono ?_
                rintro e w3 ⟨rfl, rfl⟩
                rw [HA.out]
                go_wp2_with fail
                refine (HC2.out _).mono ?_
                rintro e w4 ⟨rfl, hb4⟩
                have t4 := t2.keep hb4
                clear hb4 t2
                go_wp2_with fail
                refine (HH2.out _).mono ?_
                rintro e w5 ⟨rfl, hb5⟩
                have t5 := t4.keep hb5
                clear hb5 t4
                have c0 := t5.box.c0; have c1 := t5.box.c1; have c2 := t5.box.c2; have c3 := t5.box.c3; have fb := t5.box.fr
                have lb := t5.box.lt
                have nb : w.heap.size ≠ w5.heap.size := by omega
                go_wp2_with fail
                rw [HX1.out]
                refine (HN.out _).mono ?_
                rintro e w6 ⟨rfl, rfl⟩
                go_wp2_with fail
                refine (rOwn_any _ _).mono ?_
                rintro e w6 ⟨rfl, rfl⟩
                rw [HOW.out]
                have c4 := t5.box.c4
                go_wp2_with fail
                refine (HC3.out _).mono ?_
                rintro e w7 ⟨rfl, hb7⟩
                have t7 := (((t5.sh h).s4 x).alloc _).keep hb7
                clear hb7
                go_wp2_with fail
                refine (HCL.out _).mono ?_
                rintro e w8 ⟨rfl, hb8⟩
                have t8 := t7.keep hb8
                clear hb8 t7
                obtain ⟨pp, hpp⟩ : ∃ pp, Urp.pathOf pa = pp := ⟨_, rfl⟩
                rw [hpp]
                have HPP := Lib.hid hpp
                clear hpp
                have k0 := t8.box.c0; have k1 := t8.box.c1; have k2 := t8.box.c2; have k3 := t8.box.c3; have k4 := t8.box.c4; have k5 := t8.box.c5; have k6 := t8.box.c6; have k7 := t8.box.c7; have k8 := t8.box.c8; have fb2 := t8.box.fr
                have d0 := t8.res.c0; have d1 := t8.res.c1; have d2 := t8.res.c2; have d3 := t8.res.c3; have d4 := t8.res.c4; have d5 := t8.res.c5; have d6 := t8.res.c6; have d7 := t8.res.c7; have d8 := t8.res.c8
                have f := t8.res.fr
                go_wp2_with fail
                have tx := ((t8.s5 pp).s6 true).s7 qy
                exact bodyPost_ret (results_url rfl _ _ rfl (tx.res.set ⟨s, h, x, pp, true, qy, []⟩)) rfl ⟨by rw [← HRS.out, HPP.out]; rfl, below_set9 tx.bel (by omega) ⟨s, h, x, pp, true, qy, []⟩⟩
              · rw [hq, if_neg (by simp)] at hqq
                rw [hq, hqn hq] at HRS
                rw [← hqq] at HC3
                clear hq hqq hqn
                unfold urlV uCells begun
                go_enter Tryz.func51, Tryz.ntmps51
                go_wp2_with fail
                refine (HP.out _).mono ?_
                rintro e w1 ⟨rfl, rfl⟩
                go_wp2_with fail
                rw [HDR.out]
                refine (HC1.out _).mono ?_
                rintro e w2 ⟨rfl, hb2⟩
                have t2 := HT.out.keep hb2
                clear hb2
                go_wp2_with fail
                refine (HIN.out _).mono ?_
                rintro e w3 ⟨rfl, rfl⟩
                rw [HA.out]
                go_wp2_with fail
                refine (HC2.out _).mono ?_
                rintro e w4 ⟨rfl, hb4⟩
                have t4 := t2.keep hb4
                clear hb4 t2
                go_wp2_with fail
                refine (HH2.out _).mono ?_
                rintro e w5 ⟨rfl, hb5⟩
                have t5 := t4.keep hb5
                clear hb5 t4
                have c0 := t5.box.c0; have c1 := t5.box.c1; have c2 := t5.box.c2; have c3 := t5.box.c3; have fb := t5.box.fr
                have lb := t5.box.lt
                have nb : w.heap.size ≠ w5.heap.size := by omega
                go_wp2_with fail
                rw [HX1.out]
                refine (HN.out _).mono ?_
                rintro e w6 ⟨rfl, rfl⟩
                go_wp2_with fail
                refine (rOwn_any _ _).mono ?_
                rintro e w6 ⟨rfl, rfl⟩
                rw [HOW.out]
                have c4 := t5.box.c4
                go_wp2_with fail
                refine (HC3.out _).mono ?_
                rintro e w7 ⟨rfl, hb7⟩
                have t7 := (((t5.sh h).s4 x).alloc _).keep hb7
                clear hb7
                go_wp2_with fail
                refine (HCL.out _).mono ?_
                rintro e w8 ⟨rfl, hb8⟩
                have t8 := t7.keep hb8
                clear hb8 t7
                obtain ⟨pp, hpp⟩ : ∃ pp, Urp.pathOf pa = pp := ⟨_, rfl⟩
                rw [hpp]
                have HPP := Lib.hid hpp
                clear hpp
                have k0 := t8.box.c0; have k1 := t8.box.c1; have k2 := t8.box.c2; have k3 := t8.box.c3; have k4 := t8.box.c4; have k5 := t8.box.c5; have k6 := t8.box.c6; have k7 := t8.box.c7; have k8 := t8.box.c8; have fb2 := t8.box.fr
                have d0 := t8.res.c0; have d1 := t8.res.c1; have d2 := t8.res.c2; have d3 := t8.res.c3; have d4 := t8.res.c4; have d5 := t8.res.c5; have d6 := t8.res.c6; have d7 := t8.res.c7; have d8 := t8.res.c8
                have f := t8.res.fr
                go_wp2_with fail
                have tx := t8.s5 pp
                exact bodyPost_ret (results_url rfl _ _ rfl (tx.res.set ⟨s, h, x, pp, false, [], []⟩)) rfl ⟨by rw [← HRS.out, HPP.out]; rfl, below_set9 tx.bel (by omega) ⟨s, h, x, pp, false, [], []⟩⟩
end Go.Proofs.YtehjnidggnfbfaaGreatDoor
