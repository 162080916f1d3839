/- Our texts of one layer, joined: plain functions and their laws, and the contracts of the functions of that layer. -/
import Derived.Test.YtgddmihojladfaaGreatDoorSfRefW

/- The contract of the document's quoted. -/

namespace Go.Proofs.YtgddmihojladfaaGreatDoor
open Go.RowKit

def quoV (o : Option (List UInt8 × List UInt8)) : Option (Sf.Par × List UInt8) := o.map fun x => (Sf.kv 3 0 x.1, x.2)
theorem ext_one {T : ByteArray} {p r : List UInt8} {c : UInt8} (h : p ++ c :: r = T.data.toList) : T.extract p.length (p.length + 1) = bA [c] := by
  rw [Lib.extract_eq, ← h, show p.length + 1 - p.length = 1 by omega]; simp
structure RQInv (S : ByteArray) (t p r o : List UInt8) : Prop where
  eq : p ++ r = S.data.toList
  pos : 1 ≤ p.length
  len : o.length ≤ p.length
  quo : Sf.quo t = (Sf.quo r).map fun x => (o ++ x.1, x.2)
theorem quo_end {t o : List UInt8} (h : Sf.quo t = (Sf.quo []).map fun x => (o ++ x.1, x.2)) : Sf.quo t = none := h
set_option maxHeartbeats 4000000 in
set_option maxRecDepth 20000 in
theorem rquoted_any (S : ByteArray) (t : List UInt8) (w : World) (hS : S.data.toList = 34 :: t) (hl : S.size ≤ 1000000) : Calls Tryz.prog 89 #[.string S] w fun e w' => e = .returned (rvalV (quoV (Sf.quo t))) ∧ Below w.heap.size w w' := by
  have HI : Hid (RQInv S t [34] t []) := Lib.hid ⟨hS.symm, by simp, by simp, by cases Sf.quo t <;> simp⟩
  obtain ⟨o, ho⟩ : ∃ o, Sf.quo t = o := ⟨_, rfl⟩
  rw [ho]
  have HO := Lib.hid ho
  clear hS ho
  go_enter Tryz.func89, Tryz.ntmps89
  go_wp2_with fail
  go_loop [5, 6] (fun o i => ∃ p r u : List UInt8, i = .int .i64 p.length ∧ o = .string (bA u) ∧ Hid (RQInv S t p r u)) (fun _ i => S.size - (intOf i).toNat)
  case atStart => exact ⟨[34], t, [], rfl, rfl, HI⟩
  case round =>
    obtain ⟨p, r, u, rfl, rfl, hI⟩ := hrel
    have hsz := size_of hI.out.eq
    have hul := hI.out.len
    have hpp := hI.out.pos
    clear HI
    cases r with
    | nil =>
      have hn : o = none := by rw [← HO.out]; exact quo_end hI.out.quo
      subst hn
      have hd : ¬ p.length < S.size := by simp at hsz; omega
      clear hsz
      go_wp2_with fail
      refine bodyPost_ret (results_pv (x := ⟨[], 0, 0, []⟩) rfl _ _ rfl (CBox.new _ _ _)) rfl ?_
      exact ⟨rfl, below_one _ _⟩
    | cons c r =>
      have hlt : p.length < S.size := by rw [hsz]; simp
      have hlt' : (p.length : Int) < (S.size : Int) := by omega
      have hat := at_r' hI.out.eq hlt
      have hx1 := ext_one hI.out.eq
      have hx2 := ext_s' hI.out.eq
      have hq := hI.out.quo
      rw [HO.out] at hq
      have HSZ := Lib.hid hsz
      clear hsz
      by_cases c34 : c = 34
      · subst c34
        have ho : o = some (u, r) := by rw [hq, Sf.quo_cons, if_pos rfl]; simp
        subst ho
        have h0 : (((S[p.length]'hlt).toNat : Int) == 34) = true := by rw [hat]; rfl
        have s1 : IntKind.i64.wrap ((p.length : Int) + 1) = (p.length : Int) + 1 := IntWalk.i64_in _ (by omega)
        have s2 : ((p.length : Int) + 1).toNat = p.length + 1 := by omega
        have s3 : (0 : Int) ≤ (p.length : Int) + 1 := by omega
        have s4 : (p.length : Int) + 1 ≤ (S.size : Int) := by omega
        clear hat hq hx1
        go_wp2_with fail
        go_region_with (fail)
        all_goals
          go_wp2_with fail
          refine bodyPost_ret (results_pv (x := Sf.kv 3 0 u) rfl _ _ rfl ((CBox.new _ _ _).drew)) rfl ?_
          exact ⟨rfl, (below_one _ _).drew⟩
      · have h0 : (((S[p.length]'hlt).toNat : Int) == 34) = false := by rw [hat]; exact byte_off (d := 34) c34
        rw [Sf.quo_cons, if_neg c34] at hq
        by_cases hpr : Sf.prI c.toNat = true
        · rw [if_pos hpr] at hq
          have hr0 : (32 : Int) ≤ ((S[p.length]'hlt).toNat : Int) := by rw [hat]; simp [Sf.prI] at hpr; omega
          have hr1 : ((S[p.length]'hlt).toNat : Int) ≤ 126 := by rw [hat]; simp [Sf.prI] at hpr; omega
          by_cases c92 : c = 92
          · subst c92
            rw [if_pos rfl] at hq
            have h9 : (((S[p.length]'hlt).toNat : Int) == 92) = true := by rw [hat]; rfl
            cases r with
            | nil =>
              have ho : o = none := hq
              subst ho
              have he : ((p.length : Int) + 1 == (S.size : Int)) = true := by have := HSZ.out; simp at this; simp; omega
              clear hI hat hq HO hx1 hx2 hpr
              go_wp2_with fail
              refine bodyPost_ret (results_pv (x := ⟨[], 0, 0, []⟩) rfl _ _ rfl (CBox.new _ _ _)) rfl ?_
              exact ⟨rfl, below_one _ _⟩
            | cons e r =>
              have hz := HSZ.out
              simp only [List.length_cons] at hz
              have he : ((p.length : Int) + 1 == (S.size : Int)) = false := by simp; omega
              have hlt2 : p.length + 1 < S.size := by omega
              have heq2 : (p ++ [92]) ++ e :: r = S.data.toList := by rw [← hI.out.eq]; simp
              have hpl1 : (p ++ [92]).length = p.length + 1 := by simp
              have hat2 : S[p.length + 1]'hlt2 = e := by have := at_r' heq2 (by rw [hpl1]; exact hlt2); simpa [hpl1] using this
              have hx4 : S.extract (p.length + 1) (p.length + 1 + 1) = bA [e] := by have := ext_one heq2; rwa [hpl1] at this
              have s2 : ((p.length : Int) + 1).toNat = p.length + 1 := by omega
              have s5 : ((p.length : Int) + 1 + 1).toNat = p.length + 1 + 1 := by omega
              have s3 : (0 : Int) ≤ (p.length : Int) + 1 := by omega
              have s4 : (p.length : Int) + 1 < (S.size : Int) := by omega
              have s7 : (p.length : Int) + 1 + 1 ≤ (S.size : Int) := by omega
              have s6 : (p.length : Int) + 1 ≤ (p.length : Int) + 1 + 1 := by omega
              clear hz
              by_cases ok : e = 34 ∨ e = 92
              · simp only [if_pos ok] at hq
                have HN : Hid (RQInv S t (p ++ [92, e]) r (u ++ [e])) := Lib.hid ⟨by rw [← hI.out.eq]; simp, by simp, by simp; omega, by rw [HO.out, hq, Option.map_map]; congr 1; funext x; simp⟩
                have HA := Lib.hid (bA_app u [e])
                have HPL : Hid ((p ++ [92, e]).length = p.length + 1 + 1) := Lib.hid (by simp)
                by_cases e34 : e = 34
                · have g1 : (((S[p.length + 1]'hlt2).toNat : Int) != 34) = false := by rw [hat2, e34]; rfl
                  clear hI hat hq HO hx1 hx2 hpr heq2 hpl1 hat2 ok e34
                  go_wp2_with fail
                  go_round
                  case rel => exact ⟨p ++ [92, e], r, u ++ [e], by rw [HPL.out]; go_num, by rw [HA.out], HN⟩
                  case measure => simp [intOf]; omega
                · have e92 : e = 92 := by rcases ok with h | h; exact absurd h e34; exact h
                  have g1 : (((S[p.length + 1]'hlt2).toNat : Int) != 34) = true := by rw [hat2, e92]; rfl
                  have g2 : (((S[p.length + 1]'hlt2).toNat : Int) != 92) = false := by rw [hat2, e92]; rfl
                  clear hI hat hq HO hx1 hx2 hpr heq2 hpl1 hat2 ok e34 e92
                  go_wp2_with fail
                  go_round
                  case rel => exact ⟨p ++ [92, e], r, u ++ [e], by rw [HPL.out]; go_num, by rw [HA.out], HN⟩
                  case measure => simp [intOf]; omega
              · simp only [if_neg ok] at hq
                have ho : o = none := hq
                subst ho
                have g1 : (((S[p.length + 1]'hlt2).toNat : Int) != 34) = true := by rw [hat2]; simpa using byte_off (d := 34) (fun h => ok (.inl h))
                have g2 : (((S[p.length + 1]'hlt2).toNat : Int) != 92) = true := by rw [hat2]; simpa using byte_off (d := 92) (fun h => ok (.inr h))
                clear hI hat hq HO hx1 hx2 hpr heq2 hpl1 hat2 ok
                go_wp2_with fail
                refine bodyPost_ret (results_pv (x := ⟨[], 0, 0, []⟩) rfl _ _ rfl (CBox.new _ _ _)) rfl ?_
                exact ⟨rfl, below_one _ _⟩
          · rw [if_neg c92] at hq
            have h9 : (((S[p.length]'hlt).toNat : Int) == 92) = false := by rw [hat]; exact byte_off (d := 92) c92
            have HN : Hid (RQInv S t (p ++ [c]) r (u ++ [c])) := Lib.hid ⟨by rw [← hI.out.eq]; simp, by simp, by simp; omega, by rw [HO.out, hq, Option.map_map]; congr 1; funext x; simp⟩
            have HA := Lib.hid (bA_app u [c])
            have hpl : (p ++ [c]).length = p.length + 1 := by simp
            have HPL := Lib.hid hpl
            have s2 : ((p.length : Int) + 1).toNat = p.length + 1 := by omega
            have s3 : (0 : Int) ≤ (p.length : Int) + 1 := by omega
            have s4 : (p.length : Int) + 1 ≤ (S.size : Int) := by omega
            have s6 : (p.length : Int) ≤ (p.length : Int) + 1 := by omega
            clear hI hat hq HO hpl hx2 c34 c92 hpr
            go_wp2_with fail
            go_round
            case rel => exact ⟨p ++ [c], r, u ++ [c], by rw [HPL.out]; go_num, by rw [HA.out], HN⟩
            case measure => simp [intOf]; omega
        · rw [if_neg hpr] at hq
          have ho : o = none := hq
          subst ho
          clear hq hI hx1 hx2
          by_cases h32 : (c.toNat : Int) < 32
          · have hr0 : ((S[p.length]'hlt).toNat : Int) < 32 := by rw [hat]; exact h32
            clear hat
            go_wp2_with fail
            refine bodyPost_ret (results_pv (x := ⟨[], 0, 0, []⟩) rfl _ _ rfl (CBox.new _ _ _)) rfl ?_
            exact ⟨rfl, below_one _ _⟩
          · have hr0 : (32 : Int) ≤ ((S[p.length]'hlt).toNat : Int) := by rw [hat]; omega
            have hr1 : (126 : Int) < ((S[p.length]'hlt).toNat : Int) := by rw [hat]; simp [Sf.prI] at hpr; omega
            clear hat
            go_wp2_with fail
            refine bodyPost_ret (results_pv (x := ⟨[], 0, 0, []⟩) rfl _ _ rfl (CBox.new _ _ _)) rfl ?_
            exact ⟨rfl, below_one _ _⟩
end Go.Proofs.YtgddmihojladfaaGreatDoor

/- The contract of the document's value. -/

namespace Go.Proofs.YtgddmihojladfaaGreatDoor
open Go.RowKit

set_option maxHeartbeats 4000000 in
set_option maxRecDepth 20000 in
theorem rvalue_nil (w : World) : Calls Tryz.prog 72 #[.string (bA [])] w fun e w' => e = .returned (rvalV (Sf.value [])) ∧ Below w.heap.size w w' := by
  go_enter Tryz.func72, Tryz.ntmps72
  go_wp2_with fail
  refine bodyPost_ret (results_pv (x := ⟨[], 0, 0, []⟩) rfl _ _ rfl (CBox.new _ _ _)) rfl ?_
  exact ⟨rfl, below_one _ _⟩
theorem rv_open (o : Option (Sf.Par × List UInt8)) : ∃ (P : Sf.Par) (r : List UInt8) (b : Bool), rvalV o = .tuple #[.agg #[.string (bA P.key), .int .i64 P.kind, .int .i64 P.n, .string (bA P.text)], .string (bA r), .bool b] := by
  cases o with
  | none => exact ⟨⟨[], 0, 0, []⟩, [], false, rfl⟩
  | some x => exact ⟨x.1, x.2, true, rfl⟩
/-- What number answers at a text that begins with a sign or a digit. -/
theorem snumber_any (c : UInt8) (t : List UInt8) (w : World) (hs : t.length < 1000000) : Calls Tryz.prog 88 #[.string (bA (c :: t))] w fun e w' => e = .returned (rvalV (if c = 45 then Sf.num (-1) t else Sf.num 1 (c :: t))) ∧ Below w.heap.size w w' := by
  by_cases h : c = 45
  · rw [if_pos h]
    exact rnumber_neg (bA (c :: t)) (bA t) w (by rw [bA_size]; simp; omega) (by rw [bA_size]; simp) (by rw [head_bA, h]; rfl) (tail_bA c t) (by rw [bA_size]; omega)
  · rw [if_neg h]
    exact rnumber_pos (bA (c :: t)) w (by rw [bA_size]; simp; omega) (by rw [bA_size]; simp) (by rw [head_bA]; exact byte_off (d := 45) h)
set_option maxHeartbeats 4000000 in
set_option maxRecDepth 20000 in
theorem rvalue_num (c : UInt8) (t : List UInt8) (w : World) (hs : t.length < 1000000) (hn : c = 45 ∨ Oct.digitI c.toNat = true) : Calls Tryz.prog 72 #[.string (bA (c :: t))] w fun e w' => e = .returned (rvalV (Sf.value (c :: t))) ∧ Below w.heap.size w w' := by
  obtain ⟨S, hS⟩ : ∃ S, bA (c :: t) = S := ⟨_, rfl⟩
  have hsz : S.size = t.length + 1 := by rw [← hS]; rfl
  have hsl : S.data.toList = c :: t := by rw [← hS]
  have hp : 0 < S.size := by omega
  have h0 : S[0]'hp = c := by subst hS; rfl
  have hl : S.size ≤ 1000000 := by omega
  have he1 : S.toList.isEmpty = false := by rw [Lib.toList_data, hsl]; rfl
  have he2 : ¬ S.toList = [] := by simpa using he1
  have HL : Hid (∀ W : World, Calls Tryz.prog 86 #[.int .u8 ((S[0]'hp).toNat : Int)] W fun e w' => e = .returned (.bool (Oct.letterI c.toNat)) ∧ W = w') := Lib.hid (fun W => by rw [h0]; exact rletter_any _ W)
  have HD : Hid (∀ W : World, Calls Tryz.prog 87 #[.int .u8 ((S[0]'hp).toNat : Int)] W fun e w' => e = .returned (.bool (Oct.digitI c.toNat)) ∧ W = w') := Lib.hid (fun W => by rw [h0]; exact rdigit_any _ W)
  have hv : Sf.value (c :: t) = if c = 45 then Sf.num (-1) t else Sf.num 1 (c :: t) := by
    unfold Sf.value
    simp only
    by_cases h : c = 45
    · rw [if_pos h, if_pos h]
    · rw [if_neg h, if_neg h, if_pos (hn.resolve_left h)]
  have HN : Hid (∀ W : World, Calls Tryz.prog 88 #[.string S] W fun e w' => e = .returned (rvalV (Sf.value (c :: t))) ∧ Below W.heap.size W w') := Lib.hid (fun W => by rw [← hS, hv]; exact snumber_any c t W hs)
  obtain ⟨o, ho⟩ : ∃ o, Sf.value (c :: t) = o := ⟨_, rfl⟩
  rw [ho] at HN ⊢
  rw [hS]
  obtain ⟨P, rr, bb, hrv⟩ := rv_open o
  rw [hrv] at HN ⊢
  have HB := Lib.hid (below_one w (.cells #[.string ⟨#[]⟩, .int .i64 0, .int .i64 0, .string ⟨#[]⟩] 72))
  have HX := Lib.hid (CBox.new w 72 #[.string ⟨#[]⟩, .int .i64 0, .int .i64 0, .string ⟨#[]⟩])
  generalize Oct.letterI c.toNat = la at HL
  by_cases h45 : c = 45
  · have g0 : (((S[0]'hp).toNat : Int) == 45) = true := by rw [h0, h45]; rfl
    generalize Oct.digitI c.toNat = lb at HD
    clear hS hv hsl h0 ho hn h45
    go_enter Tryz.func72, Tryz.ntmps72
    go_wp2_with fail
    refine (HL.out _).mono ?_
    rintro e w1 ⟨rfl, rfl⟩
    go_wp2_with fail
    refine (HD.out _).mono ?_
    rintro e w1 ⟨rfl, rfl⟩
    go_wp2_with fail
    refine (HN.out _).mono ?_
    rintro e w2 ⟨rfl, hb2⟩
    have hbx := HX.out.keep hb2
    obtain ⟨c0, c1, c2, c3, f0, f1, f2, f3⟩ := hbx.all4
    have HBX := Lib.hid hbx
    have HB2 := Lib.hid (HB.out.trans (hb2.mono HB.out.size))
    clear hb2 hbx HN
    go_wp2_with fail
    have hgA := fun (a b c e : Value) => (g_set4 (g_refl w2 (some w.heap.size)) (B := w.heap.size) a b c e (.inr rfl))
    refine bodyPost_ret (results_pv (x := P) rfl _ _ rfl (HBX.out.set4 _ _ _ _)) rfl ?_
    exact ⟨rfl, HB2.out.grown (hgA _ _ _ _) HB2.out.size (fun k hk => by cases hk; exact Nat.le_refl _)⟩
  · have g0 : (((S[0]'hp).toNat : Int) == 45) = false := by rw [h0]; exact byte_off (d := 45) h45
    have hdt := hn.resolve_left h45
    rw [hdt] at HD
    clear hS hv hsl h0 ho hn h45 hdt
    go_enter Tryz.func72, Tryz.ntmps72
    go_wp2_with fail
    refine (HL.out _).mono ?_
    rintro e w1 ⟨rfl, rfl⟩
    go_wp2_with fail
    refine (HD.out _).mono ?_
    rintro e w1 ⟨rfl, rfl⟩
    go_wp2_with fail
    refine (HN.out _).mono ?_
    rintro e w2 ⟨rfl, hb2⟩
    have hbx := HX.out.keep hb2
    obtain ⟨c0, c1, c2, c3, f0, f1, f2, f3⟩ := hbx.all4
    have HBX := Lib.hid hbx
    have HB2 := Lib.hid (HB.out.trans (hb2.mono HB.out.size))
    clear hb2 hbx HN
    go_wp2_with fail
    have hgA := fun (a b c e : Value) => (g_set4 (g_refl w2 (some w.heap.size)) (B := w.heap.size) a b c e (.inr rfl))
    refine bodyPost_ret (results_pv (x := P) rfl _ _ rfl (HBX.out.set4 _ _ _ _)) rfl ?_
    exact ⟨rfl, HB2.out.grown (hgA _ _ _ _) HB2.out.size (fun k hk => by cases hk; exact Nat.le_refl _)⟩
set_option maxHeartbeats 4000000 in
set_option maxRecDepth 20000 in
theorem rvalue_quo (c : UInt8) (t : List UInt8) (w : World) (hs : t.length < 1000000) (n45 : c ≠ 45) (ndg : Oct.digitI c.toNat = false) (h34 : c = 34) : Calls Tryz.prog 72 #[.string (bA (c :: t))] w fun e w' => e = .returned (rvalV (Sf.value (c :: t))) ∧ Below w.heap.size w w' := by
  obtain ⟨S, hS⟩ : ∃ S, bA (c :: t) = S := ⟨_, rfl⟩
  have hsz : S.size = t.length + 1 := by rw [← hS]; rfl
  have hsl : S.data.toList = c :: t := by rw [← hS]
  have hp : 0 < S.size := by omega
  have h0 : S[0]'hp = c := by subst hS; rfl
  have hl : S.size ≤ 1000000 := by omega
  have he1 : S.toList.isEmpty = false := by rw [Lib.toList_data, hsl]; rfl
  have he2 : ¬ S.toList = [] := by simpa using he1
  have HL : Hid (∀ W : World, Calls Tryz.prog 86 #[.int .u8 ((S[0]'hp).toNat : Int)] W fun e w' => e = .returned (.bool (Oct.letterI c.toNat)) ∧ W = w') := Lib.hid (fun W => by rw [h0]; exact rletter_any _ W)
  have HD : Hid (∀ W : World, Calls Tryz.prog 87 #[.int .u8 ((S[0]'hp).toNat : Int)] W fun e w' => e = .returned (.bool (Oct.digitI c.toNat)) ∧ W = w') := Lib.hid (fun W => by rw [h0]; exact rdigit_any _ W)
  have g0 : (((S[0]'hp).toNat : Int) == 45) = false := by rw [h0]; exact byte_off (d := 45) n45
  rw [ndg] at HD
  have hv : Sf.value (c :: t) = quoV (Sf.quo t) := by
    unfold Sf.value
    simp only
    rw [if_neg n45, if_neg (by rw [ndg]; decide), if_pos h34]
    rfl
  have HN : Hid (∀ W : World, Calls Tryz.prog 89 #[.string S] W fun e w' => e = .returned (rvalV (Sf.value (c :: t))) ∧ Below W.heap.size W w') := Lib.hid (fun W => by rw [hv]; exact rquoted_any S t W (by rw [hsl, h34]) hl)
  obtain ⟨o, ho⟩ : ∃ o, Sf.value (c :: t) = o := ⟨_, rfl⟩
  rw [ho] at HN ⊢
  rw [hS]
  obtain ⟨P, rr, bb, hrv⟩ := rv_open o
  rw [hrv] at HN ⊢
  have HB := Lib.hid (below_one w (.cells #[.string ⟨#[]⟩, .int .i64 0, .int .i64 0, .string ⟨#[]⟩] 72))
  have HX := Lib.hid (CBox.new w 72 #[.string ⟨#[]⟩, .int .i64 0, .int .i64 0, .string ⟨#[]⟩])
  generalize Oct.letterI c.toNat = la at HL
  have g1 : (((S[0]'hp).toNat : Int) == 34) = true := by rw [h0, h34]; rfl
  clear hS hv hsl h0 ho n45 ndg h34
  go_enter Tryz.func72, Tryz.ntmps72
  go_wp2_with fail
  refine (HL.out _).mono ?_
  rintro e w1 ⟨rfl, rfl⟩
  go_wp2_with fail
  refine (HD.out _).mono ?_
  rintro e w1 ⟨rfl, rfl⟩
  go_wp2_with fail
  refine (HN.out _).mono ?_
  rintro e w2 ⟨rfl, hb2⟩
  have hbx := HX.out.keep hb2
  obtain ⟨c0, c1, c2, c3, f0, f1, f2, f3⟩ := hbx.all4
  have HBX := Lib.hid hbx
  have HB2 := Lib.hid (HB.out.trans (hb2.mono HB.out.size))
  clear hb2 hbx HN
  go_wp2_with fail
  have hgA := fun (a b c e : Value) => (g_set4 (g_refl w2 (some w.heap.size)) (B := w.heap.size) a b c e (.inr rfl))
  refine bodyPost_ret (results_pv (x := P) rfl _ _ rfl (HBX.out.set4 _ _ _ _)) rfl ?_
  exact ⟨rfl, HB2.out.grown (hgA _ _ _ _) HB2.out.size (fun k hk => by cases hk; exact Nat.le_refl _)⟩
set_option maxHeartbeats 4000000 in
set_option maxRecDepth 20000 in
theorem rvalue_no (c : UInt8) (t : List UInt8) (w : World) (hs : t.length < 1000000) (n45 : c ≠ 45) (ndg : Oct.digitI c.toNat = false) (n34 : c ≠ 34) (nlt : Oct.letterI c.toNat = false) (n42 : c ≠ 42) (n58 : c ≠ 58) (n63 : c ≠ 63) : Calls Tryz.prog 72 #[.string (bA (c :: t))] w fun e w' => e = .returned (rvalV (Sf.value (c :: t))) ∧ Below w.heap.size w w' := by
  obtain ⟨S, hS⟩ : ∃ S, bA (c :: t) = S := ⟨_, rfl⟩
  have hsz : S.size = t.length + 1 := by rw [← hS]; rfl
  have hsl : S.data.toList = c :: t := by rw [← hS]
  have hp : 0 < S.size := by omega
  have h0 : S[0]'hp = c := by subst hS; rfl
  have hl : S.size ≤ 1000000 := by omega
  have he1 : S.toList.isEmpty = false := by rw [Lib.toList_data, hsl]; rfl
  have he2 : ¬ S.toList = [] := by simpa using he1
  have HL : Hid (∀ W : World, Calls Tryz.prog 86 #[.int .u8 ((S[0]'hp).toNat : Int)] W fun e w' => e = .returned (.bool (Oct.letterI c.toNat)) ∧ W = w') := Lib.hid (fun W => by rw [h0]; exact rletter_any _ W)
  have HD : Hid (∀ W : World, Calls Tryz.prog 87 #[.int .u8 ((S[0]'hp).toNat : Int)] W fun e w' => e = .returned (.bool (Oct.digitI c.toNat)) ∧ W = w') := Lib.hid (fun W => by rw [h0]; exact rdigit_any _ W)
  have g0 : (((S[0]'hp).toNat : Int) == 45) = false := by rw [h0]; exact byte_off (d := 45) n45
  rw [ndg] at HD
  have hv : Sf.value (c :: t) = none := by
    unfold Sf.value
    simp only
    rw [if_neg n45, if_neg (by rw [ndg]; decide), if_neg n34, if_neg (by rw [nlt]; simpa using n42), if_neg n58, if_neg n63]
  have g1 : (((S[0]'hp).toNat : Int) == 34) = false := by rw [h0]; exact byte_off (d := 34) n34
  have g2 : (((S[0]'hp).toNat : Int) == 42) = false := by rw [h0]; exact byte_off (d := 42) n42
  rw [nlt] at HL
  have g3 : (((S[0]'hp).toNat : Int) == 58) = false := by rw [h0]; exact byte_off (d := 58) n58
  have g4 : (((S[0]'hp).toNat : Int) == 63) = false := by rw [h0]; exact byte_off (d := 63) n63
  rw [hv, hS]
  clear hS hv hsl h0 n45 ndg n34 nlt n42 n58 n63
  go_enter Tryz.func72, Tryz.ntmps72
  go_wp2_with fail
  refine (HL.out _).mono ?_
  rintro e w1 ⟨rfl, rfl⟩
  go_wp2_with fail
  refine (HD.out _).mono ?_
  rintro e w1 ⟨rfl, rfl⟩
  go_wp2_with fail
  refine bodyPost_ret (results_pv (x := ⟨[], 0, 0, []⟩) rfl _ _ rfl (CBox.new _ _ _)) rfl ?_
  exact ⟨rfl, below_one _ _⟩
end Go.Proofs.YtgddmihojladfaaGreatDoor

/- The contract of the document's value: booleans, tokens, bytes. -/

namespace Go.Proofs.YtgddmihojladfaaGreatDoor
open Go.RowKit

set_option maxHeartbeats 4000000 in
set_option maxRecDepth 20000 in
theorem rvalue_bool (t : List UInt8) (w : World) (hs : t.length < 1000000) : Calls Tryz.prog 72 #[.string (bA (63 :: t))] w fun e w' => e = .returned (rvalV (Sf.value (63 :: t))) ∧ Below w.heap.size w w' := by
  obtain ⟨c, hc⟩ : ∃ c : UInt8, (63 : UInt8) = c := ⟨_, rfl⟩
  have hv : Sf.value (63 :: t) = if t.headD 0 = 48 then some (Sf.kv 6 0 [], t.drop 1) else if t.headD 0 = 49 then some (Sf.kv 6 1 [], t.drop 1) else none := rfl
  have ndg : Oct.digitI c.toNat = false := by rw [← hc]; rfl
  have nlt : Oct.letterI c.toNat = false := by rw [← hc]; rfl
  rw [hv]
  rw [hc] at hv ⊢
  obtain ⟨S, hS⟩ : ∃ S, bA (c :: t) = S := ⟨_, rfl⟩
  have hsz : S.size = t.length + 1 := by rw [← hS]; rfl
  have hsl : S.data.toList = c :: t := by rw [← hS]
  have hp : 0 < S.size := by omega
  have h0 : S[0]'hp = c := by subst hS; rfl
  have hl : S.size ≤ 1000000 := by omega
  have he1 : S.toList.isEmpty = false := by rw [Lib.toList_data, hsl]; rfl
  have he2 : ¬ S.toList = [] := by simpa using he1
  have HL : Hid (∀ W : World, Calls Tryz.prog 86 #[.int .u8 ((S[0]'hp).toNat : Int)] W fun e w' => e = .returned (.bool (Oct.letterI c.toNat)) ∧ W = w') := Lib.hid (fun W => by rw [h0]; exact rletter_any _ W)
  have HD : Hid (∀ W : World, Calls Tryz.prog 87 #[.int .u8 ((S[0]'hp).toNat : Int)] W fun e w' => e = .returned (.bool (Oct.digitI c.toNat)) ∧ W = w') := Lib.hid (fun W => by rw [h0]; exact rdigit_any _ W)
  rw [ndg] at HD
  rw [nlt] at HL
  have g0 : (((S[0]'hp).toNat : Int) == 45) = false := by rw [h0, ← hc]; rfl
  have g1 : (((S[0]'hp).toNat : Int) == 34) = false := by rw [h0, ← hc]; rfl
  have g2 : (((S[0]'hp).toNat : Int) == 42) = false := by rw [h0, ← hc]; rfl
  have g3 : (((S[0]'hp).toNat : Int) == 58) = false := by rw [h0, ← hc]; rfl
  have g4 : (((S[0]'hp).toNat : Int) == 63) = true := by rw [h0, ← hc]; rfl
  rw [hS]
  cases t with
  | nil =>
    have hl2 : (S.size : Int) < 2 := by simp at hsz; omega
    rw [show (if ([] : List UInt8).headD 0 = 48 then some (Sf.kv 6 0 [], ([] : List UInt8).drop 1) else if ([] : List UInt8).headD 0 = 49 then some (Sf.kv 6 1 [], ([] : List UInt8).drop 1) else none) = none from rfl]
    clear hS hv hsl h0 ndg nlt hsz hc
    go_enter Tryz.func72, Tryz.ntmps72
    go_wp2_with fail
    refine (HL.out _).mono ?_
    rintro e w1 ⟨rfl, rfl⟩
    go_wp2_with fail
    refine (HD.out _).mono ?_
    rintro e w1 ⟨rfl, rfl⟩
    go_wp2_with fail
    refine bodyPost_ret (results_pv (x := ⟨[], 0, 0, []⟩) rfl _ _ rfl (CBox.new _ _ _)) rfl ?_
    exact ⟨rfl, below_one _ _⟩
  | cons e r =>
    have hl2 : (2 : Int) ≤ (S.size : Int) := by simp at hsz; omega
    have h1 : 1 < S.size := by omega
    have hat : S[1]'h1 = e := by subst hS; rfl
    have hx2 : S.extract 2 S.size = bA r := by rw [Byt.drop_ext, hsl]; rfl
    rw [show (e :: r).headD 0 = e from rfl, show (e :: r).drop 1 = r from rfl]
    clear hS hv hsl h0 ndg nlt hsz hc
    by_cases e48 : e = 48
    · rw [if_pos e48]
      have k1 : (((S[1]'h1).toNat : Int) != 48) = false := by rw [hat, e48]; rfl
      have k3 : ((S[1]'h1).toNat : Int) = 48 := by rw [hat, e48]; rfl
      clear hat e48
      go_enter Tryz.func72, Tryz.ntmps72
      go_wp2_with fail
      refine (HL.out _).mono ?_
      rintro e w1 ⟨rfl, rfl⟩
      go_wp2_with fail
      refine (HD.out _).mono ?_
      rintro e w1 ⟨rfl, rfl⟩
      go_wp2_with fail
      go_region_with (fail)
      all_goals
        go_wp2_with fail
        refine bodyPost_ret (results_pv (x := Sf.kv 6 0 []) rfl _ _ rfl ((CBox.new _ _ _).drew)) rfl ?_
        exact ⟨rfl, (below_one _ _).drew⟩
    · rw [if_neg e48]
      by_cases e49 : e = 49
      · rw [if_pos e49]
        have k1 : (((S[1]'h1).toNat : Int) != 48) = true := by rw [hat, e49]; rfl
        have k2 : (((S[1]'h1).toNat : Int) != 49) = false := by rw [hat, e49]; rfl
        have k3 : ((S[1]'h1).toNat : Int) = 49 := by rw [hat, e49]; rfl
        clear hat e48 e49
        go_enter Tryz.func72, Tryz.ntmps72
        go_wp2_with fail
        refine (HL.out _).mono ?_
        rintro e w1 ⟨rfl, rfl⟩
        go_wp2_with fail
        refine (HD.out _).mono ?_
        rintro e w1 ⟨rfl, rfl⟩
        go_wp2_with fail
        go_region_with (fail)
        all_goals
          go_wp2_with fail
          refine bodyPost_ret (results_pv (x := Sf.kv 6 1 []) rfl _ _ rfl ((CBox.new _ _ _).drew)) rfl ?_
          exact ⟨rfl, (below_one _ _).drew⟩
      · rw [if_neg e49]
        have k1 : (((S[1]'h1).toNat : Int) != 48) = true := by rw [hat]; simpa using byte_off (d := 48) e48
        have k2 : (((S[1]'h1).toNat : Int) != 49) = true := by rw [hat]; simpa using byte_off (d := 49) e49
        clear hat e48 e49
        go_enter Tryz.func72, Tryz.ntmps72
        go_wp2_with fail
        refine (HL.out _).mono ?_
        rintro e w1 ⟨rfl, rfl⟩
        go_wp2_with fail
        refine (HD.out _).mono ?_
        rintro e w1 ⟨rfl, rfl⟩
        go_wp2_with fail
        refine bodyPost_ret (results_pv (x := ⟨[], 0, 0, []⟩) rfl _ _ rfl (CBox.new _ _ _)) rfl ?_
        exact ⟨rfl, below_one _ _⟩
end Go.Proofs.YtgddmihojladfaaGreatDoor

/- The contract of the document's value: tokens. -/

namespace Go.Proofs.YtgddmihojladfaaGreatDoor
open Go.RowKit

set_option maxRecDepth 100000 in
theorem tok_first {c : UInt8} (h : (Oct.letterI c.toNat || c == 42) = true) : Sf.tokI c.toNat = true := by
  have hc : ∀ n : Fin 256, (Oct.letterI (n.val : Int) || decide (n.val = 42)) = true → Sf.tokI (n.val : Int) = true := by decide
  have h2 : (c == 42) = decide (c.toNat = 42) := by
    rw [Bool.eq_iff_iff]; simp
    exact ⟨fun e => by rw [e]; rfl, fun e => UInt8.toNat_inj.1 e⟩
  rw [h2] at h
  exact hc ⟨c.toNat, UInt8.toNat_lt c⟩ h
set_option maxHeartbeats 4000000 in
set_option maxRecDepth 20000 in
theorem rvalue_tok (c : UInt8) (t : List UInt8) (w : World) (hs : t.length < 1000000) (n45 : c ≠ 45) (ndg : Oct.digitI c.toNat = false) (n34 : c ≠ 34) (htk : (Oct.letterI c.toNat || c == 42) = true) : Calls Tryz.prog 72 #[.string (bA (c :: t))] w fun e w' => e = .returned (rvalV (Sf.value (c :: t))) ∧ Below w.heap.size w w' := by
  obtain ⟨S, hS⟩ : ∃ S, bA (c :: t) = S := ⟨_, rfl⟩
  have hsz : S.size = t.length + 1 := by rw [← hS]; rfl
  have hsl : S.data.toList = c :: t := by rw [← hS]
  have hp : 0 < S.size := by omega
  have h0 : S[0]'hp = c := by subst hS; rfl
  have hl : S.size ≤ 1000000 := by omega
  have he1 : S.toList.isEmpty = false := by rw [Lib.toList_data, hsl]; rfl
  have he2 : ¬ S.toList = [] := by simpa using he1
  have HL : Hid (∀ W : World, Calls Tryz.prog 86 #[.int .u8 ((S[0]'hp).toNat : Int)] W fun e w' => e = .returned (.bool (Oct.letterI c.toNat)) ∧ W = w') := Lib.hid (fun W => by rw [h0]; exact rletter_any _ W)
  have HD : Hid (∀ W : World, Calls Tryz.prog 87 #[.int .u8 ((S[0]'hp).toNat : Int)] W fun e w' => e = .returned (.bool (Oct.digitI c.toNat)) ∧ W = w') := Lib.hid (fun W => by rw [h0]; exact rdigit_any _ W)
  have hv : Sf.value (c :: t) = some (Sf.kv 4 0 (c :: Sf.tw Sf.tokI t), Sf.dw Sf.tokI t) := by
    unfold Sf.value
    simp only
    rw [if_neg n45, if_neg (by rw [ndg]; decide), if_neg n34, if_pos htk]
  have hk := tok_first htk
  have htw : Sf.tw Sf.tokI S.data.toList = c :: Sf.tw Sf.tokI t := by rw [hsl]; exact List.takeWhile_cons_of_pos (by exact hk)
  have hdw : Sf.dw Sf.tokI S.data.toList = Sf.dw Sf.tokI t := by rw [hsl]; exact List.dropWhile_cons_of_pos (by exact hk)
  rw [hv, ← htw, ← hdw]
  obtain ⟨kk, hkk⟩ : ∃ kk, Sf.tw Sf.tokI S.data.toList = kk := ⟨_, rfl⟩
  obtain ⟨rr, hrr⟩ : ∃ rr, Sf.dw Sf.tokI S.data.toList = rr := ⟨_, rfl⟩
  rw [hkk, hrr, hS]
  have HKK := Lib.hid hkk; have HRR := Lib.hid hrr
  have H0 : Hid (Oct.allB Sf.tokI (S.data.toList.take (0 + 1)) = true) := Lib.hid (Oct.allB_next _ S 0 hp rfl (by rw [h0]; exact hk))
  rw [ndg] at HD
  have g0 : (((S[0]'hp).toNat : Int) == 45) = false := by rw [h0]; exact byte_off (d := 45) n45
  have g1 : (((S[0]'hp).toNat : Int) == 34) = false := by rw [h0]; exact byte_off (d := 34) n34
  obtain ⟨la, hla⟩ : ∃ la, Oct.letterI c.toNat = la := ⟨_, rfl⟩
  rw [hla] at HL htk
  have HR2 := Lib.hid (fun (x : Int) (W : World) => rtokens_any x W)
  cases la with
  | true =>
    clear hS hv hsl h0 n45 ndg n34 hk htw hdw hkk hrr hla htk hsz
    go_enter Tryz.func72, Tryz.ntmps72
    go_wp2_with fail
    refine (HL.out _).mono ?_
    rintro e w1 ⟨rfl, rfl⟩
    go_wp2_with fail
    refine (HD.out _).mono ?_
    rintro e w1 ⟨rfl, rfl⟩
    go_wp2_with fail
    go_loop [7] (fun v => ∃ k : Nat, k ≤ S.size ∧ v = .int .i64 k ∧ Hid (Oct.allB Sf.tokI (S.data.toList.take k) = true)) (fun v => S.size - (intOf v).toNat)
    case atStart => exact ⟨1, by omega, rfl, H0⟩
    case round =>
      obtain ⟨k, hk, rfl, hin⟩ := hrel
      by_cases hlt : k < S.size
      · cases hlk : Sf.tokI S[k].toNat with
        | true =>
          have HT : Hid (∀ W : World, Calls Tryz.prog 90 #[.int .u8 (S[k].toNat : Int)] W fun e w' => e = .returned (.bool true) ∧ W = w') := Lib.hid (fun W => by have := HR2.out (S[k].toNat : Int) W; rw [hlk] at this; exact this)
          have HN := Lib.hid hlk
          clear hlk
          go_wp2_with (go_at_call 90; refine (HT.out _).mono ?_; rintro e w' ⟨rfl, rfl⟩)
          go_round
          case rel => exact ⟨k + 1, by omega, by go_num, Oct.allB_next _ S k hlt hin.out HN.out⟩
          case measure => simp [intOf]; omega
        | false =>
          have HT : Hid (∀ W : World, Calls Tryz.prog 90 #[.int .u8 (S[k].toNat : Int)] W fun e w' => e = .returned (.bool false) ∧ W = w') := Lib.hid (fun W => by have := HR2.out (S[k].toNat : Int) W; rw [hlk] at this; exact this)
          have hh := tw_hit _ S k hlt hin.out hlk
          have hx1 : S.extract 0 k = bA kk := by rw [Byt.take_ext, ← hh.1, HKK.out]
          have hx2 : S.extract k S.size = bA rr := by rw [Byt.drop_ext, ← hh.2, HRR.out]
          clear hlk hh
          go_wp2_with (go_at_call 90; refine (HT.out _).mono ?_; rintro e w' ⟨rfl, rfl⟩)
          go_region_with (fail)
          all_goals
            go_wp2_with fail
            refine bodyPost_ret (results_pv (x := Sf.kv 4 0 kk) rfl _ _ rfl ((CBox.new _ _ _).drew)) rfl ?_
            exact ⟨rfl, (below_one _ _).drew⟩
      · have hh := tw_end _ S k (by omega) hin.out
        have ek : k = S.size := by omega
        subst ek
        have ekk : S = bA kk := by rw [← HKK.out, hh.1]
        have err : rr = [] := by rw [← HRR.out, hh.2]
        subst err
        have HE := Lib.hid ekk
        clear hh ekk
        go_wp2_with fail
        go_region_with (fail)
        all_goals
          go_wp2_with fail
          refine bodyPost_ret (results_pv (x := Sf.kv 4 0 S.data.toList) rfl _ _ rfl ((CBox.new _ _ _).drew)) rfl ?_
          refine ⟨?_, (below_one _ _).drew⟩
          have : kk = S.data.toList := by rw [HE.out]
          rw [this]
          rfl
  | false =>
    have g2 : (((S[0]'hp).toNat : Int) == 42) = true := by
      have : c = 42 := by simpa using htk
      rw [h0, this]; rfl
    clear hS hv hsl h0 n45 ndg n34 hk htw hdw hkk hrr hla htk hsz
    go_enter Tryz.func72, Tryz.ntmps72
    go_wp2_with fail
    refine (HL.out _).mono ?_
    rintro e w1 ⟨rfl, rfl⟩
    go_wp2_with fail
    refine (HD.out _).mono ?_
    rintro e w1 ⟨rfl, rfl⟩
    go_wp2_with fail
    go_loop [7] (fun v => ∃ k : Nat, k ≤ S.size ∧ v = .int .i64 k ∧ Hid (Oct.allB Sf.tokI (S.data.toList.take k) = true)) (fun v => S.size - (intOf v).toNat)
    case atStart => exact ⟨1, by omega, rfl, H0⟩
    case round =>
      obtain ⟨k, hk, rfl, hin⟩ := hrel
      by_cases hlt : k < S.size
      · cases hlk : Sf.tokI S[k].toNat with
        | true =>
          have HT : Hid (∀ W : World, Calls Tryz.prog 90 #[.int .u8 (S[k].toNat : Int)] W fun e w' => e = .returned (.bool true) ∧ W = w') := Lib.hid (fun W => by have := HR2.out (S[k].toNat : Int) W; rw [hlk] at this; exact this)
          have HN := Lib.hid hlk
          clear hlk
          go_wp2_with (go_at_call 90; refine (HT.out _).mono ?_; rintro e w' ⟨rfl, rfl⟩)
          go_round
          case rel => exact ⟨k + 1, by omega, by go_num, Oct.allB_next _ S k hlt hin.out HN.out⟩
          case measure => simp [intOf]; omega
        | false =>
          have HT : Hid (∀ W : World, Calls Tryz.prog 90 #[.int .u8 (S[k].toNat : Int)] W fun e w' => e = .returned (.bool false) ∧ W = w') := Lib.hid (fun W => by have := HR2.out (S[k].toNat : Int) W; rw [hlk] at this; exact this)
          have hh := tw_hit _ S k hlt hin.out hlk
          have hx1 : S.extract 0 k = bA kk := by rw [Byt.take_ext, ← hh.1, HKK.out]
          have hx2 : S.extract k S.size = bA rr := by rw [Byt.drop_ext, ← hh.2, HRR.out]
          clear hlk hh
          go_wp2_with (go_at_call 90; refine (HT.out _).mono ?_; rintro e w' ⟨rfl, rfl⟩)
          go_region_with (fail)
          all_goals
            go_wp2_with fail
            refine bodyPost_ret (results_pv (x := Sf.kv 4 0 kk) rfl _ _ rfl ((CBox.new _ _ _).drew)) rfl ?_
            exact ⟨rfl, (below_one _ _).drew⟩
      · have hh := tw_end _ S k (by omega) hin.out
        have ek : k = S.size := by omega
        subst ek
        have ekk : S = bA kk := by rw [← HKK.out, hh.1]
        have err : rr = [] := by rw [← HRR.out, hh.2]
        subst err
        have HE := Lib.hid ekk
        clear hh ekk
        go_wp2_with fail
        go_region_with (fail)
        all_goals
          go_wp2_with fail
          refine bodyPost_ret (results_pv (x := Sf.kv 4 0 S.data.toList) rfl _ _ rfl ((CBox.new _ _ _).drew)) rfl ?_
          refine ⟨?_, (below_one _ _).drew⟩
          have : kk = S.data.toList := by rw [HE.out]
          rw [this]
          rfl
end Go.Proofs.YtgddmihojladfaaGreatDoor

/- The contract of the document's value: bytes; and as a whole. -/

namespace Go.Proofs.YtgddmihojladfaaGreatDoor
open Go.RowKit

theorem tw_at {q : Int → Bool} {p r : List UInt8} {e : UInt8} (ha : Oct.allB q p = true) (he : q e.toNat = false) : Sf.tw q (p ++ e :: r) = p ∧ Sf.dw q (p ++ e :: r) = e :: r := by
  have ha' : ∀ b ∈ p, (fun b : UInt8 => q b.toNat) b = true := List.all_eq_true.1 ha
  unfold Sf.tw Sf.dw
  rw [List.takeWhile_append_of_pos ha', List.dropWhile_append_of_pos ha', List.takeWhile_cons_of_neg (by simp [he]), List.dropWhile_cons_of_neg (by simp [he])]
  simp
theorem dw_fin {q : Int → Bool} {p : List UInt8} (ha : Oct.allB q p = true) : Sf.dw q p = [] := by
  have ha' : ∀ b ∈ p, (fun b : UInt8 => q b.toNat) b = true := List.all_eq_true.1 ha
  have := List.dropWhile_append_of_pos (l₁ := p) (l₂ := []) ha'
  simpa [Sf.dw] using this
set_option maxHeartbeats 4000000 in
set_option maxRecDepth 20000 in
theorem rvalue_bytes (t : List UInt8) (w : World) (hs : t.length < 1000000) : Calls Tryz.prog 72 #[.string (bA (58 :: t))] w fun e w' => e = .returned (rvalV (Sf.value (58 :: t))) ∧ Below w.heap.size w w' := by
  obtain ⟨c, hc⟩ : ∃ c : UInt8, (58 : UInt8) = c := ⟨_, rfl⟩
  have hv : Sf.value (58 :: t) = if (Sf.dw Sf.baseI t).headD 0 = 58 then some (Sf.kv 5 0 (Sf.tw Sf.baseI t), (Sf.dw Sf.baseI t).drop 1) else none := rfl
  have ndg : Oct.digitI c.toNat = false := by rw [← hc]; rfl
  have nlt : Oct.letterI c.toNat = false := by rw [← hc]; rfl
  obtain ⟨o, ho⟩ : ∃ o, Sf.value (58 :: t) = o := ⟨_, rfl⟩
  rw [ho] at hv ⊢
  have HV := Lib.hid hv
  rw [hc]
  obtain ⟨S, hS⟩ : ∃ S, bA (c :: t) = S := ⟨_, rfl⟩
  have hsz : S.size = t.length + 1 := by rw [← hS]; rfl
  have hsl : S.data.toList = c :: t := by rw [← hS]
  have hp : 0 < S.size := by omega
  have h0 : S[0]'hp = c := by subst hS; rfl
  have hl : S.size ≤ 1000000 := by omega
  have he1 : S.toList.isEmpty = false := by rw [Lib.toList_data, hsl]; rfl
  have he2 : ¬ S.toList = [] := by simpa using he1
  have HL : Hid (∀ W : World, Calls Tryz.prog 86 #[.int .u8 ((S[0]'hp).toNat : Int)] W fun e w' => e = .returned (.bool (Oct.letterI c.toNat)) ∧ W = w') := Lib.hid (fun W => by rw [h0]; exact rletter_any _ W)
  have HD : Hid (∀ W : World, Calls Tryz.prog 87 #[.int .u8 ((S[0]'hp).toNat : Int)] W fun e w' => e = .returned (.bool (Oct.digitI c.toNat)) ∧ W = w') := Lib.hid (fun W => by rw [h0]; exact rdigit_any _ W)
  rw [ndg] at HD
  rw [nlt] at HL
  have g0 : (((S[0]'hp).toNat : Int) == 45) = false := by rw [h0, ← hc]; rfl
  have g1 : (((S[0]'hp).toNat : Int) == 34) = false := by rw [h0, ← hc]; rfl
  have g2 : (((S[0]'hp).toNat : Int) == 42) = false := by rw [h0, ← hc]; rfl
  have g3 : (((S[0]'hp).toNat : Int) == 58) = true := by rw [h0, ← hc]; rfl
  rw [hS]
  have HS := Lib.hid hsl
  have HR2 := Lib.hid (fun (x : Int) (W : World) => rbase_any x W)
  clear hS hv hsl h0 ndg nlt hsz hc ho
  go_enter Tryz.func72, Tryz.ntmps72
  go_wp2_with fail
  refine (HL.out _).mono ?_
  rintro e w1 ⟨rfl, rfl⟩
  go_wp2_with fail
  refine (HD.out _).mono ?_
  rintro e w1 ⟨rfl, rfl⟩
  go_wp2_with fail
  go_loop [8] (fun v => ∃ (k : Nat) (p r : List UInt8), v = .int .i64 k ∧ Hid (k = (c :: p).length ∧ p ++ r = t ∧ Oct.allB Sf.baseI p = true)) (fun v => S.size - (intOf v).toNat)
  case atStart => exact ⟨1, [], t, rfl, ⟨rfl, rfl, rfl⟩⟩
  case round =>
    obtain ⟨k, p, r, rfl, hI⟩ := hrel
    have heq : (c :: p) ++ r = S.data.toList := by rw [HS.out, ← hI.out.2.1]; rfl
    have hsz := size_of heq
    rw [← hI.out.1] at hsz
    cases r with
    | nil =>
      have hn : o = none := by
        rw [HV.out, ← hI.out.2.1, List.append_nil, dw_fin hI.out.2.2]; rfl
      subst hn
      have hd : ¬ k < S.size := by simp at hsz; omega
      have he : ((k : Int) == (S.size : Int)) = true := by simp at hsz; simp; omega
      clear hsz heq hI HV
      go_wp2_with fail
      refine bodyPost_ret (results_pv (x := ⟨[], 0, 0, []⟩) rfl _ _ rfl (CBox.new _ _ _)) rfl ?_
      exact ⟨rfl, below_one _ _⟩
    | cons e r =>
      have hlt : k < S.size := by rw [hsz]; simp
      have hat : S[k]'hlt = e := by have := at_r' heq (by rw [← hI.out.1]; exact hlt); simpa [← hI.out.1] using this
      have he : ((k : Int) == (S.size : Int)) = false := by simp; omega
      cases hb : Sf.baseI e.toNat with
      | true =>
        have HT : Hid (∀ W : World, Calls Tryz.prog 91 #[.int .u8 (S[k].toNat : Int)] W fun e w' => e = .returned (.bool true) ∧ W = w') := Lib.hid (fun W => by have := HR2.out (S[k].toNat : Int) W; rw [hat, hb] at this; rw [hat]; exact this)
        have HN : Hid (k + 1 = (c :: (p ++ [e])).length ∧ (p ++ [e]) ++ r = t ∧ Oct.allB Sf.baseI (p ++ [e]) = true) := Lib.hid ⟨by rw [hI.out.1]; simp, by rw [← hI.out.2.1]; simp, by rw [Sf.allB_app, hI.out.2.2]; simp [Oct.allB, hb]⟩
        clear hsz heq hI HV hat hb HR2
        go_wp2_with (go_at_call 91; refine (HT.out _).mono ?_; rintro e w' ⟨rfl, rfl⟩)
        go_round
        case rel => exact ⟨k + 1, p ++ [e], r, by go_num, HN⟩
        case measure => simp [intOf]; omega
      | false =>
        have HT : Hid (∀ W : World, Calls Tryz.prog 91 #[.int .u8 (S[k].toNat : Int)] W fun e w' => e = .returned (.bool false) ∧ W = w') := Lib.hid (fun W => by have := HR2.out (S[k].toNat : Int) W; rw [hat, hb] at this; rw [hat]; exact this)
        obtain ⟨q1, q2⟩ := tw_at (r := r) hI.out.2.2 hb
        have hv := HV.out
        rw [← hI.out.2.1, q1, q2] at hv
        by_cases e58 : e = 58
        · have ho : o = some (Sf.kv 5 0 p, r) := by rw [hv, if_pos (by exact e58)]; rfl
          subst ho
          have k1 : (((S[k]'hlt).toNat : Int) != 58) = false := by rw [hat, e58]; rfl
          have hx1 : S.extract 1 k = bA p := by
            rw [Lib.extract_eq, ← heq, hI.out.1]; simp
          have hx2 : S.extract (k + 1) S.size = bA r := by have := ext_s' heq; rwa [← hI.out.1] at this
          have k0 : 1 ≤ k := by rw [hI.out.1]; simp
          have s1 : IntKind.i64.wrap ((k : Int) + 1) = (k : Int) + 1 := IntWalk.i64_in _ (by omega)
          have s2 : ((k : Int) + 1).toNat = k + 1 := by omega
          have s3 : (0 : Int) ≤ (k : Int) + 1 := by omega
          have s4 : (k : Int) + 1 ≤ (S.size : Int) := by omega
          have s5 : (1 : Int) ≤ (k : Int) := by omega
          have s6 : (k : Int) ≤ (S.size : Int) := by omega
          clear hsz heq hI HV hat hb HR2 q1 q2 hv e58
          go_wp2_with (go_at_call 91; refine (HT.out _).mono ?_; rintro e w' ⟨rfl, rfl⟩)
          go_region_with (fail)
          all_goals
            go_wp2_with fail
            refine bodyPost_ret (results_pv (x := Sf.kv 5 0 p) rfl _ _ rfl ((CBox.new _ _ _).drew)) rfl ?_
            exact ⟨rfl, (below_one _ _).drew⟩
        · have ho : o = none := by rw [hv, if_neg (by exact e58)]
          subst ho
          have k1 : (((S[k]'hlt).toNat : Int) != 58) = true := by rw [hat]; simpa using byte_off (d := 58) e58
          clear hsz heq hI HV hat hb HR2 q1 q2 hv e58
          go_wp2_with (go_at_call 91; refine (HT.out _).mono ?_; rintro e w' ⟨rfl, rfl⟩)
          refine bodyPost_ret (results_pv (x := ⟨[], 0, 0, []⟩) rfl _ _ rfl (CBox.new _ _ _)) rfl ?_
          exact ⟨rfl, below_one _ _⟩
theorem rvalue_all (s : List UInt8) (w : World) (hs : s.length ≤ 1000000) : Calls Tryz.prog 72 #[.string (bA s)] w fun e w' => e = .returned (rvalV (Sf.value s)) ∧ Below w.heap.size w w' := by
  cases s with
  | nil => exact rvalue_nil w
  | cons c t =>
    simp only [List.length_cons] at hs
    have hs' : t.length < 1000000 := by omega
    by_cases h1 : c = 45 ∨ Oct.digitI c.toNat = true
    · exact rvalue_num c t w hs' h1
    · have n45 : c ≠ 45 := fun h => h1 (.inl h)
      have ndg : Oct.digitI c.toNat = false := by simpa using fun h => h1 (.inr h)
      by_cases h34 : c = 34
      · exact rvalue_quo c t w hs' n45 ndg h34
      by_cases htk : (Oct.letterI c.toNat || c == 42) = true
      · exact rvalue_tok c t w hs' n45 ndg h34 htk
      have htk' : (Oct.letterI c.toNat || c == 42) = false := by simpa using htk
      simp only [Bool.or_eq_false_iff] at htk'
      by_cases h58 : c = 58
      · subst h58; exact rvalue_bytes t w hs'
      by_cases h63 : c = 63
      · subst h63; exact rvalue_bool t w hs'
      exact rvalue_no c t w hs' n45 ndg h34 htk'.1 (by simpa using htk'.2) h58 h63
end Go.Proofs.YtgddmihojladfaaGreatDoor
