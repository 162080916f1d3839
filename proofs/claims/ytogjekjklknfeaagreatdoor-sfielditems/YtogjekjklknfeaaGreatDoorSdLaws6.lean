/- The walk of SfieldItems. (Written by mkit.py.) -/
import Derived.Test.YtogjekjklknfeaaGreatDoorSdSize
import Derived.Test.YtogjekjklknfeaaGreatDoorSdLaws1
namespace Go.Proofs.YtogjekjklknfeaaGreatDoor
open Go.RowKit Go.Shelf Go.Maps Go.Deep

theorem add_runI (a b c : List UInt8) (h : a.length + b.length ≤ 9000000000000000000) (hc : a ++ b = c) (W : World) : (Op.stringOp .add (bA a) (bA b)).run Tryz.prog W = .ok (.string (bA c)) W := by
  rw [run_string_add_sum W (bA a) (bA b) (by rw [bA_size, bA_size]; omega), bA_app, hc]
theorem flat_size (k : Nat) : ∀ (l : List Sf.Itm), (∀ x ∈ l, (Sf.itxt x).length ≤ k) → (l.flatMap fun x => 32 :: Sf.itxt x).length ≤ l.length * (k + 1)
  | [], _ => by simp
  | x :: l, h => by
    have h1 := h x (by simp)
    have h2 := flat_size k l (fun y hy => h y (by simp [hy]))
    simp only [List.flatMap_cons, List.length_append, List.length_cons, Nat.add_mul, Nat.one_mul]; omega
structure ItI (w : World) (l : List Sf.Itm) (j : Nat) (wr : World) (t : List UInt8) (b : Bool) : Prop where
  jl : j ≤ l.length
  below : Below w.heap.size w wr
  eq : t = 40 :: (l.take j).flatMap fun x => 32 :: Sf.itxt x
  all : b = (l.take j).all fun x => (Sf.text x).isSome
theorem ItI.len {w wr : World} {l : List Sf.Itm} {j : Nat} {t : List UInt8} {b : Bool} (h : ItI w l j wr t b) (hl : l.length ≤ 20) (hS : ∀ x ∈ l, SmallI x.kind x.n x.text x.params) : t.length ≤ 20000000000 := by
  have h1 := flat_size 700000000 (l.take j) (fun x hx => itxt_size (hS x (List.mem_of_mem_take hx)))
  have h2 : (l.take j).length * (700000000 + 1) ≤ 20 * (700000000 + 1) := Nat.mul_le_mul (by rw [List.length_take]; omega) (Nat.le_refl _)
  rw [h.eq, List.length_cons]; omega
theorem ItI.next {w wr w1 : World} {l : List Sf.Itm} {j : Nat} {t X T1 T2 : List UInt8} {b q : Bool} (h : ItI w l j wr t b) (hj : j < l.length) (hb : Below wr.heap.size wr w1) (hX : Sf.itxt l[j] = X) (h1 : t ++ [32] = T1) (h2 : T1 ++ X = T2) (hq : (Sf.text l[j]).isSome = q) : ItI w l (j + 1) w1 T2 (b && q) := by
  refine ⟨hj, onto h.below hb, ?_, ?_⟩
  · rw [← h2, ← h1, h.eq, List.take_succ_eq_append_getElem hj, List.flatMap_append, ← hX]; simp
  · rw [List.take_succ_eq_append_getElem hj, List.all_append, h.all, ← hq]; simp
theorem items_text (l : List Sf.Itm) (p : List Sf.Par) : (Sf.textL false [⟨[], true, Sf.zItm, l, p⟩]).isSome = (l.all (fun x => (Sf.text x).isSome) && (Sf.tailF [] p).isSome) := by
  rw [textL_list]; unfold jnx
  have h : ([⟨[], true, Sf.zItm, l, p⟩] : List Sf.Mem).all (Sf.okE false) = (l.all (fun x => (Sf.text x).isSome) && (Sf.tailF [] p).isSome) := by
    rw [← Sf.okM_inner]; simp [Sf.okE]
  rw [h]
  cases (l.all (fun x => (Sf.text x).isSome) && (Sf.tailF [] p).isSome) <;> rfl
theorem tv_yes {o : Option (List UInt8)} (h : o.isSome = true) : ∃ X, o = some X ∧ textV o = .tuple #[.string (bA X), .int .i64 0] := by
  obtain ⟨X, rfl⟩ := Option.isSome_iff_exists.1 h
  exact ⟨X, rfl, rfl⟩
theorem tv_no {o : Option (List UInt8)} (h : o.isSome = false) : textV o = .tuple #[.string (bA []), .int .i64 50] := by
  cases o with
  | none => rfl
  | some a => cases h
theorem tv_len {p : List Sf.Par} (hs : SmallL p) : ∀ u, Sf.tailF [] p = some u → u.length ≤ 600000000 := fun u hu => by
  have h1 := T_size (l := p) (by rw [hu]; rfl) hs
  rw [Sf.tail_vld (Sf.tail_some (by rw [hu]; rfl))] at hu
  cases hu; exact h1
theorem items_read {l : List Sf.Itm} {p : List Sf.Par} {t u Z1 Z : List UInt8} (ht : t = 40 :: l.flatMap fun x => 32 :: Sf.itxt x) (ha : l.all (fun x => (Sf.text x).isSome) = true) (hu : Sf.tailF [] p = some u) (h1 : t ++ [32, 32, 41] = Z1) (h2 : Z1 ++ u = Z) (hl : t.length + u.length ≤ 3900) : Sf.readL false Z = some [⟨[], true, Sf.zItm, l, p⟩] := by
  have hv := Sf.tail_some (p := p) (by rw [hu]; rfl)
  rw [Sf.tail_vld hv] at hu
  cases hu
  have e : Z = 40 :: ((l.flatMap fun x => 32 :: Sf.itxt x) ++ ([32, 32] ++ 41 :: Sf.T p)) := by rw [← h2, ← h1, ht]; simp
  have hn : Z.length ≤ 4000 := by rw [← h2, ← h1]; simp only [List.length_append, List.length_cons, List.length_nil]; omega
  rw [e] at hn ⊢
  exact Sf.read_items (fun x hx => List.all_eq_true.1 ha x hx) hv hn
set_option maxHeartbeats 8000000 in
set_option maxRecDepth 100000 in
theorem walk_SfieldItems (A : Option Addr) (c : Nat) (l : List Sf.Itm) (B : Option Addr) (d : Nat) (p : List Sf.Par) (w : World) (hA : SI w (.slice A l.length c) l) (hAe : ∀ x ∈ l, WX x) (hB : SV w (.slice B p.length d) p) (hBe : ∀ q ∈ p, okN q.n) (hT : Tab w) (hM : TabM w) :
    Calls Tryz.prog 8 #[.slice A l.length c, .slice B p.length d] w fun e w' => e = .returned (.bool true) ∧ Below w.heap.size w w' := by
  have H0 := Lib.hid (awake_sf w hT hM)
  have HT := Lib.hid hT; have HM := Lib.hid hM; have HA := Lib.hid hA; have HB := Lib.hid hB
  have hwm : ∀ m ∈ ([⟨[], true, Sf.zItm, l, p⟩] : List Sf.Mem), WM m := fun m hm => by
    rw [List.mem_singleton.1 hm]
    exact ⟨by simp [maxLen], ⟨(show okN 0 from And.intro (by decide) (by decide)), by simp [Sf.zItm, maxLen], by simp [Sf.zItm]⟩, hAe, hBe⟩
  have HQ := Lib.hid (fun (W : World) (hb : Below w.heap.size w W) => seen_one (m := ⟨[], true, Sf.zItm, l, p⟩) (SM.mk (SV.nil W) (hA.below hb) (hB.below hb)))
  have HF := Lib.hid (fun (W : World) (hb : Below w.heap.size w W) => few_sf (some ⟨W.heap.size, 0, none⟩) 1 [⟨[], true, Sf.zItm, l, p⟩] _ (HQ.out W hb) (by simp [maxLen]))
  have hln := hA.len
  unfold maxLen at hln
  cases hf : fewM [⟨[], true, Sf.zItm, l, p⟩] with
  | false =>
    rw [hf] at HF
    unfold mC Sf.zItm at HF
    clear hf hA hB hT hM hwm
    go_enter Tryz.func8, Tryz.ntmps8
    go_wp2_with fail
    refine H0.out.mono ?_
    rintro e w1 ⟨rfl, hb1⟩
    have HB1 := Lib.hid hb1
    clear hb1 H0
    go_wp2_with fail
    refine (HF.out _ HB1.out).mono ?_
    rintro e w2 ⟨rfl, hb2⟩
    have HB2 := Lib.hid (onto HB1.out (onto (below_one _ _) hb2))
    clear hb2 HF
    go_wp2_with fail
    go_ret
    exact ⟨rfl, HB2.out⟩
  | true =>
    obtain ⟨h1l, hs⟩ := few_small hf hwm
    have hsm := (hs ⟨[], true, Sf.zItm, l, p⟩ (by simp)).1
    have HSM := Lib.hid hsm
    have HLT := Lib.hid (fun (a : Option Addr) (W : World) (hq : SeenM W a [⟨[], true, Sf.zItm, l, p⟩]) (ht : Tab W) (hm : TabM W) => listText_any a 1 [⟨[], true, Sf.zItm, l, p⟩] W hq (by simp) (fun m hm => (hs m hm).1) (fun h => jn_small h h1l hs) ht hm)
    have htx := items_text l p
    obtain ⟨oL, hoL⟩ : ∃ o, Sf.textL false [⟨[], true, Sf.zItm, l, p⟩] = o := ⟨_, rfl⟩
    rw [hoL] at HLT htx
    have HTX := Lib.hid htx
    rw [hf] at HF
    unfold mC Sf.zItm at HF
    unfold mC at HQ
    clear hf hA hB hT hM hwm h1l hs hsm htx hoL
    by_cases h20 : l.length ≤ 20
    · have h20' : (l.length : Int) ≤ 20 := by omega
      go_enter Tryz.func8, Tryz.ntmps8
      go_wp2_with fail
      refine H0.out.mono ?_
      rintro e w1 ⟨rfl, hb1⟩
      have HB1 := Lib.hid hb1
      have HR := HQ.out w1 hb1
      clear hb1 H0 HQ
      go_wp2_with fail
      refine (HF.out _ HB1.out).mono ?_
      rintro e w2 ⟨rfl, hb2⟩
      have HB2 := Lib.hid (onto HB1.out (onto (below_one _ _) hb2))
      have HR2 := Lib.hid (HR.below (by unfold Sf.zItm; exact hb2))
      clear hb2 HF HR HB1
      have HS0 : Hid (ItI w2 l 0 w2 [40] true) := Lib.hid ⟨Nat.zero_le _, Below.refl _ _, by simp, by simp⟩
      go_wp2_with fail
      go_loopg [8, 9, 10] l.length (fun k v u i wr => ∃ j t b, l.length - j = k ∧ i = .int .i64 ((j : Nat) : Int) ∧ v = .string (bA t) ∧ u = .bool b ∧ ItI w2 l j wr t b)
      case atStart => exact ⟨0, [40], true, rfl, rfl, rfl, rfl, HS0.out⟩
      case round =>
        obtain ⟨j, t, b, hk, rfl, rfl, rfl, hI⟩ := hrel
        have HV := Lib.hid hI
        have hjl := hI.jl
        have htl := hI.len h20 HSM.out.each
        clear hI HS0
        by_cases hj : j < l.length
        · obtain ⟨A9, d9, e9, hse⟩ := HA.out.is
          injection e9 with e91 e92 e93
          subst e91
          clear e92 e93 d9
          obtain ⟨g, of, rfl, hab, hcell⟩ := (SeenI.below hse (onto HB2.out HV.out.below)) (by omega)
          obtain ⟨vx, hvx, d0, d1, d2, d3⟩ := hcell j hj
          obtain ⟨x, hx⟩ : ∃ x, l[j] = x := ⟨_, rfl⟩
          have hsx : SmallI x.kind x.n x.text x.params := by rw [← hx]; exact HSM.out.each _ (List.getElem_mem hj)
          rw [hx] at hvx d0 d1 d2
          obtain ⟨Bx, pB, rfl, hsB⟩ := hvx.is
          have HX := Lib.hid hx
          have h1 := text_any x.kind x.n x.text Bx pB x.params wr hsx hsB (HT.out.below (onto HB2.out HV.out.below)) (HM.out.below (onto HB2.out HV.out.below))
          have hxl : (Sf.itxt x).length ≤ 700000000 := itxt_size hsx
          have e0 : (⟨x.kind, x.n, x.text, x.params⟩ : Sf.Itm) = x := rfl
          rw [e0] at h1
          obtain ⟨X, hX⟩ : ∃ X, Sf.itxt x = X := ⟨_, rfl⟩
          rw [hX] at hxl
          obtain ⟨T1, hT1⟩ : ∃ T1, t ++ [32] = T1 := ⟨_, rfl⟩
          have hT1n : T1.length ≤ 20000000001 := by rw [← hT1, List.length_append, List.length_cons, List.length_nil]; omega
          have z1 : ∀ W : World, (Op.stringOp .add (bA t) ⟨#[32]⟩).run Tryz.prog W = .ok (.string (bA T1)) W := add_runI t [32] T1 (by rw [List.length_cons, List.length_nil]; omega) hT1
          obtain ⟨T2, hT2⟩ : ∃ T2, T1 ++ X = T2 := ⟨_, rfl⟩
          have z2 := add_runI T1 X T2 (by omega) hT2
          have HT1 := Lib.hid hT1; have HT2 := Lib.hid hT2; have HXX := Lib.hid hX
          obtain ⟨q, hq⟩ : ∃ q, (Sf.text x).isSome = q := ⟨_, rfl⟩
          have HQ := Lib.hid hq
          have hv : textV (Sf.text x) = .tuple #[.string (bA X), .int .i64 (if q then 0 else 50)] := by unfold textV; rw [hq, ← hX]; rfl
          rw [hv] at h1
          have H1 := Lib.hid h1
          clear hx hsx hcell hvx hsB hX hT1 hT2 hq hv h1 hse e0
          cases q with
          | true =>
            rw [if_pos rfl] at H1
            go_wp2_with fail
            refine H1.out.mono ?_
            rintro e w3 ⟨rfl, hb3⟩
            have HN := Lib.hid (HV.out.next (q := true) hj hb3 (by rw [HX.out]; exact HXX.out) HT1.out HT2.out (by rw [HX.out]; exact HQ.out))
            rw [Bool.and_true] at HN
            clear hb3 H1 d0 d1 d2 d3
            cases b with
            | true =>
              go_wp2_with fail
              go_roundg (l.length - (j + 1))
              case measure => omega
              case rel => exact ⟨j + 1, T2, true, rfl, by go_num, rfl, rfl, HN.out⟩
            | false =>
              go_wp2_with fail
              go_roundg (l.length - (j + 1))
              case measure => omega
              case rel => exact ⟨j + 1, T2, false, rfl, by go_num, rfl, rfl, HN.out⟩
          | false =>
            rw [if_neg (by decide)] at H1
            go_wp2_with fail
            refine H1.out.mono ?_
            rintro e w3 ⟨rfl, hb3⟩
            have HN := Lib.hid (HV.out.next (q := false) hj hb3 (by rw [HX.out]; exact HXX.out) HT1.out HT2.out (by rw [HX.out]; exact HQ.out))
            rw [Bool.and_false] at HN
            clear hb3 H1 d0 d1 d2 d3
            cases b with
            | true =>
              go_wp2_with fail
              go_roundg (l.length - (j + 1))
              case measure => omega
              case rel => exact ⟨j + 1, T2, false, rfl, by go_num, rfl, rfl, HN.out⟩
            | false =>
              go_wp2_with fail
              go_roundg (l.length - (j + 1))
              case measure => omega
              case rel => exact ⟨j + 1, T2, false, rfl, by go_num, rfl, rfl, HN.out⟩
        · have hjj : j = l.length := by omega
          subst hjj
          have he := HV.out.eq
          have hal := HV.out.all
          rw [List.take_length] at he hal
          have HE := Lib.hid he; have HAL := Lib.hid hal
          have HBr := Lib.hid (onto HB2.out HV.out.below)
          have HRr := Lib.hid (HR2.out.below HV.out.below)
          obtain ⟨B9, d9, e9, hse⟩ := HB.out.is
          injection e9 with e91 e92 e93
          subst e91
          clear e92 e93 d9
          have H3 := Lib.hid (tail_any B d p wr (hse.below HBr.out) HSM.out.params (HT.out.below HBr.out) (HM.out.below HBr.out))
          have HTL := Lib.hid (tv_len HSM.out.params)
          obtain ⟨Z1, hZ1⟩ : ∃ Z1, t ++ [32, 32, 41] = Z1 := ⟨_, rfl⟩
          have hZ1n : Z1.length ≤ 20000000003 := by rw [← hZ1, List.length_append, List.length_cons, List.length_cons, List.length_cons, List.length_nil]; omega
          have z1 : ∀ W : World, (Op.stringOp .add (bA t) ⟨#[32, 32, 41]⟩).run Tryz.prog W = .ok (.string (bA Z1)) W := add_runI t [32, 32, 41] Z1 (by rw [List.length_cons, List.length_cons, List.length_cons, List.length_nil]; omega) hZ1
          have HZ1 := Lib.hid hZ1
          rw [← hal] at HTX
          clear he hal hse HV hZ1 HR2
          cases ht : (Sf.tailF [] p).isSome with
          | false =>
            rw [tv_no ht] at H3
            have hno : oL.isSome = false := by rw [HTX.out, ht, Bool.and_false]
            clear ht HTX
            obtain ⟨Z, hZ⟩ : ∃ Z, Z1 ++ [] = Z := ⟨_, rfl⟩
            have hZn : Z.length ≤ 30000000000 := by rw [← hZ, List.length_append]; (try rw [List.length_nil]); omega
            have z2 := add_runI Z1 [] Z (by (try rw [List.length_nil]); omega) hZ
            have HZ := Lib.hid hZ
            have H4 := Lib.hid (fun W => list_is Z (by unfold maxLen; omega) W)
            obtain ⟨oR, hoR⟩ : ∃ o, Sf.readL false Z = o := ⟨_, rfl⟩
            rw [hoR] at H4
            have HOR := Lib.hid hoR
            clear hZ hoR
            go_wp2_with fail
            refine H3.out.mono ?_
            rintro e w4 ⟨rfl, hb4⟩
            have HB4 := Lib.hid (onto HBr.out hb4); have HR4 := Lib.hid (HRr.out.below hb4)
            clear hb4 H3 HRr HBr
            go_wp2_with fail
            refine (H4.out _).mono ?_
            rintro e w5 ⟨A5, k5, rfl, hb5, hv5⟩
            have HB5 := Lib.hid (onto HB4.out hb5); have HR5 := Lib.hid (HR4.out.below hb5); have HV5 := Lib.hid hv5.seen
            clear hb5 hv5 H4 HR4 HB4
            have h6 := HLT.out _ _ HR5.out (HT.out.below HB5.out) (HM.out.below HB5.out)
            rw [tv_no hno] at h6
            have H6 := Lib.hid h6
            clear h6
            go_wp2_with fail
            refine H6.out.mono ?_
            rintro e w6 ⟨rfl, hb6⟩
            have HB6 := Lib.hid (onto HB5.out hb6); have HR6 := Lib.hid (HR5.out.below hb6); have HV6 := Lib.hid (HV5.out.below hb6)
            clear hb6 H6 HR5 HB5 HV5
            cases b with
            | true =>
              go_wp2_with fail
              go_ret
              exact ⟨rfl, HB6.out⟩
            | false =>
              go_wp2_with fail
              go_ret
              exact ⟨rfl, HB6.out⟩
          | true =>
            obtain ⟨U, hU, h3⟩ := tv_yes ht
            rw [h3] at H3
            have hUn := HTL.out U hU
            have HU := Lib.hid hU
            rw [ht, Bool.and_true] at HTX
            clear ht h3 hU
            cases b with
            | false =>
              have hno : oL.isSome = false := HTX.out
              clear HTX
              obtain ⟨Z, hZ⟩ : ∃ Z, Z1 ++ U = Z := ⟨_, rfl⟩
              have hZn : Z.length ≤ 30000000000 := by rw [← hZ, List.length_append]; omega
              have z2 := add_runI Z1 U Z (by omega) hZ
              have HZ := Lib.hid hZ
              have H4 := Lib.hid (fun W => list_is Z (by unfold maxLen; omega) W)
              obtain ⟨oR, hoR⟩ : ∃ o, Sf.readL false Z = o := ⟨_, rfl⟩
              rw [hoR] at H4
              have HOR := Lib.hid hoR
              clear hZ hoR
              go_wp2_with fail
              refine H3.out.mono ?_
              rintro e w4 ⟨rfl, hb4⟩
              have HB4 := Lib.hid (onto HBr.out hb4); have HR4 := Lib.hid (HRr.out.below hb4)
              clear hb4 H3 HRr HBr
              go_wp2_with fail
              refine (H4.out _).mono ?_
              rintro e w5 ⟨A5, k5, rfl, hb5, hv5⟩
              have HB5 := Lib.hid (onto HB4.out hb5); have HR5 := Lib.hid (HR4.out.below hb5); have HV5 := Lib.hid hv5.seen
              clear hb5 hv5 H4 HR4 HB4
              have h6 := HLT.out _ _ HR5.out (HT.out.below HB5.out) (HM.out.below HB5.out)
              rw [tv_no hno] at h6
              have H6 := Lib.hid h6
              clear h6
              go_wp2_with fail
              refine H6.out.mono ?_
              rintro e w6 ⟨rfl, hb6⟩
              have HB6 := Lib.hid (onto HB5.out hb6); have HR6 := Lib.hid (HR5.out.below hb6); have HV6 := Lib.hid (HV5.out.below hb6)
              clear hb6 H6 HR5 HB5 HV5
              go_wp2_with fail
              go_ret
              exact ⟨rfl, HB6.out⟩
            | true =>
              obtain ⟨Y, _, hyes⟩ := tv_yes HTX.out
              clear HTX
              obtain ⟨Z, hZ⟩ : ∃ Z, Z1 ++ U = Z := ⟨_, rfl⟩
              have hZn : Z.length ≤ 30000000000 := by rw [← hZ, List.length_append]; omega
              have z2 := add_runI Z1 U Z (by omega) hZ
              have HZ := Lib.hid hZ
              have H4 := Lib.hid (fun W => list_is Z (by unfold maxLen; omega) W)
              obtain ⟨oR, hoR⟩ : ∃ o, Sf.readL false Z = o := ⟨_, rfl⟩
              rw [hoR] at H4
              have HOR := Lib.hid hoR
              clear hZ hoR
              go_wp2_with fail
              refine H3.out.mono ?_
              rintro e w4 ⟨rfl, hb4⟩
              have HB4 := Lib.hid (onto HBr.out hb4); have HR4 := Lib.hid (HRr.out.below hb4)
              clear hb4 H3 HRr HBr
              go_wp2_with fail
              refine (H4.out _).mono ?_
              rintro e w5 ⟨A5, k5, rfl, hb5, hv5⟩
              have HB5 := Lib.hid (onto HB4.out hb5); have HR5 := Lib.hid (HR4.out.below hb5); have HV5 := Lib.hid hv5.seen
              clear hb5 hv5 H4 HR4 HB4
              have h6 := HLT.out _ _ HR5.out (HT.out.below HB5.out) (HM.out.below HB5.out)
              rw [hyes] at h6
              have H6 := Lib.hid h6
              clear h6
              go_wp2_with fail
              refine H6.out.mono ?_
              rintro e w6 ⟨rfl, hb6⟩
              have HB6 := Lib.hid (onto HB5.out hb6); have HR6 := Lib.hid (HR5.out.below hb6); have HV6 := Lib.hid (HV5.out.below hb6)
              clear hb6 H6 HR5 HB5 HV5
              by_cases h39 : t.length + U.length ≤ 3900
              · have h39' : (t.length : Int) + (U.length : Int) ≤ 3900 := by omega
                have hoR : oR = some [⟨[], true, Sf.zItm, l, p⟩] := by rw [← HOR.out]; exact items_read HE.out HAL.out.symm HU.out HZ1.out HZ.out h39
                have hl1 : lst oR = [⟨[], true, Sf.zItm, l, p⟩] := by rw [hoR]; rfl
                have he1 : er oR = 0 := er_some hoR
                rw [hl1] at HV6 ⊢
                rw [he1]
                have h7 := same_yes A5 _ k5 1 _ _ HV6.out HR6.out (by simp [maxLen])
                have H7 := Lib.hid h7
                clear hoR hl1 he1 h7 h39 HOR
                go_wp2_with fail
                refine H7.out.mono ?_
                rintro e w7 ⟨rfl, hb7⟩
                have HB7 := Lib.hid (onto HB6.out hb7)
                clear hb7 H7
                go_wp2_with fail
                go_ret
                exact ⟨rfl, HB7.out⟩
              · have h39' : (3900 : Int) < (t.length : Int) + (U.length : Int) := by omega
                clear h39
                go_wp2_with fail
                go_ret
                exact ⟨rfl, HB6.out⟩
    · have h20' : (20 : Int) < (l.length : Int) := by omega
      go_enter Tryz.func8, Tryz.ntmps8
      go_wp2_with fail
      refine H0.out.mono ?_
      rintro e w1 ⟨rfl, hb1⟩
      have HB1 := Lib.hid hb1
      clear hb1 H0
      go_wp2_with fail
      refine (HF.out _ HB1.out).mono ?_
      rintro e w2 ⟨rfl, hb2⟩
      have HB2 := Lib.hid (onto HB1.out (onto (below_one _ _) hb2))
      clear hb2 HF
      go_wp2_with fail
      go_ret
      exact ⟨rfl, HB2.out⟩
end Go.Proofs.YtogjekjklknfeaaGreatDoor
