/- The contract of urlp's parseNet. -/
import Derived.Test.YtehjnidggnfbfaaGreatDoorUrlpResolve
namespace Go.Proofs.YtehjnidggnfbfaaGreatDoor
open Go.RowKit

theorem UBox.s4 {W : World} {B : Nat} {u : Urp.URL} (h : UBox W B u) (x : Int) : UBox (W.setCell ⟨B, 4, none⟩ (.int .i64 x)) B { u with port := x } := by
  have h' : W.heap[B]? = _ := h
  unfold UBox
  simp [World.setCell, Array.getElem?_modify, h', uCells]
theorem UBox.s5 {W : World} {B : Nat} {u : Urp.URL} (h : UBox W B u) (x : List UInt8) : UBox (W.setCell ⟨B, 5, none⟩ (.string (bA x))) B { u with path := x } := by
  have h' : W.heap[B]? = _ := h
  unfold UBox
  simp [World.setCell, Array.getElem?_modify, h', uCells]
theorem UBox.s6 {W : World} {B : Nat} {u : Urp.URL} (h : UBox W B u) (x : Bool) : UBox (W.setCell ⟨B, 6, none⟩ (.bool x)) B { u with hasq := x } := by
  have h' : W.heap[B]? = _ := h
  unfold UBox
  simp [World.setCell, Array.getElem?_modify, h', uCells]
theorem UBox.s7 {W : World} {B : Nat} {u : Urp.URL} (h : UBox W B u) (x : List UInt8) : UBox (W.setCell ⟨B, 7, none⟩ (.string (bA x))) B { u with query := x } := by
  have h' : W.heap[B]? = _ := h
  unfold UBox
  simp [World.setCell, Array.getElem?_modify, h', uCells]
theorem UBox.s8 {W : World} {B : Nat} {u : Urp.URL} (h : UBox W B u) (x : List UInt8) : UBox (W.setCell ⟨B, 8, none⟩ (.string (bA x))) B { u with rest := x } := by
  have h' : W.heap[B]? = _ := h
  unfold UBox
  simp [World.setCell, Array.getElem?_modify, h', uCells]
theorem UBox.sh {W : World} {B : Nat} {u : Urp.URL} (h : UBox W B u) (x : Hst.Host) : UBox (((W.setCell ⟨B, 1, none⟩ (.string (bA x.name))).setCell ⟨B, 2, none⟩ (.bool x.v4)).setCell ⟨B, 3, none⟩ (.int .u32 x.addr)) B { u with host := x } := by
  have h' : W.heap[B]? = _ := h
  unfold UBox
  simp [World.setCell, Array.getElem?_modify, h', uCells]
theorem UBox.ne {W : World} {B : Nat} {u : Urp.URL} (h : UBox W B u) (C i : Nat) (v : Value) (hne : C ≠ B) : UBox (W.setCell ⟨C, i, none⟩ v) B u := by
  have h' : W.heap[B]? = _ := h
  unfold UBox
  simp [World.setCell, Array.getElem?_modify, h', hne]
theorem size_setCell (W : World) (a : Addr) (v : Value) : (W.setCell a v).heap.size = W.heap.size := by simp [World.setCell]

/-- Two URLs' blocks, one behind the other, at the end of what was there: the one that is filled in, and the result. -/
structure Two (w W : World) (u : Urp.URL) : Prop where
  bel : Below w.heap.size w W
  box : UBox W w.heap.size u
  res : UBox W (w.heap.size + 1) Urp.zeroU
theorem Two.new (w : World) (u : Urp.URL) : Two w ((w.alloc (.cells (uCells u) 26)).alloc (.cells (uCells Urp.zeroU) 26)) u :=
  ⟨((Below.refl _ w).alloc (Nat.le_refl _) _).alloc (by simp) _, (UBox.new w u).alloc _, by
    have := UBox.new (w.alloc (.cells (uCells u) 26)) Urp.zeroU
    simpa using this⟩
theorem Two.keep {w W W' : World} {u : Urp.URL} (h : Two w W u) (hb : Below W.heap.size W W') : Two w W' u := ⟨below_on h.bel hb, h.box.keep hb, h.res.keep hb⟩
theorem Two.s4 {w W : World} {u : Urp.URL} (h : Two w W u) (x : Int) : Two w (W.setCell ⟨w.heap.size, 4, none⟩ (.int .i64 x)) { u with port := x } := ⟨h.bel.setCell (Nat.le_refl _) _, h.box.s4 x, h.res.ne _ _ _ (by omega)⟩
theorem Two.s5 {w W : World} {u : Urp.URL} (h : Two w W u) (x : List UInt8) : Two w (W.setCell ⟨w.heap.size, 5, none⟩ (.string (bA x))) { u with path := x } := ⟨h.bel.setCell (Nat.le_refl _) _, h.box.s5 x, h.res.ne _ _ _ (by omega)⟩
theorem Two.s6 {w W : World} {u : Urp.URL} (h : Two w W u) (x : Bool) : Two w (W.setCell ⟨w.heap.size, 6, none⟩ (.bool x)) { u with hasq := x } := ⟨h.bel.setCell (Nat.le_refl _) _, h.box.s6 x, h.res.ne _ _ _ (by omega)⟩
theorem Two.s7 {w W : World} {u : Urp.URL} (h : Two w W u) (x : List UInt8) : Two w (W.setCell ⟨w.heap.size, 7, none⟩ (.string (bA x))) { u with query := x } := ⟨h.bel.setCell (Nat.le_refl _) _, h.box.s7 x, h.res.ne _ _ _ (by omega)⟩
theorem Two.sh {w W : World} {u : Urp.URL} (h : Two w W u) (x : Hst.Host) : Two w (((W.setCell ⟨w.heap.size, 1, none⟩ (.string (bA x.name))).setCell ⟨w.heap.size, 2, none⟩ (.bool x.v4)).setCell ⟨w.heap.size, 3, none⟩ (.int .u32 x.addr)) { u with host := x } :=
  ⟨((h.bel.setCell (p := ⟨w.heap.size, 1, none⟩) (Nat.le_refl _) _).setCell (p := ⟨w.heap.size, 2, none⟩) (Nat.le_refl _) _).setCell (p := ⟨w.heap.size, 3, none⟩) (Nat.le_refl _) _, h.box.sh x, ((h.res.ne _ _ _ (by omega)).ne _ _ _ (by omega)).ne _ _ _ (by omega)⟩

theorem cut_at (l : List UInt8) (c : UInt8) (w : World) (hl : l.length ≤ 4000) : Calls Tryz.prog 42 #[.string (bA l), .string ⟨#[c]⟩] w fun e w' => e = .returned (.tuple #[.string (bA (Urp.bef c l)), .string (bA (Urp.aft c l)), .bool (Urp.hasB c l)]) ∧ Below w.heap.size w w' :=
  cut_any (bA l) c w (by rw [bA_size]; unfold maxLen; omega)

/-- The URL to be filled in. -/
def begun (s : List UInt8) : Urp.URL := ⟨s, Hst.none_, -1, [], false, [], []⟩
set_option maxHeartbeats 4000000 in
set_option maxRecDepth 100000 in
theorem parseNet_any (s rest : List UInt8) (w : World) (hs : Urp.netB s = true) (hl : rest.length ≤ 4000) : Calls Tryz.prog 44 #[urlV (begun s), .string (bA rest)] w fun e w' => e = .returned (resV (Urp.web s rest)) ∧ Below w.heap.size w w' := by
  have hT0 := Two.new w (begun s)
  have hpre := cutPrefix_any (bA rest) ⟨#[47, 47]⟩
  obtain ⟨res, hres⟩ : ∃ r, Urp.web s rest = r := ⟨_, rfl⟩
  rw [hres]
  unfold Urp.web at hres
  have hpe : Urp.begB (⟨#[47, 47]⟩ : ByteArray).data.toList (bA rest).data.toList = Urp.begB [47, 47] rest := rfl
  rw [hpe] at hpre
  cases hb : Urp.begB [47, 47] rest with
  | false =>
    rw [hb, if_neg (by simp)] at hres
    rw [hb] at hpre
    subst hres
    have HP := Lib.hid hpre
    have HT := Lib.hid hT0
    clear hb hpre hT0 hpe
    unfold urlV uCells begun
    go_enter Tryz.func44, Tryz.ntmps44
    go_wp2_with fail
    refine (HP.out _).mono ?_
    rintro e w1 ⟨rfl, rfl⟩
    go_wp2_with fail
    exact bodyPost_ret (results_url rfl _ _ rfl HT.out.res) rfl ⟨rfl, HT.out.bel⟩
  | true =>
    rw [hb, if_pos rfl] at hres
    rw [hb] at hpre
    have hpre2 : ∀ W : World, Calls Tryz.prog 67 #[.string (bA rest), .string ⟨#[47, 47]⟩] W fun e w' => e = .returned (.tuple #[.string (bA (rest.drop 2)), .bool true]) ∧ W = w' := hpre
    obtain ⟨r, hr⟩ : ∃ r, rest.drop 2 = r := ⟨_, rfl⟩
    have hrl : r.length ≤ 4000 := by rw [← hr, List.length_drop]; omega
    rw [hr] at hres hpre2
    have HP := Lib.hid hpre2
    clear hb hpre hpre2 hpe hr hl
    have hql : (Urp.bef 63 r).length ≤ 4000 := Nat.le_trans (Urp.bef_len 63 r) hrl
    have HC1 := Lib.hid (fun W => cut_at r 63 W hrl)
    obtain ⟨q, hq⟩ : ∃ q, Urp.bef 63 r = q := ⟨_, rfl⟩
    rw [hq] at hres hql HC1
    have hal : (Urp.bef 47 q).length ≤ 4000 := Nat.le_trans (Urp.bef_len 47 q) hql
    have HC2 := Lib.hid (fun W => cut_at q 47 W hql)
    obtain ⟨au, hau⟩ : ∃ au, Urp.bef 47 q = au := ⟨_, rfl⟩
    rw [hau] at hres hal HC2
    have hpl : (Urp.aft 47 q).length ≤ 4000 := Nat.le_trans (Urp.aft_len 47 q) hql
    obtain ⟨pa, hpa⟩ : ∃ pa, Urp.aft 47 q = pa := ⟨_, rfl⟩
    rw [hpa] at hres hpl HC2
    have HCN := Lib.hid (fun W => contains_any (bA au) 64 W)
    have HC3 := Lib.hid (fun W => cut_at au 58 W hal)
    have hnl : (bA (Urp.bef 58 au)).size ≤ maxLen := by rw [bA_size]; have := Urp.bef_len 58 au; unfold maxLen; omega
    have hol : (Urp.aft 58 au).length ≤ 4000 := Nat.le_trans (Urp.aft_len 58 au) hal
    have HH := Lib.hid (fun W => parse_any (bA (Urp.bef 58 au)) W hnl)
    have HPO := Lib.hid (fun W => parsePort_any s (Urp.aft 58 au) W hs hol)
    have HRE := Lib.hid (fun W => resolve_any pa W hpl)
    obtain ⟨qy, hqy⟩ : ∃ qy, Urp.aft 63 r = qy := ⟨_, rfl⟩
    obtain ⟨hq2, hhq⟩ : ∃ b, Urp.hasB 63 r = b := ⟨_, rfl⟩
    obtain ⟨sl, hsl⟩ : ∃ b, Urp.hasB 47 q = b := ⟨_, rfl⟩
    obtain ⟨co, hco⟩ : ∃ b, Urp.hasB 58 au = b := ⟨_, rfl⟩
    obtain ⟨nm, hnm⟩ : ∃ nm, Urp.bef 58 au = nm := ⟨_, rfl⟩
    obtain ⟨po, hpo⟩ : ∃ po, Urp.aft 58 au = po := ⟨_, rfl⟩
    rw [hqy, hhq] at hres HC1
    rw [hsl] at HC2
    rw [hco, hnm, hpo] at HC3
    rw [hnm] at hres HH
    rw [hpo] at hres HPO
    have HT := Lib.hid hT0
    clear hq hau hpa hqy hhq hsl hco hnm hpo hT0 hnl hol hal hql hpl hrl hs
    cases hat : Urp.hasB 64 au with
    | true =>
      rw [hat, if_pos rfl] at hres
      subst hres
      have HA := Lib.hid hat
      clear hat
      unfold urlV uCells begun
      go_enter Tryz.func44, Tryz.ntmps44
      go_wp2_with fail
      refine (HP.out _).mono ?_
      rintro e w1 ⟨rfl, rfl⟩
      go_wp2_with fail
      refine (HC1.out _).mono ?_
      rintro e w2 ⟨rfl, hb2⟩
      have t2 := HT.out.keep hb2
      clear hb2
      have c6 := t2.box.c6; have c7 := t2.box.c7; have f := t2.box.fr
      go_wp2_with fail
      refine (HC2.out _).mono ?_
      rintro e w3 ⟨rfl, hb3⟩
      have t3 := ((t2.s7 qy).s6 hq2).keep hb3
      clear hb3 c6 c7 f t2
      go_wp2_with fail
      refine (HCN.out _).mono ?_
      rintro e w4 ⟨rfl, rfl⟩
      have hae : Urp.hasB 64 (bA au).data.toList = Urp.hasB 64 au := rfl
      rw [hae, HA.out]
      clear hae
      have d0 := t3.res.c0; have d1 := t3.res.c1; have d2 := t3.res.c2; have d3 := t3.res.c3; have d4 := t3.res.c4; have d5 := t3.res.c5; have d6 := t3.res.c6; have d7 := t3.res.c7; have d8 := t3.res.c8
      have f := t3.res.fr
      go_wp2_with fail
      exact bodyPost_ret (results_url rfl _ _ rfl (t3.res.set Urp.zeroU)) rfl ⟨rfl, below_set9 t3.bel (by omega) Urp.zeroU⟩
    | false =>
      rw [hat, if_neg (by simp)] at hres
      have HA := Lib.hid hat
      clear hat
      cases hh : Hst.parse nm with
      | none =>
        rw [hh] at hres
        simp only at hres
        subst hres
        have HH2 : Hid (∀ W : World, Calls Tryz.prog 69 #[.string (bA nm)] W fun e w' => e = .returned (.tuple #[.agg #[.string ⟨#[]⟩, .bool false, .int .u32 0], .int .i64 20]) ∧ Below W.heap.size W w') := Lib.hid (fun W => by
          have h := HH.out W
          have e : (bA nm).data.toList = nm := rfl
          rw [e, hh] at h
          exact h)
        clear hh HH
        unfold urlV uCells begun
        go_enter Tryz.func44, Tryz.ntmps44
        go_wp2_with fail
        refine (HP.out _).mono ?_
        rintro e w1 ⟨rfl, rfl⟩
        go_wp2_with fail
        refine (HC1.out _).mono ?_
        rintro e w2 ⟨rfl, hb2⟩
        have t2 := HT.out.keep hb2
        clear hb2
        have c6 := t2.box.c6; have c7 := t2.box.c7; have f := t2.box.fr
        go_wp2_with fail
        refine (HC2.out _).mono ?_
        rintro e w3 ⟨rfl, hb3⟩
        have t3 := ((t2.s7 qy).s6 hq2).keep hb3
        clear hb3 c6 c7 f t2
        go_wp2_with fail
        refine (HCN.out _).mono ?_
        rintro e w4 ⟨rfl, rfl⟩
        have hae : Urp.hasB 64 (bA au).data.toList = Urp.hasB 64 au := rfl
        rw [hae, HA.out]
        clear hae
        go_wp2_with fail
        refine (HC3.out _).mono ?_
        rintro e w5 ⟨rfl, hb5⟩
        have t5 := t3.keep hb5
        clear hb5 t3
        go_wp2_with fail
        refine (HH2.out _).mono ?_
        rintro e w6 ⟨rfl, hb6⟩
        have t6 := t5.keep hb6
        clear hb6 t5
        have c1 := t6.box.c1; have c2 := t6.box.c2; have c3 := t6.box.c3; have fb := t6.box.fr
        have d0 := t6.res.c0; have d1 := t6.res.c1; have d2 := t6.res.c2; have d3 := t6.res.c3; have d4 := t6.res.c4; have d5 := t6.res.c5; have d6 := t6.res.c6; have d7 := t6.res.c7; have d8 := t6.res.c8
        have f := t6.res.fr
        go_wp2_with fail
        have t7 := t6.sh Hst.none_
        exact bodyPost_ret (results_url rfl _ _ rfl (t7.res.set Urp.zeroU)) rfl ⟨rfl, below_set9 t7.bel (by omega) Urp.zeroU⟩
      | some h =>
        rw [hh] at hres
        simp only at hres
        have HH2 : Hid (∀ W : World, Calls Tryz.prog 69 #[.string (bA nm)] W fun e w' => e = .returned (.tuple #[.agg #[.string (bA h.name), .bool h.v4, .int .u32 h.addr], .int .i64 0]) ∧ Below W.heap.size W w') := Lib.hid (fun W => by
          have h := HH.out W
          have e : (bA nm).data.toList = nm := rfl
          rw [e, hh] at h
          exact h)
        clear hh HH
        cases hp : Urp.portOf s po with
        | none =>
          rw [hp] at hres
          simp only at hres
          subst hres
          have HP2 : Hid (∀ W : World, Calls Tryz.prog 70 #[.string (bA s), .string (bA po)] W fun e w' => e = .returned (.tuple #[.int .i64 0, .int .i64 32]) ∧ Below W.heap.size W w') := Lib.hid (fun W => by
            have h := HPO.out W
            rw [hp] at h
            exact h)
          clear hp HPO
          unfold urlV uCells begun
          go_enter Tryz.func44, Tryz.ntmps44
          go_wp2_with fail
          refine (HP.out _).mono ?_
          rintro e w1 ⟨rfl, rfl⟩
          go_wp2_with fail
          refine (HC1.out _).mono ?_
          rintro e w2 ⟨rfl, hb2⟩
          have t2 := HT.out.keep hb2
          clear hb2
          have c6 := t2.box.c6; have c7 := t2.box.c7; have f := t2.box.fr
          go_wp2_with fail
          refine (HC2.out _).mono ?_
          rintro e w3 ⟨rfl, hb3⟩
          have t3 := ((t2.s7 qy).s6 hq2).keep hb3
          clear hb3 c6 c7 f t2
          go_wp2_with fail
          refine (HCN.out _).mono ?_
          rintro e w4 ⟨rfl, rfl⟩
          have hae : Urp.hasB 64 (bA au).data.toList = Urp.hasB 64 au := rfl
          rw [hae, HA.out]
          clear hae
          go_wp2_with fail
          refine (HC3.out _).mono ?_
          rintro e w5 ⟨rfl, hb5⟩
          have t5 := t3.keep hb5
          clear hb5 t3
          go_wp2_with fail
          refine (HH2.out _).mono ?_
          rintro e w6 ⟨rfl, hb6⟩
          have t6 := t5.keep hb6
          clear hb6 t5
          have c1 := t6.box.c1; have c2 := t6.box.c2; have c3 := t6.box.c3; have fb := t6.box.fr
          have c0 := t6.box.c0
          go_wp2_with fail
          refine (HP2.out _).mono ?_
          rintro e w8 ⟨rfl, hb8⟩
          have t8 := (t6.sh h).keep hb8
          clear hb8 t6 c0 c1 c2 c3 fb
          have c4 := t8.box.c4; have fb := t8.box.fr
          have d0 := t8.res.c0; have d1 := t8.res.c1; have d2 := t8.res.c2; have d3 := t8.res.c3; have d4 := t8.res.c4; have d5 := t8.res.c5; have d6 := t8.res.c6; have d7 := t8.res.c7; have d8 := t8.res.c8
          have f := t8.res.fr
          go_wp2_with fail
          have t9 := t8.s4 0
          exact bodyPost_ret (results_url rfl _ _ rfl (t9.res.set Urp.zeroU)) rfl ⟨rfl, below_set9 t9.bel (by omega) Urp.zeroU⟩
        | some pn =>
          rw [hp] at hres
          simp only at hres
          have HP2 : Hid (∀ W : World, Calls Tryz.prog 70 #[.string (bA s), .string (bA po)] W fun e w' => e = .returned (.tuple #[.int .i64 pn, .int .i64 0]) ∧ Below W.heap.size W w') := Lib.hid (fun W => by
            have h := HPO.out W
            rw [hp] at h
            exact h)
          clear hp HPO
          have HRS := Lib.hid hres
          clear hres
          unfold urlV uCells begun
          go_enter Tryz.func44, Tryz.ntmps44
          go_wp2_with fail
          refine (HP.out _).mono ?_
          rintro e w1 ⟨rfl, rfl⟩
          go_wp2_with fail
          refine (HC1.out _).mono ?_
          rintro e w2 ⟨rfl, hb2⟩
          have t2 := HT.out.keep hb2
          clear hb2
          have c6 := t2.box.c6; have c7 := t2.box.c7; have f := t2.box.fr
          go_wp2_with fail
          refine (HC2.out _).mono ?_
          rintro e w3 ⟨rfl, hb3⟩
          have t3 := ((t2.s7 qy).s6 hq2).keep hb3
          clear hb3 c6 c7 f t2
          go_wp2_with fail
          refine (HCN.out _).mono ?_
          rintro e w4 ⟨rfl, rfl⟩
          have hae : Urp.hasB 64 (bA au).data.toList = Urp.hasB 64 au := rfl
          rw [hae, HA.out]
          clear hae
          go_wp2_with fail
          refine (HC3.out _).mono ?_
          rintro e w5 ⟨rfl, hb5⟩
          have t5 := t3.keep hb5
          clear hb5 t3
          go_wp2_with fail
          refine (HH2.out _).mono ?_
          rintro e w6 ⟨rfl, hb6⟩
          have t6 := t5.keep hb6
          clear hb6 t5
          have c1 := t6.box.c1; have c2 := t6.box.c2; have c3 := t6.box.c3; have fb := t6.box.fr
          have c0 := t6.box.c0
          go_wp2_with fail
          refine (HP2.out _).mono ?_
          rintro e w8 ⟨rfl, hb8⟩
          have t8 := (t6.sh h).keep hb8
          clear hb8 t6 c0 c1 c2 c3 fb
          have c4 := t8.box.c4; have fb := t8.box.fr
          go_wp2_with fail
          refine (HRE.out _).mono ?_
          rintro e w9 ⟨rfl, hb9⟩
          have t9 := (t8.s4 pn).keep hb9
          clear hb9 t8 c4 fb
          obtain ⟨pp, hpp⟩ : ∃ pp, Urp.pathOf pa = pp := ⟨_, rfl⟩
          rw [hpp]
          have HPP := Lib.hid hpp
          clear hpp
          have k0 := t9.box.c0; have k1 := t9.box.c1; have k2 := t9.box.c2; have k3 := t9.box.c3; have k4 := t9.box.c4; have k5 := t9.box.c5; have k6 := t9.box.c6; have k7 := t9.box.c7; have k8 := t9.box.c8; have fb := t9.box.fr
          have d0 := t9.res.c0; have d1 := t9.res.c1; have d2 := t9.res.c2; have d3 := t9.res.c3; have d4 := t9.res.c4; have d5 := t9.res.c5; have d6 := t9.res.c6; have d7 := t9.res.c7; have d8 := t9.res.c8
          have f := t9.res.fr
          go_wp2_with fail
          have tx := t9.s5 pp
          exact bodyPost_ret (results_url rfl _ _ rfl (tx.res.set ⟨s, h, pn, pp, hq2, qy, []⟩)) rfl ⟨by rw [← HRS.out, HPP.out]; rfl, below_set9 tx.bel (by omega) ⟨s, h, pn, pp, hq2, qy, []⟩⟩
end Go.Proofs.YtehjnidggnfbfaaGreatDoor
