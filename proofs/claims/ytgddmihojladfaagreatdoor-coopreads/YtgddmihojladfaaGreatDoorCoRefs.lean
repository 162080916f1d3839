/- Our texts of one layer, joined: plain functions and their laws, and the contracts of the functions of that layer. -/
import Derived.Test.YtgddmihojladfaaGreatDoorCoLow
import Derived.Test.YtgddmihojladfaaGreatDoorHdRefs
import Derived.Test.YtgddmihojladfaaGreatDoorSfRef11
import Derived.Test.YtgddmihojladfaaGreatDoorCoPol
import Derived.Test.YtgddmihojladfaaGreatDoorCoPlain
import Derived.Test.YtgddmihojladfaaGreatDoorOctAll
import Derived.Deep.RegionHeld3

/- The contracts of the document's word, and of what its keywords mean. -/


namespace Go.Proofs.YtgddmihojladfaaGreatDoor
open Go.RowKit

theorem rparse_some {s : List UInt8} {x : Sf.Itm} (h : Sf.parse s = some x) (w : World) : Calls Tryz.prog 45 #[.string (bA s)] w fun e w' => ∃ A c, e = .returned (.tuple #[.agg #[.int .i64 x.kind, .int .i64 x.n, .string (bA x.text), .slice A x.params.length c], .int .i64 0]) ∧ Below w.heap.size w w' ∧ w'.ownsRow w.heap.size 72 4 (.slice A x.params.length c) x.params.length (parsRow x.params) := by
  refine (rparse_any s w).mono ?_
  rintro e w' ⟨hb, ⟨y, v, ho, rfl, hw⟩ | ⟨ho, _⟩⟩
  · rw [h] at ho; cases ho
    obtain ⟨A, c, rfl⟩ := slice4 hw
    exact ⟨A, c, rfl, hb, hw⟩
  · rw [h] at ho; cases ho
theorem rparse_none {s : List UInt8} (h : Sf.parse s = none) (w : World) : Calls Tryz.prog 45 #[.string (bA s)] w fun e w' => e = .returned (.tuple #[.agg #[.int .i64 0, .int .i64 0, .string ⟨#[]⟩, .slice none 0 0], .int .i64 50]) ∧ Below w.heap.size w w' := by
  refine (rparse_any s w).mono ?_
  rintro e w' ⟨hb, ⟨y, v, ho, rfl, hw⟩ | ⟨_, rfl⟩⟩
  · rw [h] at ho; cases ho
  · exact ⟨rfl, hb⟩
theorem endp_succ {l : List Sf.Par} {k : Nat} (h : k < l.length) : Co.endp (l.take (k + 1)) = if l[k].key == Co.kTo && l[k].kind == 3 then l[k].text else Co.endp (l.take k) := by
  unfold Co.endp
  rw [List.take_succ_eq_append_getElem h, List.foldl_append]
  rfl
set_option maxHeartbeats 4000000 in
set_option maxRecDepth 20000 in
theorem rword_any (A : Option Addr) (c n : Nat) (l : List Hd.Hdr) (nm : List UInt8) (w : World) (hn : l.length = n) (hl : SmallH l) (hnm : nm.length ≤ 10000) (hA : SeenH w A l) :
    Calls Tryz.prog 30 #[.slice A n c, .string (bA nm)] w fun e w' => e = .returned (.tuple #[.string (bA (Co.word l nm).1), .string (bA (Co.word l nm).2)]) ∧ Below w.heap.size w w' := by
  have h1 := rcombined_any A c n l nm w hn hl hnm hA
  have hw := Co.word_comb l nm
  have hcn := fun h => Co.comb_none (l := l) (n := nm) h
  obtain ⟨s, hs⟩ : ∃ s, Hd.comb l nm = s := ⟨_, rfl⟩
  obtain ⟨b, hb⟩ : ∃ b, Hd.hasB l nm = b := ⟨_, rfl⟩
  obtain ⟨W, hW⟩ : ∃ W, Co.word l nm = W := ⟨_, rfl⟩
  obtain ⟨y, hy⟩ : ∃ y, W.1 = y := ⟨_, rfl⟩
  obtain ⟨z, hz⟩ : ∃ z, W.2 = z := ⟨_, rfl⟩
  rw [hs, hb] at h1 hcn
  rw [hs, hW] at hw
  rw [hW, hy, hz]
  have H1 := Lib.hid h1
  clear h1 hs hb hl hA hW
  rcases ho : Sf.parse s with _ | x
  · rw [ho] at hw
    obtain rfl : W = ([], []) := hw
    obtain rfl : y = [] := hy.symm
    obtain rfl : z = [] := hz.symm
    have H2 := Lib.hid (rparse_none ho)
    clear ho hy hz hcn
    go_enter Tryz.func30, Tryz.ntmps30
    go_wp2_with fail
    refine H1.out.mono ?_
    rintro e w1 ⟨rfl, hb1⟩
    go_wp2_with fail
    refine (H2.out _).mono ?_
    rintro e w2 ⟨rfl, hb2⟩
    cases b with
    | true =>
      go_wp2_with fail
      go_ret2
      exact ⟨rfl, below_al (Below.onto hb1 hb2) _⟩
    | false =>
      go_wp2_with fail
      go_ret2
      exact ⟨rfl, below_al (Below.onto hb1 hb2) _⟩
  · rw [ho] at hw
    obtain rfl : b = true := by
      cases b with
      | true => rfl
      | false =>
        rw [hcn rfl, Co.parse_nil] at ho
        cases ho
    have H2 := Lib.hid (rparse_some ho)
    clear ho hcn
    by_cases h4 : x.kind = 4
    · have ew : W = (x.text, Co.endp x.params) := by rw [hw]; unfold Co.ofItem; dsimp only; rw [if_pos h4]
      subst ew
      dsimp only at hy hz
      subst hy
      have HZ := Lib.hid hz
      clear hw hz
      go_enter Tryz.func30, Tryz.ntmps30
      go_wp2_with fail
      refine H1.out.mono ?_
      rintro e w1 ⟨rfl, hb1⟩
      go_wp2_with fail
      refine (H2.out _).mono ?_
      rintro e w2 ⟨A2, c2, rfl, hb2, hr⟩
      rw [h4]
      have hb3 := below_al (Below.onto hb1 hb2) (.cells (iC 4 x.n x.text (.slice A2 x.params.length c2)) 66)
      have hI := IBox.new (k := 4) (n := x.n) (t := x.text) hr
      have hS := hI.seen
      have hlen := own_len4 hr
      obtain ⟨d0, d1, d2, d3⟩ := hI.cells
      unfold iC at d0 d1 d2 d3 hS hb3
      have HS := Lib.hid hS
      have HB3 := Lib.hid hb3
      clear hS hb3 hI hr hb1 hb2
      unfold maxLen at hlen
      go_wp2
      go_loopw [10, 11] (fun tv i wr => ∃ k : Nat, k ≤ x.params.length ∧ i = .int .i64 k ∧ tv = .string (bA (Co.endp (x.params.take k))) ∧ wr = w2.alloc (.cells #[.int .i64 4, .int .i64 x.n, .string (bA x.text), .slice A2 x.params.length c2] 66)) (fun _ i _ => x.params.length - (intOf i).toNat)
      case atStart => exact ⟨0, by omega, rfl, rfl, rfl⟩
      case round =>
        obtain ⟨k, hk, rfl, rfl, rfl⟩ := hrel
        by_cases hlt : k < x.params.length
        · obtain ⟨g, o, rfl, hgl, hc⟩ := HS.out (by omega)
          obtain ⟨c0, c1, c2', c3⟩ := hc k hlt
          have hes := endp_succ hlt
          obtain ⟨p, hp⟩ : ∃ p, x.params[k] = p := ⟨_, rfl⟩
          rw [hp] at c0 c1 c2' c3 hes
          obtain ⟨acc, hacc⟩ : ∃ acc, Co.endp (x.params.take k) = acc := ⟨_, rfl⟩
          rw [hacc] at hes ⊢
          have hltz : (k : Int) < (x.params.length : Int) := by omega
          clear hc hp hacc
          cases h1 : p.key == Co.kTo with
          | true =>
            cases h3 : p.kind == 3 with
            | true =>
              rw [h1, h3] at hes
              unfold Co.kTo at h1
              have HES := Lib.hid hes
              clear hes
              go_wp2_with fail
              exact ⟨⟨k + 1, by omega, by go_num, by rw [HES.out]; rfl, trivial⟩, by simp [intOf]; omega⟩
            | false =>
              rw [h1, h3] at hes
              unfold Co.kTo at h1
              have HES := Lib.hid hes
              clear hes
              go_wp2_with fail
              exact ⟨⟨k + 1, by omega, by go_num, by rw [HES.out]; rfl, trivial⟩, by simp [intOf]; omega⟩
          | false =>
            rw [h1] at hes
            unfold Co.kTo at h1
            have HES := Lib.hid hes
            clear hes
            go_wp2_with fail
            exact ⟨⟨k + 1, by omega, by go_num, by rw [HES.out]; rfl, trivial⟩, by simp [intOf]; omega⟩
        · obtain rfl : k = x.params.length := by omega
          go_wp2_with fail
          go_ret2
          refine ⟨?_, HB3.out⟩
          show Ending.returned (.tuple #[.string (bA x.text), .string (bA (Co.endp (x.params.take x.params.length)))]) = _
          rw [List.take_length, HZ.out]
    · have ew : W = ([], []) := by rw [hw]; unfold Co.ofItem; dsimp only; rw [if_neg h4]
      subst ew
      obtain rfl : y = [] := hy.symm
      obtain rfl : z = [] := hz.symm
      have h4b : (x.kind != 4) = true := by simpa using h4
      clear hw hy hz
      go_enter Tryz.func30, Tryz.ntmps30
      go_wp2_with fail
      refine H1.out.mono ?_
      rintro e w1 ⟨rfl, hb1⟩
      go_wp2_with fail
      refine (H2.out _).mono ?_
      rintro e w2 ⟨A2, c2, rfl, hb2, hr⟩
      go_wp2_with fail
      all_goals first
        | (exfalso; simp_all; done)
        | (go_ret2; exact ⟨rfl, below_al (Below.onto hb1 hb2) _⟩)

theorem rcoepW_any (s : List UInt8) (w : World) : Calls Tryz.prog 33 #[.string (bA s)] w fun e w' => e = .returned (.int .i64 (Co.coepW s)) ∧ w = w' := by
  unfold Co.coepW
  by_cases h1 : s = Co.wReq
  · rw [if_pos h1]
    have e1 : (s == Co.wReq) = true := beq_iff_eq.2 h1
    unfold Co.wReq at e1
    clear h1
    go_enter Tryz.func33, Tryz.ntmps33
    go_wp2_with fail
    go_ret
    exact ⟨rfl, rfl⟩
  · rw [if_neg h1]
    have e1 : (s == Co.wReq) = false := beq_eq_false_iff_ne.2 h1
    unfold Co.wReq at e1
    clear h1
    by_cases h2 : s = Co.wCred
    · rw [if_pos h2]
      have e2 : (s == Co.wCred) = true := beq_iff_eq.2 h2
      unfold Co.wCred at e2
      clear h2
      go_enter Tryz.func33, Tryz.ntmps33
      go_wp2_with fail
      go_ret
      exact ⟨rfl, rfl⟩
    · rw [if_neg h2]
      have e2 : (s == Co.wCred) = false := beq_eq_false_iff_ne.2 h2
      unfold Co.wCred at e2
      clear h2
      go_enter Tryz.func33, Tryz.ntmps33
      go_wp2_with fail
      go_ret
      exact ⟨rfl, rfl⟩
theorem rcoopW_any (s : List UInt8) (p : Bool) (w : World) : Calls Tryz.prog 31 #[.string (bA s), .bool p] w fun e w' => e = .returned (.int .i64 (Co.coopW s p)) ∧ w = w' := by
  unfold Co.coopW
  by_cases h1 : s = Co.wSame
  · rw [if_pos h1]
    have e1 : (s == Co.wSame) = true := beq_iff_eq.2 h1
    unfold Co.wSame at e1
    clear h1
    cases p with
    | true =>
      go_enter Tryz.func31, Tryz.ntmps31
      go_wp2_with fail
      go_ret
      exact ⟨rfl, rfl⟩
    | false =>
      go_enter Tryz.func31, Tryz.ntmps31
      go_wp2_with fail
      go_ret
      exact ⟨rfl, rfl⟩
  · rw [if_neg h1]
    have e1 : (s == Co.wSame) = false := beq_eq_false_iff_ne.2 h1
    unfold Co.wSame at e1
    clear h1
    by_cases h2 : s = Co.wPop
    · rw [if_pos h2]
      have e2 : (s == Co.wPop) = true := beq_iff_eq.2 h2
      unfold Co.wPop at e2
      clear h2
      go_enter Tryz.func31, Tryz.ntmps31
      go_wp2_with fail
      go_ret
      exact ⟨rfl, rfl⟩
    · rw [if_neg h2]
      have e2 : (s == Co.wPop) = false := beq_eq_false_iff_ne.2 h2
      unfold Co.wPop at e2
      clear h2
      go_enter Tryz.func31, Tryz.ntmps31
      go_wp2_with fail
      go_ret
      exact ⟨rfl, rfl⟩
end Go.Proofs.YtgddmihojladfaaGreatDoor

/- The contracts of the document's two policies. -/
namespace Go.Proofs.YtgddmihojladfaaGreatDoor
open Go.RowKit

set_option maxHeartbeats 4000000 in
set_option maxRecDepth 20000 in
theorem rcoep_any (A : Option Addr) (c n : Nat) (l : List Hd.Hdr) (sec : Bool) (w : World) (hn : l.length = n) (hl : SmallH l) (hA : SeenH w A l) :
    Calls Tryz.prog 18 #[.slice A n c, .bool sec] w fun e w' => e = .returned (plV (Co.coepL l sec)) ∧ Below w.heap.size w w' := by
  obtain ⟨P, hP⟩ : ∃ P, Co.coepL l sec = P := ⟨_, rfl⟩
  rw [hP]
  cases sec with
  | false =>
    obtain rfl : P = Co.noPol := hP.symm
    clear hP hA hl
    go_enter Tryz.func18, Tryz.ntmps18
    go_wp2_with fail
    refine bodyPost_ret (results_emb (p := Co.noPol) rfl _ _ rfl (CBox.new _ _ _)) rfl ⟨rfl, ?_⟩
    exact (Below.refl _ w).alloc (Nat.le_refl _) _
  | true =>
    have hp : P = ⟨Co.coepW (Co.word l Co.nE).1, (Co.word l Co.nE).2, Co.coepW (Co.word l Co.nER).1, (Co.word l Co.nER).2⟩ := hP.symm
    have c1 := fun W (x : SeenH W A l) => rword_any A c n l Co.nE W hn hl (by decide) x
    have c2 := fun W (x : SeenH W A l) => rword_any A c n l Co.nER W hn hl (by decide) x
    obtain ⟨⟨v1, t1⟩, h1⟩ : ∃ a, Co.word l Co.nE = a := ⟨_, rfl⟩
    obtain ⟨⟨v2, t2⟩, h2⟩ : ∃ a, Co.word l Co.nER = a := ⟨_, rfl⟩
    rw [h1] at c1 hp
    rw [h2] at c2 hp
    dsimp only at c1 c2 hp
    have k1 := fun W => rcoepW_any v1 W
    have k2 := fun W => rcoepW_any v2 W
    obtain ⟨a1, e1⟩ : ∃ a, Co.coepW v1 = a := ⟨_, rfl⟩
    obtain ⟨a3, e3⟩ : ∃ a, Co.coepW v2 = a := ⟨_, rfl⟩
    rw [e1] at k1 hp
    rw [e3] at k2 hp
    subst hp
    have C1 := Lib.hid c1; have C2 := Lib.hid c2; have K1 := Lib.hid k1; have K2 := Lib.hid k2
    have HA := Lib.hid hA
    clear c1 c2 k1 k2 h1 h2 e1 e3 hP hA hl
    go_enter Tryz.func18, Tryz.ntmps18
    go_wp2_with fail
    refine (C1.out _ (HA.out.below ((Below.refl _ w).alloc (Nat.le_refl _) _))).mono ?_
    rintro e w1 ⟨rfl, hb1⟩
    have hw1 : Below w.heap.size w w1 := Below.onto1 (Below.refl _ w) hb1
    go_wp2_with fail
    refine (C2.out _ (HA.out.below hw1)).mono ?_
    rintro e w2 ⟨rfl, hb2⟩
    have hw2 := Below.onto hw1 hb2
    have hr : CBox w2 w.heap.size 30 (plC Co.noPol) := CBox.keep (CBox.below (CBox.new w 30 (plC Co.noPol)) hb1 (by simp)) hb2
    have p0 := hr.c 0; have p1 := hr.c 1; have p2 := hr.c 2; have p3 := hr.c 3
    have g0 := hr.fr 0; have g1 := hr.fr 1; have g2 := hr.fr 2; have g3 := hr.fr 3
    simp only [plC, Co.noPol] at p0 p1 p2 p3
    have HR := Lib.hid hr; have HW := Lib.hid hw2
    clear hr hb1 hb2 hw1 hw2 C1 C2
    go_wp2_with fail
    refine (K1.out _).mono ?_
    rintro e w3 ⟨rfl, rfl⟩
    go_wp2_with fail
    refine (K2.out _).mono ?_
    rintro e w3 ⟨rfl, rfl⟩
    go_wp2_with fail
    exact bodyPost_ret (results_emb (p := ⟨a1, t1, a3, t2⟩) rfl _ _ rfl (HR.out.set4 _ _ _ _)) rfl ⟨rfl, below_of (g_set4 (below_g HW.out none) _ _ _ _ (.inl (Nat.le_refl _)))⟩
set_option maxHeartbeats 4000000 in
set_option maxRecDepth 20000 in
theorem rcoop_any (A : Option Addr) (c n : Nat) (l : List Hd.Hdr) (sec : Bool) (w : World) (hn : l.length = n) (hl : SmallH l) (hA : SeenH w A l) :
    Calls Tryz.prog 16 #[.slice A n c, .bool sec] w fun e w' => e = .returned (plV (Co.coopL l sec)) ∧ Below w.heap.size w w' := by
  obtain ⟨P, hP⟩ : ∃ P, Co.coopL l sec = P := ⟨_, rfl⟩
  rw [hP]
  cases sec with
  | false =>
    obtain rfl : P = Co.noPol := hP.symm
    clear hP hA hl
    go_enter Tryz.func16, Tryz.ntmps16
    go_wp2_with fail
    refine bodyPost_ret (results_opn (p := Co.noPol) rfl _ _ rfl (CBox.new _ _ _)) rfl ⟨rfl, ?_⟩
    exact (Below.refl _ w).alloc (Nat.le_refl _) _
  | true =>
    have ce := fun W (x : SeenH W A l) => rcoep_any A c n l true W hn hl x
    have hp : P = ⟨Co.coopW (Co.word l Co.nO).1 (Co.isoB (Co.coepL l true).value), (Co.word l Co.nO).2, Co.coopW (Co.word l Co.nOR).1 (Co.isoB (Co.coepL l true).value || Co.isoB (Co.coepL l true).report), (Co.word l Co.nOR).2⟩ := hP.symm
    obtain ⟨Q, hQ⟩ : ∃ Q, Co.coepL l true = Q := ⟨_, rfl⟩
    rw [hQ] at ce hp
    obtain ⟨ev, et, er, es⟩ := Q
    dsimp only at hp
    have i1 := fun W => risolates_any ev W
    have i2 := fun W => risolates_any er W
    obtain ⟨b1, hb1⟩ : ∃ b, Co.isoB ev = b := ⟨_, rfl⟩
    obtain ⟨b2, hb2⟩ : ∃ b, Co.isoB er = b := ⟨_, rfl⟩
    rw [hb1] at i1 hp
    rw [hb2] at i2 hp
    have c1 := fun W (x : SeenH W A l) => rword_any A c n l Co.nO W hn hl (by decide) x
    have c2 := fun W (x : SeenH W A l) => rword_any A c n l Co.nOR W hn hl (by decide) x
    obtain ⟨⟨v1, t1⟩, h1⟩ : ∃ a, Co.word l Co.nO = a := ⟨_, rfl⟩
    obtain ⟨⟨v2, t2⟩, h2⟩ : ∃ a, Co.word l Co.nOR = a := ⟨_, rfl⟩
    rw [h1] at c1 hp
    rw [h2] at c2 hp
    dsimp only at c1 c2 hp
    have k1 := fun W => rcoopW_any v1 b1 W
    have k2 := fun W => rcoopW_any v2 (b1 || b2) W
    obtain ⟨a1, e1⟩ : ∃ a, Co.coopW v1 b1 = a := ⟨_, rfl⟩
    obtain ⟨a3, e3⟩ : ∃ a, Co.coopW v2 (b1 || b2) = a := ⟨_, rfl⟩
    rw [e1] at k1 hp
    rw [e3] at k2 hp
    subst hp
    have C1 := Lib.hid c1; have C2 := Lib.hid c2; have K1 := Lib.hid k1; have K2 := Lib.hid k2
    have CE := Lib.hid ce
    have I1 := Lib.hid i1; have I2 := Lib.hid i2
    have HA := Lib.hid hA
    clear c1 c2 k1 k2 h1 h2 e1 e3 hP hA hl ce i1 i2 hb1 hb2 hQ
    go_enter Tryz.func16, Tryz.ntmps16
    go_wp2_with fail
    refine (CE.out _ (HA.out.below ((Below.refl _ w).alloc (Nat.le_refl _) _))).mono ?_
    rintro e w1 ⟨rfl, hb1⟩
    have hw1 : Below w.heap.size w w1 := Below.onto1 (Below.refl _ w) hb1
    have hr1 : CBox w1 w.heap.size 28 (plC Co.noPol) := CBox.below (CBox.new w 28 (plC Co.noPol)) hb1 (by simp)
    unfold plV plC
    go_wp2_with fail
    refine (I1.out _).mono ?_
    rintro e w1' ⟨rfl, rfl⟩
    go_wp2_with fail
    refine (I2.out _).mono ?_
    rintro e w1' ⟨rfl, rfl⟩
    have hw1a : Below w.heap.size w (w1.alloc (.cells #[.int .i64 ev, .string (bA et), .int .i64 er, .string (bA es)] 30)) := below_al hw1 _
    have hr1a := hr1.alloc (.cells #[.int .i64 ev, .string (bA et), .int .i64 er, .string (bA es)] 30)
    clear hr1 hw1 hb1
    go_wp2_with fail
    refine (C1.out _ (HA.out.below hw1a)).mono ?_
    rintro e w2 ⟨rfl, hb2⟩
    have hw2 := Below.onto hw1a hb2
    have hr2 := hr1a.keep hb2
    clear hw1a hr1a hb2
    go_wp2_with fail
    refine (C2.out _ (HA.out.below hw2)).mono ?_
    rintro e w3 ⟨rfl, hb3⟩
    have hw3 := Below.onto hw2 hb3
    have hr := hr2.keep hb3
    clear hw2 hr2 hb3
    have p0 := hr.c 0; have p1 := hr.c 1; have p2 := hr.c 2; have p3 := hr.c 3
    have g0 := hr.fr 0; have g1 := hr.fr 1; have g2 := hr.fr 2; have g3 := hr.fr 3
    simp only [plC, Co.noPol] at p0 p1 p2 p3
    have HR := Lib.hid hr; have HW := Lib.hid hw3
    clear hr hw3 C1 C2 CE I1 I2
    cases b1 with
    | true =>
      go_wp2_with fail
      refine (K1.out _).mono ?_
      rintro e w4 ⟨rfl, rfl⟩
      go_wp2_with fail
      refine (K2.out _).mono ?_
      rintro e w4 ⟨rfl, rfl⟩
      go_wp2_with fail
      exact bodyPost_ret (results_opn (p := ⟨a1, t1, a3, t2⟩) rfl _ _ rfl (HR.out.set4 _ _ _ _)) rfl ⟨rfl, below_of (g_set4 (below_g HW.out none) _ _ _ _ (.inl (Nat.le_refl _)))⟩
    | false =>
      go_wp2_with fail
      refine (K1.out _).mono ?_
      rintro e w4 ⟨rfl, rfl⟩
      go_wp2_with fail
      refine (K2.out _).mono ?_
      rintro e w4 ⟨rfl, rfl⟩
      go_wp2_with fail
      exact bodyPost_ret (results_opn (p := ⟨a1, t1, a3, t2⟩) rfl _ _ rfl (HR.out.set4 _ _ _ _)) rfl ⟨rfl, below_of (g_set4 (below_g HW.out none) _ _ _ _ (.inl (Nat.le_refl _)))⟩
end Go.Proofs.YtgddmihojladfaaGreatDoor

/- The contracts of the document's Plain and Same. -/

namespace Go.Proofs.YtgddmihojladfaaGreatDoor
open Go.RowKit

set_option maxHeartbeats 4000000 in
set_option maxRecDepth 20000 in
theorem rplain_any (A : Option Addr) (c n : Nat) (l : List Hd.Hdr) (w : World) (hn : l.length = n) (hl : SmallH l) (hA : SeenH w A l) :
    Calls Tryz.prog 14 #[.slice A n c] w fun e w' => ∃ v, e = .returned v ∧ Below w.heap.size w w' ∧ OwnH w' w.heap.size v (Co.plain l) := by
  subst hn
  obtain ⟨i0, hi, hz0, hz1, hz2⟩ := info_parts coHdr
  have HI := Lib.hid hi; have HZ0 := Lib.hid hz0; have HZ1 := Lib.hid hz1; have HZ2 := Lib.hid hz2
  have HA := Lib.hid hA; have HL := Lib.hid hl
  have hll := hl.len
  clear hi hz0 hz1 hz2 hA hl
  go_enter Tryz.func14, Tryz.ntmps14
  go_wp2
  go_loopw [3, 4] (fun vv i wr => ∃ k : Nat, k ≤ l.length ∧ i = .int .i64 k ∧ Hid (OwnH wr w.heap.size vv (Co.plain (l.take k))) ∧ Hid (Below w.heap.size w wr)) (fun _ i _ => l.length - (intOf i).toNat)
  case atStart => exact ⟨0, by omega, rfl, Lib.hid (own_nil _ _), Lib.hid (Below.refl _ _)⟩
  case round =>
    obtain ⟨k, hk, rfl, hrow, hbel⟩ := hrel
    by_cases hlt : k < l.length
    · obtain ⟨g, o, rfl, hg, hc⟩ := HA.out.below hbel.out (by omega)
      have hce := hc k hlt
      have c0 := hce.1; have c1 := hce.2
      have hsm := HL.out.each l[k] (List.getElem_mem hlt)
      have hps := plain_succ hlt
      obtain ⟨x, hx⟩ : ∃ x, l[k] = x := ⟨_, rfl⟩
      rw [hx] at c0 c1 hsm hps
      have hcall := fun W => rlower_any (bA x.name) W (by rw [bA_size]; have := hsm.1; unfold maxLen; omega)
      have hpl := plain_le (l.take k)
      rw [List.length_take] at hpl
      have hpl2 : (Co.plain (l.take k)).length ≤ 1000 := by omega
      have hltz : (k : Int) < (l.length : Int) := by omega
      clear hc hce hx hsm hpl
      unfold Co.repB at hps
      obtain ⟨y, hy⟩ : ∃ y, Oct.lower x.name = y := ⟨_, rfl⟩
      rw [hy] at hps
      have hcall' : ∀ W, Calls Tryz.prog 27 #[.string (bA x.name)] W fun e w' => e = .returned (.string (bA y)) ∧ Below W.heap.size W w' := fun W => by rw [← hy]; exact hcall W
      have HC := Lib.hid hcall'
      clear hy hcall hcall'
      obtain ⟨P, hP⟩ : ∃ P, Co.plain (l.take k) = P := ⟨_, rfl⟩
      rw [hP] at hps hrow hpl2
      clear hP
      go_wp2_with fail
      refine (HC.out _).mono ?_
      rintro e w1 ⟨rfl, hb1⟩
      have hw1 : Below w.heap.size w w1 := Below.onto hbel.out hb1
      have hr1 : OwnH w1 w.heap.size _ P := OwnH.below hrow.out hb1
      have hce1 : Cells2 w1 g (o + k * 2) x := Cells2.below ⟨c0, c1⟩ hg hb1
      have HRW : Hid (OwnH w1 w.heap.size _ P ∧ Below w.heap.size w w1) := Lib.hid ⟨hr1, hw1⟩
      clear hb1 hrow hbel c0 c1 hr1 hw1
      cases h1 : y == Co.nOR with
      | true =>
        rw [h1] at hps
        have e1 : (y != Co.nOR) = false := by simp only [bne, h1]; rfl
        unfold Co.nOR at e1 h1
        have HPS : Hid (Co.plain (l.take (k + 1)) = P) := Lib.hid (by rw [hps]; simp)
        clear hps hce1
        go_wp2_with fail
        exact ⟨⟨k + 1, by omega, by go_num, by rw [HPS.out]; exact Lib.hid HRW.out.1, Lib.hid HRW.out.2⟩, by simp [intOf]; omega⟩
      | false =>
        rw [h1] at hps
        have e1 : (y != Co.nOR) = true := by simp only [bne, h1]; rfl
        unfold Co.nOR at e1 h1
        cases h2 : y == Co.nER with
        | true =>
          rw [h2] at hps
          have e2 : (y != Co.nER) = false := by simp only [bne, h2]; rfl
          unfold Co.nER at e2 h2
          have HPS : Hid (Co.plain (l.take (k + 1)) = P) := Lib.hid (by rw [hps]; simp)
          clear hps hce1
          go_wp2_with fail
          exact ⟨⟨k + 1, by omega, by go_num, by rw [HPS.out]; exact Lib.hid HRW.out.1, Lib.hid HRW.out.2⟩, by simp [intOf]; omega⟩
        | false =>
          rw [h2] at hps
          have e2 : (y != Co.nER) = true := by simp only [bne, h2]; rfl
          unfold Co.nER at e2 h2
          have HPS : Hid (Co.plain (l.take (k + 1)) = P ++ [x]) := Lib.hid (by rw [hps]; simp)
          have d0 := hce1.1; have d1 := hce1.2
          have hws : w.heap.size ≤ w1.heap.size := HRW.out.2.size
          clear hps hce1
          go_wp2_with (at_builtin; refine wpList_append_own _ rfl _ _ 23 rfl w.heap.size 35 i0 (.agg #[.string ⟨#[]⟩, .string ⟨#[]⟩]) 2 32 Tryz.underlying23 HI.out HZ0.out HZ1.out HZ2.out rfl (by decide) _ _ _ rfl (HRW.out.1.alloc _) ⟨w1.heap.size, 0, none⟩ 1 1 [.string (bA x.name), .string (bA x.value)] rfl rfl (cells_new _ _ _) (by simp [Value.oneCell']) (by unfold maxLen; omega) (by omega) (by simp; omega) ?_; intro v' w3 hown' hgrow _)
          have hb3 := hrow_step HRW.out.2 HRW.out.1 hgrow
          have hown3 : OwnH w3 w.heap.size v' (P ++ [x]) := by unfold OwnH; rw [rowH_snoc, List.length_append]; exact hown'
          exact ⟨⟨k + 1, by omega, by go_num, by rw [HPS.out]; exact Lib.hid hown3, Lib.hid hb3⟩, by simp [intOf]; omega⟩
    · obtain rfl : k = l.length := by omega
      have hrow2 := hrow.out
      rw [List.take_of_length_le (Nat.le_refl _)] at hrow2
      have HR := Lib.hid hrow2
      clear hrow hrow2
      go_wp2_with fail
      go_ret
      exact ⟨_, rfl, hbel.out, HR.out⟩

theorem eqIn_hdr (a : Hd.Hdr) (w : World) : (Op.equalIn 10000 35 (.agg #[.string (bA a.name), .string (bA a.value)]) (.agg #[.string (bA a.name), .string (bA a.value)])).run Tryz.prog w = .ok true w := by
  simp [go_sem]
/-- What stands while two headers are held against each other. -/
structure RdyH (w0 : World) (g1 o1 g2 o2 : Nat) (x : Hd.Hdr) (W : World) : Prop where
  b : Below w0.heap.size w0 W
  lt1 : g1 < w0.heap.size
  lt2 : g2 < w0.heap.size
  c1 : Cells2 W g1 o1 x
  c2 : Cells2 W g2 o2 x
theorem RdyH.drew {w0 : World} {g1 o1 g2 o2 : Nat} {x : Hd.Hdr} {W : World} (h : RdyH w0 g1 o1 g2 o2 x W) : RdyH w0 g1 o1 g2 o2 x W.drew := ⟨Below.onto h.b (Below.refl _ W).drew, h.lt1, h.lt2, h.c1, h.c2⟩
theorem RdyH.all {w0 : World} {g1 o1 g2 o2 : Nat} {x : Hd.Hdr} {W : World} (h : RdyH w0 g1 o1 g2 o2 x W) :
    W.cell? ⟨g1, o1, none⟩ = some (.string (bA x.name)) ∧ W.cell? ⟨g1, o1 + 1, none⟩ = some (.string (bA x.value)) ∧ W.cell? ⟨g2, o2, none⟩ = some (.string (bA x.name)) ∧ W.cell? ⟨g2, o2 + 1, none⟩ = some (.string (bA x.value)) ∧ RdyH w0 g1 o1 g2 o2 x W :=
  ⟨h.c1.1, h.c1.2, h.c2.1, h.c2.2, h⟩
set_option maxHeartbeats 4000000 in
set_option maxRecDepth 20000 in
theorem same_self (A B : Option Addr) (c d n : Nat) (l : List Hd.Hdr) (w : World) (hn : l.length = n) (hll : l.length ≤ 100000) (hA : SeenH w A l) (hB : SeenH w B l) :
    Calls Tryz.prog 12 #[.slice A n c, .slice B n d] w fun e w' => e = .returned (.bool true) ∧ Below w.heap.size w w' := by
  subst hn
  have HA := Lib.hid hA; have HB := Lib.hid hB
  clear hA hB
  go_enter Tryz.func12, Tryz.ntmps12
  go_wp2
  go_loopw [5] (fun i wr => ∃ k : Nat, k ≤ l.length ∧ i = .int .i64 k ∧ Hid (Below w.heap.size w wr)) (fun i _ => l.length - (intOf i).toNat)
  case atStart => exact ⟨0, by omega, rfl, Lib.hid (Below.refl _ _)⟩
  case round =>
    obtain ⟨k, hk, rfl, hbel⟩ := hrel
    by_cases hlt : k < l.length
    · obtain ⟨g1, o1, rfl, hg1, hc1⟩ := HA.out.below hbel.out (by omega)
      obtain ⟨g2, o2, rfl, hg2, hc2⟩ := HB.out.below hbel.out (by omega)
      have hr0 : RdyH wr g1 (o1 + k * 2) g2 (o2 + k * 2) l[k] wr := ⟨Below.refl _ _, hg1, hg2, hc1 k hlt, hc2 k hlt⟩
      obtain ⟨x, hx⟩ : ∃ x, l[k] = x := ⟨_, rfl⟩
      rw [hx] at hr0
      have heq := fun W => eqIn_hdr x W
      have hltz : (k : Int) < (l.length : Int) := by omega
      clear hc1 hc2 hx
      go_wp2_with fail
      go_region_held3 (fun w' => w'.cell? ⟨g1, o1 + k * 2, none⟩ = some (.string (bA x.name)) ∧ w'.cell? ⟨g1, o1 + k * 2 + 1, none⟩ = some (.string (bA x.value)) ∧ w'.cell? ⟨g2, o2 + k * 2, none⟩ = some (.string (bA x.name)) ∧ w'.cell? ⟨g2, o2 + k * 2 + 1, none⟩ = some (.string (bA x.value)) ∧ RdyH wr g1 (o1 + k * 2) g2 (o2 + k * 2) x w')
        (first
          | exact hr0.all
          | exact hr0.drew.all)
        (fail)
      all_goals
        rename_i hHeld
        have HB3 := Lib.hid (Below.onto hbel.out hr0.drew.b)
        clear hHeld hr0 heq
        go_wp2_with fail
        exact ⟨⟨k + 1, by omega, by go_num, HB3⟩, by simp [intOf]; omega⟩
    · obtain rfl : k = l.length := by omega
      go_wp2_with fail
      go_ret
      exact ⟨rfl, hbel.out⟩
end Go.Proofs.YtgddmihojladfaaGreatDoor
