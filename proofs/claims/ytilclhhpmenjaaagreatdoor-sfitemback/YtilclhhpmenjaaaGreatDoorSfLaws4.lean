/- The walk of SfitemBack. (Written by mkb.py.) -/
import Derived.Test.YtilclhhpmenjaaaGreatDoorSfSmall
import Derived.Test.YtilclhhpmenjaaaGreatDoorSfLaws3
namespace Go.Proofs.YtilclhhpmenjaaaGreatDoor
open Go.RowKit Go.Shelf Go.Maps Go.Deep

theorem same_is (x : Sf.Itm) (A B : Option Addr) (c d : Nat) (w : World) (hA : SeenP w A x.params) (hB : SeenP w B x.params) (hm : x.params.length ≤ maxLen) :
    Calls Tryz.prog 15 #[.agg #[.int .i64 x.kind, .int .i64 x.n, .string (bA x.text), .slice A x.params.length c], .agg #[.int .i64 x.kind, .int .i64 x.n, .string (bA x.text), .slice B x.params.length d]] w fun e w' => e = .returned (.bool true) ∧ Below w.heap.size w w' := by
  have := same_any x.kind x.n x.kind x.n x.text x.text A B c d x.params x.params w hA hB hm
  rw [decide_eq_true rfl] at this
  exact this
theorem text_yes {x : Sf.Itm} {tx : List UInt8} (h : Sf.text x = some tx) (hS : SmallI x.kind x.n x.text x.params) (A : Option Addr) (c : Nat) (w : World) (hA : SeenP w A x.params) (hT : Tab w) (hM : TabM w) :
    Calls Tryz.prog 24 #[.agg #[.int .i64 x.kind, .int .i64 x.n, .string (bA x.text), .slice A x.params.length c]] w fun e w' => e = .returned (.tuple #[.string (bA tx), .int .i64 0]) ∧ Below w.heap.size w w' := by
  have := text_any x.kind x.n x.text A c x.params w hS hA hT hM
  rw [show (⟨x.kind, x.n, x.text, x.params⟩ : Sf.Itm) = x from rfl, h] at this
  exact this
theorem text_no {x : Sf.Itm} (h : Sf.text x = none) (hS : SmallI x.kind x.n x.text x.params) (A : Option Addr) (c : Nat) (w : World) (hA : SeenP w A x.params) (hT : Tab w) (hM : TabM w) :
    Calls Tryz.prog 24 #[.agg #[.int .i64 x.kind, .int .i64 x.n, .string (bA x.text), .slice A x.params.length c]] w fun e w' => e = .returned (.tuple #[.string ⟨#[]⟩, .int .i64 50]) ∧ Below w.heap.size w w' := by
  have := text_any x.kind x.n x.text A c x.params w hS hA hT hM
  rw [show (⟨x.kind, x.n, x.text, x.params⟩ : Sf.Itm) = x from rfl, h] at this
  exact this

set_option maxHeartbeats 8000000 in
set_option maxRecDepth 100000 in
theorem walk_SfitemBack (k n : Int) (t : List UInt8) (A : Option Addr) (c : Nat) (l : List Sf.Par) (s : ByteArray) (w : World) (hI : WideI w n t A l) (hs : s.size ≤ maxLen) (hT : Tab w) (hM : TabM w) :
    Calls Tryz.prog 7 #[.agg #[.int .i64 k, .int .i64 n, .string (bA t), .slice A l.length c], .string s] w fun e w' => e = .returned (.bool true) ∧ Below w.heap.size w w' := by
  unfold maxLen at hs
  have hb0 : Below w.heap.size w (w.alloc (.cells (iC k n t (.slice A l.length c)) 25)) := (Below.refl _ _).alloc (Nat.le_refl _) _
  have HB0 := Lib.hid hb0
  have HX0 := Lib.hid (CBox.new w 25 (iC k n t (.slice A l.length c)))
  have H := Lib.hid (awake_any _ (hT.below hb0) (hM.below hb0))
  have HT := Lib.hid hT; have HM := Lib.hid hM; have HS := Lib.hid hI.seen
  have HF := Lib.hid (fun (W : World) (h : SeenP W A l) => few_any k n t A c l W h hI.text hI.len)
  have HL := Lib.hid hI.len
  cases hf : fewB t l with
  | false =>
    rw [hf] at HF
    clear hf hI hb0 hT hM
    go_enter Tryz.func7, Tryz.ntmps7
    go_wp2_with fail
    refine H.out.mono ?_
    rintro e w1 ⟨rfl, hb1⟩
    have HB1 := Lib.hid (onto HB0.out hb1)
    have HX1 := Lib.hid (HX0.out.keep hb1)
    obtain ⟨c0, c1, c2, c3, _, _, _, _⟩ := HX1.out.all4
    clear hb1 HX0
    go_wp2_with fail
    refine (HF.out _ (HS.out.below HB1.out)).mono ?_
    rintro e w2 ⟨rfl, hb2⟩
    have HB2 := Lib.hid (onto HB1.out hb2)
    have HX2 := Lib.hid (HX1.out.keep hb2)
    clear c0 c1 c2 c3 hb2 HF
    go_wp2_with fail
    go_ret
    exact ⟨rfl, HB2.out⟩
  | true =>
    have HSm := Lib.hid (small_few (k := k) hf hI.n0 hI.n1 hI.each)
    rw [hf] at HF
    clear hf hI hb0 hT hM
    by_cases hl : 1000 < s.size
    · have hl' : (1000 : Int) < (s.size : Int) := by omega
      go_enter Tryz.func7, Tryz.ntmps7
      go_wp2_with fail
      refine H.out.mono ?_
      rintro e w1 ⟨rfl, hb1⟩
      have HB1 := Lib.hid (onto HB0.out hb1)
      have HX1 := Lib.hid (HX0.out.keep hb1)
      obtain ⟨c0, c1, c2, c3, _, _, _, _⟩ := HX1.out.all4
      clear hb1 HX0
      go_wp2_with fail
      refine (HF.out _ (HS.out.below HB1.out)).mono ?_
      rintro e w2 ⟨rfl, hb2⟩
      have HB2 := Lib.hid (onto HB1.out hb2)
      have HX2 := Lib.hid (HX1.out.keep hb2)
      clear c0 c1 c2 c3 hb2 HF
      go_wp2_with fail
      go_ret
      exact ⟨rfl, HB2.out⟩
    · have hl' : (s.size : Int) ≤ 1000 := by omega
      have hll : s.data.toList.length = s.size := by simp
      cases hps : Sf.parse s.data.toList with
      | none =>
        have HP : Hid (∀ W : World, Calls Tryz.prog 13 #[.string s] W fun e w' => e = .returned (.tuple #[.agg #[.int .i64 0, .int .i64 0, .string ⟨#[]⟩, .slice none 0 0], .int .i64 50]) ∧ Below W.heap.size W w') := Lib.hid (fun W => parse_none hps W)
        clear hps
        cases htx : Sf.text ⟨k, n, t, l⟩ with
        | none =>
          have HTX := Lib.hid (fun (W : World) (a : SeenP W A l) (b : Tab W) (d : TabM W) => text_no (x := ⟨k, n, t, l⟩) htx HSm.out A c W a b d)
          clear htx
          go_enter Tryz.func7, Tryz.ntmps7
          go_wp2_with fail
          refine H.out.mono ?_
          rintro e w1 ⟨rfl, hb1⟩
          have HB1 := Lib.hid (onto HB0.out hb1)
          have HX1 := Lib.hid (HX0.out.keep hb1)
          obtain ⟨c0, c1, c2, c3, _, _, _, _⟩ := HX1.out.all4
          clear hb1 HX0
          go_wp2_with fail
          refine (HF.out _ (HS.out.below HB1.out)).mono ?_
          rintro e w2 ⟨rfl, hb2⟩
          have HB2 := Lib.hid (onto HB1.out hb2)
          have HX2 := Lib.hid (HX1.out.keep hb2)
          clear c0 c1 c2 c3 hb2 HF
          obtain ⟨c0, c1, c2, c3, _, _, _, _⟩ := HX2.out.all4
          go_wp2_with fail
          refine (HTX.out _ (HS.out.below HB2.out) (HT.out.below HB2.out) (HM.out.below HB2.out)).mono ?_
          rintro e w3 ⟨rfl, hb3⟩
          have HB3 := Lib.hid (onto HB2.out hb3)
          have HX3 := Lib.hid (HX2.out.keep hb3)
          clear hb3 c0 c1 c2 c3 HX2 HTX
          go_wp2_with fail
          refine (HP.out _).mono ?_
          rintro e w7 ⟨rfl, hb7⟩
          have HB7 := Lib.hid (below_al (onto HB3.out hb7) (.cells (iC 0 0 [] (.slice none 0 0)) 25))
          clear hb7
          go_wp2_with fail
          go_ret
          exact ⟨rfl, HB7.out⟩
        | some tx =>
          have HTX := Lib.hid (fun (W : World) (a : SeenP W A l) (b : Tab W) (d : TabM W) => text_yes (x := ⟨k, n, t, l⟩) htx HSm.out A c W a b d)
          by_cases hx : tx.length ≤ 4000
          · have hx' : (tx.length : Int) ≤ 4000 := by omega
            have HPX := Lib.hid (fun (W : World) => parse_some (Sf.parse_text htx hx) W)
            clear htx hx
            go_enter Tryz.func7, Tryz.ntmps7
            go_wp2_with fail
            refine H.out.mono ?_
            rintro e w1 ⟨rfl, hb1⟩
            have HB1 := Lib.hid (onto HB0.out hb1)
            have HX1 := Lib.hid (HX0.out.keep hb1)
            obtain ⟨c0, c1, c2, c3, _, _, _, _⟩ := HX1.out.all4
            clear hb1 HX0
            go_wp2_with fail
            refine (HF.out _ (HS.out.below HB1.out)).mono ?_
            rintro e w2 ⟨rfl, hb2⟩
            have HB2 := Lib.hid (onto HB1.out hb2)
            have HX2 := Lib.hid (HX1.out.keep hb2)
            clear c0 c1 c2 c3 hb2 HF
            obtain ⟨c0, c1, c2, c3, _, _, _, _⟩ := HX2.out.all4
            go_wp2_with fail
            refine (HTX.out _ (HS.out.below HB2.out) (HT.out.below HB2.out) (HM.out.below HB2.out)).mono ?_
            rintro e w3 ⟨rfl, hb3⟩
            have HB3 := Lib.hid (onto HB2.out hb3)
            have HX3 := Lib.hid (HX2.out.keep hb3)
            clear hb3 c0 c1 c2 c3 HX2 HTX
            go_wp2_with fail
            refine (HPX.out _).mono ?_
            rintro e w4 ⟨A4, cp4, rfl, hb4, ho4⟩
            have HB4 := Lib.hid (below_al (onto HB3.out hb4) (.cells (iC k n t (.slice A4 l.length cp4)) 25))
            have hZ4 := IBox.new (k := k) (n := n) (t := t) (l := l) ho4
            have HE4 : Hid (Calls Tryz.prog 15 #[.agg #[.int .i64 k, .int .i64 n, .string (bA t), .slice A l.length c], .agg #[.int .i64 k, .int .i64 n, .string (bA t), .slice A4 l.length cp4]] (w4.alloc (.cells (iC k n t (.slice A4 l.length cp4)) 25)) fun e w' => e = .returned (.bool true) ∧ Below (w4.alloc (.cells (iC k n t (.slice A4 l.length cp4)) 25)).heap.size (w4.alloc (.cells (iC k n t (.slice A4 l.length cp4)) 25)) w') := Lib.hid (same_is ⟨k, n, t, l⟩ A A4 c cp4 _ (HS.out.below HB4.out) hZ4.seen HL.out)
            have hx4 := HX3.out.keep hb4
            have hlt := hx4.lt
            obtain ⟨c0, c1, c2, c3, _, _, _, _⟩ := hx4.all4
            have hne : ¬ w.heap.size = w4.heap.size := by omega
            clear hb4 ho4 hZ4 hx4 HX3 HPX
            go_wp2_with fail
            refine HE4.out.mono ?_
            rintro e w5 ⟨rfl, hb5⟩
            have HB5 := Lib.hid (onto HB4.out hb5)
            clear hb5 HE4 c0 c1 c2 c3 hne hlt
            go_wp2_with fail
            refine (HP.out _).mono ?_
            rintro e w7 ⟨rfl, hb7⟩
            have HB7 := Lib.hid (below_al (onto HB5.out hb7) (.cells (iC 0 0 [] (.slice none 0 0)) 25))
            clear hb7
            go_wp2_with fail
            go_ret
            exact ⟨rfl, HB7.out⟩
          · have hx' : decide ((tx.length : Int) ≤ 4000) = false := decide_eq_false (by omega)
            clear htx hx
            go_enter Tryz.func7, Tryz.ntmps7
            go_wp2_with fail
            refine H.out.mono ?_
            rintro e w1 ⟨rfl, hb1⟩
            have HB1 := Lib.hid (onto HB0.out hb1)
            have HX1 := Lib.hid (HX0.out.keep hb1)
            obtain ⟨c0, c1, c2, c3, _, _, _, _⟩ := HX1.out.all4
            clear hb1 HX0
            go_wp2_with fail
            refine (HF.out _ (HS.out.below HB1.out)).mono ?_
            rintro e w2 ⟨rfl, hb2⟩
            have HB2 := Lib.hid (onto HB1.out hb2)
            have HX2 := Lib.hid (HX1.out.keep hb2)
            clear c0 c1 c2 c3 hb2 HF
            obtain ⟨c0, c1, c2, c3, _, _, _, _⟩ := HX2.out.all4
            go_wp2_with fail
            refine (HTX.out _ (HS.out.below HB2.out) (HT.out.below HB2.out) (HM.out.below HB2.out)).mono ?_
            rintro e w3 ⟨rfl, hb3⟩
            have HB3 := Lib.hid (onto HB2.out hb3)
            have HX3 := Lib.hid (HX2.out.keep hb3)
            clear hb3 c0 c1 c2 c3 HX2 HTX
            go_wp2_with fail
            refine (HP.out _).mono ?_
            rintro e w7 ⟨rfl, hb7⟩
            have HB7 := Lib.hid (below_al (onto HB3.out hb7) (.cells (iC 0 0 [] (.slice none 0 0)) 25))
            clear hb7
            go_wp2_with fail
            go_ret
            exact ⟨rfl, HB7.out⟩
      | some y =>
        obtain ⟨ty, hty, _, hpy⟩ := Sf.parse_again hps
        have HP : Hid (∀ W : World, Calls Tryz.prog 13 #[.string s] W fun e w' => ∃ A c, e = .returned (.tuple #[.agg #[.int .i64 y.kind, .int .i64 y.n, .string (bA y.text), .slice A y.params.length c], .int .i64 0]) ∧ Below W.heap.size W w' ∧ w'.ownsRow W.heap.size 44 4 (.slice A y.params.length c) y.params.length (parsRow y.params)) := Lib.hid (fun W => parse_some hps W)
        have HYT := Lib.hid (fun (A : Option Addr) (c : Nat) (W : World) (a : SeenP W A y.params) (b : Tab W) (d : TabM W) => text_yes hty (small_parse hps) A c W a b d)
        have HYP := Lib.hid (fun (W : World) => parse_some hpy W)
        clear hps hty hpy
        cases htx : Sf.text ⟨k, n, t, l⟩ with
        | none =>
          have HTX := Lib.hid (fun (W : World) (a : SeenP W A l) (b : Tab W) (d : TabM W) => text_no (x := ⟨k, n, t, l⟩) htx HSm.out A c W a b d)
          clear htx
          go_enter Tryz.func7, Tryz.ntmps7
          go_wp2_with fail
          refine H.out.mono ?_
          rintro e w1 ⟨rfl, hb1⟩
          have HB1 := Lib.hid (onto HB0.out hb1)
          have HX1 := Lib.hid (HX0.out.keep hb1)
          obtain ⟨c0, c1, c2, c3, _, _, _, _⟩ := HX1.out.all4
          clear hb1 HX0
          go_wp2_with fail
          refine (HF.out _ (HS.out.below HB1.out)).mono ?_
          rintro e w2 ⟨rfl, hb2⟩
          have HB2 := Lib.hid (onto HB1.out hb2)
          have HX2 := Lib.hid (HX1.out.keep hb2)
          clear c0 c1 c2 c3 hb2 HF
          obtain ⟨c0, c1, c2, c3, _, _, _, _⟩ := HX2.out.all4
          go_wp2_with fail
          refine (HTX.out _ (HS.out.below HB2.out) (HT.out.below HB2.out) (HM.out.below HB2.out)).mono ?_
          rintro e w3 ⟨rfl, hb3⟩
          have HB3 := Lib.hid (onto HB2.out hb3)
          have HX3 := Lib.hid (HX2.out.keep hb3)
          clear hb3 c0 c1 c2 c3 HX2 HTX
          go_wp2_with fail
          refine (HP.out _).mono ?_
          rintro e w7 ⟨A7, cp7, rfl, hb7, ho7⟩
          have HB7 := Lib.hid (below_al (onto HB3.out hb7) (.cells (iC y.kind y.n y.text (.slice A7 y.params.length cp7)) 25))
          have HY7 := Lib.hid (IBox.new (k := y.kind) (n := y.n) (t := y.text) ho7)
          clear hb7 ho7
          go_wp2_with fail
          refine (HYT.out _ _ _ HY7.out.seen (HT.out.below HB7.out) (HM.out.below HB7.out)).mono ?_
          rintro e w8 ⟨rfl, hb8⟩
          have HB8 := Lib.hid (onto HB7.out hb8)
          have HY8 := Lib.hid (HY7.out.keep hb8)
          clear hb8 HY7
          go_wp2_with fail
          refine (HYP.out _).mono ?_
          rintro e w9 ⟨A9, cp9, rfl, hb9, ho9⟩
          have HB9 := Lib.hid (below_al (onto HB8.out hb9) (.cells (iC y.kind y.n y.text (.slice A9 y.params.length cp9)) 25))
          have hY9 := (HY8.out.keep hb9).alloc (.cells (iC y.kind y.n y.text (.slice A9 y.params.length cp9)) 25)
          have hZ9 := IBox.new (k := y.kind) (n := y.n) (t := y.text) ho9
          have HE := Lib.hid (same_is y A7 A9 cp7 cp9 _ hY9.seen hZ9.seen hY9.len)
          have hlt := (HY8.out.keep hb9).lt
          obtain ⟨d0, d1, d2, d3⟩ := (HY8.out.keep hb9).cells
          have hne : ¬ w7.heap.size = w9.heap.size := by omega
          clear hb9 ho9 hY9 hZ9 HY8
          go_wp2_with fail
          refine HE.out.mono ?_
          rintro e w10 ⟨rfl, hb10⟩
          have HB10 := Lib.hid (onto HB9.out hb10)
          clear hb10 HE
          go_wp2_with fail
          go_ret
          exact ⟨rfl, HB10.out⟩
        | some tx =>
          have HTX := Lib.hid (fun (W : World) (a : SeenP W A l) (b : Tab W) (d : TabM W) => text_yes (x := ⟨k, n, t, l⟩) htx HSm.out A c W a b d)
          by_cases hx : tx.length ≤ 4000
          · have hx' : (tx.length : Int) ≤ 4000 := by omega
            have HPX := Lib.hid (fun (W : World) => parse_some (Sf.parse_text htx hx) W)
            clear htx hx
            go_enter Tryz.func7, Tryz.ntmps7
            go_wp2_with fail
            refine H.out.mono ?_
            rintro e w1 ⟨rfl, hb1⟩
            have HB1 := Lib.hid (onto HB0.out hb1)
            have HX1 := Lib.hid (HX0.out.keep hb1)
            obtain ⟨c0, c1, c2, c3, _, _, _, _⟩ := HX1.out.all4
            clear hb1 HX0
            go_wp2_with fail
            refine (HF.out _ (HS.out.below HB1.out)).mono ?_
            rintro e w2 ⟨rfl, hb2⟩
            have HB2 := Lib.hid (onto HB1.out hb2)
            have HX2 := Lib.hid (HX1.out.keep hb2)
            clear c0 c1 c2 c3 hb2 HF
            obtain ⟨c0, c1, c2, c3, _, _, _, _⟩ := HX2.out.all4
            go_wp2_with fail
            refine (HTX.out _ (HS.out.below HB2.out) (HT.out.below HB2.out) (HM.out.below HB2.out)).mono ?_
            rintro e w3 ⟨rfl, hb3⟩
            have HB3 := Lib.hid (onto HB2.out hb3)
            have HX3 := Lib.hid (HX2.out.keep hb3)
            clear hb3 c0 c1 c2 c3 HX2 HTX
            go_wp2_with fail
            refine (HPX.out _).mono ?_
            rintro e w4 ⟨A4, cp4, rfl, hb4, ho4⟩
            have HB4 := Lib.hid (below_al (onto HB3.out hb4) (.cells (iC k n t (.slice A4 l.length cp4)) 25))
            have hZ4 := IBox.new (k := k) (n := n) (t := t) (l := l) ho4
            have HE4 : Hid (Calls Tryz.prog 15 #[.agg #[.int .i64 k, .int .i64 n, .string (bA t), .slice A l.length c], .agg #[.int .i64 k, .int .i64 n, .string (bA t), .slice A4 l.length cp4]] (w4.alloc (.cells (iC k n t (.slice A4 l.length cp4)) 25)) fun e w' => e = .returned (.bool true) ∧ Below (w4.alloc (.cells (iC k n t (.slice A4 l.length cp4)) 25)).heap.size (w4.alloc (.cells (iC k n t (.slice A4 l.length cp4)) 25)) w') := Lib.hid (same_is ⟨k, n, t, l⟩ A A4 c cp4 _ (HS.out.below HB4.out) hZ4.seen HL.out)
            have hx4 := HX3.out.keep hb4
            have hlt := hx4.lt
            obtain ⟨c0, c1, c2, c3, _, _, _, _⟩ := hx4.all4
            have hne : ¬ w.heap.size = w4.heap.size := by omega
            clear hb4 ho4 hZ4 hx4 HX3 HPX
            go_wp2_with fail
            refine HE4.out.mono ?_
            rintro e w5 ⟨rfl, hb5⟩
            have HB5 := Lib.hid (onto HB4.out hb5)
            clear hb5 HE4 c0 c1 c2 c3 hne hlt
            go_wp2_with fail
            refine (HP.out _).mono ?_
            rintro e w7 ⟨A7, cp7, rfl, hb7, ho7⟩
            have HB7 := Lib.hid (below_al (onto HB5.out hb7) (.cells (iC y.kind y.n y.text (.slice A7 y.params.length cp7)) 25))
            have HY7 := Lib.hid (IBox.new (k := y.kind) (n := y.n) (t := y.text) ho7)
            clear hb7 ho7
            go_wp2_with fail
            refine (HYT.out _ _ _ HY7.out.seen (HT.out.below HB7.out) (HM.out.below HB7.out)).mono ?_
            rintro e w8 ⟨rfl, hb8⟩
            have HB8 := Lib.hid (onto HB7.out hb8)
            have HY8 := Lib.hid (HY7.out.keep hb8)
            clear hb8 HY7
            go_wp2_with fail
            refine (HYP.out _).mono ?_
            rintro e w9 ⟨A9, cp9, rfl, hb9, ho9⟩
            have HB9 := Lib.hid (below_al (onto HB8.out hb9) (.cells (iC y.kind y.n y.text (.slice A9 y.params.length cp9)) 25))
            have hY9 := (HY8.out.keep hb9).alloc (.cells (iC y.kind y.n y.text (.slice A9 y.params.length cp9)) 25)
            have hZ9 := IBox.new (k := y.kind) (n := y.n) (t := y.text) ho9
            have HE := Lib.hid (same_is y A7 A9 cp7 cp9 _ hY9.seen hZ9.seen hY9.len)
            have hlt := (HY8.out.keep hb9).lt
            obtain ⟨d0, d1, d2, d3⟩ := (HY8.out.keep hb9).cells
            have hne : ¬ w7.heap.size = w9.heap.size := by omega
            clear hb9 ho9 hY9 hZ9 HY8
            go_wp2_with fail
            refine HE.out.mono ?_
            rintro e w10 ⟨rfl, hb10⟩
            have HB10 := Lib.hid (onto HB9.out hb10)
            clear hb10 HE
            go_wp2_with fail
            go_ret
            exact ⟨rfl, HB10.out⟩
          · have hx' : decide ((tx.length : Int) ≤ 4000) = false := decide_eq_false (by omega)
            clear htx hx
            go_enter Tryz.func7, Tryz.ntmps7
            go_wp2_with fail
            refine H.out.mono ?_
            rintro e w1 ⟨rfl, hb1⟩
            have HB1 := Lib.hid (onto HB0.out hb1)
            have HX1 := Lib.hid (HX0.out.keep hb1)
            obtain ⟨c0, c1, c2, c3, _, _, _, _⟩ := HX1.out.all4
            clear hb1 HX0
            go_wp2_with fail
            refine (HF.out _ (HS.out.below HB1.out)).mono ?_
            rintro e w2 ⟨rfl, hb2⟩
            have HB2 := Lib.hid (onto HB1.out hb2)
            have HX2 := Lib.hid (HX1.out.keep hb2)
            clear c0 c1 c2 c3 hb2 HF
            obtain ⟨c0, c1, c2, c3, _, _, _, _⟩ := HX2.out.all4
            go_wp2_with fail
            refine (HTX.out _ (HS.out.below HB2.out) (HT.out.below HB2.out) (HM.out.below HB2.out)).mono ?_
            rintro e w3 ⟨rfl, hb3⟩
            have HB3 := Lib.hid (onto HB2.out hb3)
            have HX3 := Lib.hid (HX2.out.keep hb3)
            clear hb3 c0 c1 c2 c3 HX2 HTX
            go_wp2_with fail
            refine (HP.out _).mono ?_
            rintro e w7 ⟨A7, cp7, rfl, hb7, ho7⟩
            have HB7 := Lib.hid (below_al (onto HB3.out hb7) (.cells (iC y.kind y.n y.text (.slice A7 y.params.length cp7)) 25))
            have HY7 := Lib.hid (IBox.new (k := y.kind) (n := y.n) (t := y.text) ho7)
            clear hb7 ho7
            go_wp2_with fail
            refine (HYT.out _ _ _ HY7.out.seen (HT.out.below HB7.out) (HM.out.below HB7.out)).mono ?_
            rintro e w8 ⟨rfl, hb8⟩
            have HB8 := Lib.hid (onto HB7.out hb8)
            have HY8 := Lib.hid (HY7.out.keep hb8)
            clear hb8 HY7
            go_wp2_with fail
            refine (HYP.out _).mono ?_
            rintro e w9 ⟨A9, cp9, rfl, hb9, ho9⟩
            have HB9 := Lib.hid (below_al (onto HB8.out hb9) (.cells (iC y.kind y.n y.text (.slice A9 y.params.length cp9)) 25))
            have hY9 := (HY8.out.keep hb9).alloc (.cells (iC y.kind y.n y.text (.slice A9 y.params.length cp9)) 25)
            have hZ9 := IBox.new (k := y.kind) (n := y.n) (t := y.text) ho9
            have HE := Lib.hid (same_is y A7 A9 cp7 cp9 _ hY9.seen hZ9.seen hY9.len)
            have hlt := (HY8.out.keep hb9).lt
            obtain ⟨d0, d1, d2, d3⟩ := (HY8.out.keep hb9).cells
            have hne : ¬ w7.heap.size = w9.heap.size := by omega
            clear hb9 ho9 hY9 hZ9 HY8
            go_wp2_with fail
            refine HE.out.mono ?_
            rintro e w10 ⟨rfl, hb10⟩
            have HB10 := Lib.hid (onto HB9.out hb10)
            clear hb10 HE
            go_wp2_with fail
            go_ret
            exact ⟨rfl, HB10.out⟩
end Go.Proofs.YtilclhhpmenjaaaGreatDoor
