/- The contracts of the document's two policies. -/
import Derived.Test.YtgddmihojladfaaGreatDoorCoRef1
import Derived.Test.YtgddmihojladfaaGreatDoorCoPol
namespace Go.Proofs.YtgddmihojladfaaGreatDoor
open Go.RowKit

set_option maxHeartbeats 4000000 in
set_option maxRecDepth 20000 in
theorem rcoep_any (A : Option Addr) (c n : Nat) (l : List Hd.Hdr) (sec : Bool) (w : World) (hn : l.length = n) (hl : SmallH l) (hA : SeenH w A l) :
    Calls Tryz.prog 18 #[.slice A n c, .bool sec] w fun e w' => e = .returned (plV (Co.coepL l sec)) ∧ Below w.heap.size w w' := by
  obtain ⟨P, hP⟩ : ∃ P, Co.coepL l sec = P := ⟨_, rfl⟩
  rw [hP]
  cases sec with
  | false =>
    obtain rfl : P = Co.noPol := hP.symm
    clear hP hA hl
    go_enter Tryz.func18, Tryz.ntmps18
    go_wp2_with fail
    refine bodyPost_ret (results_emb (p := Co.noPol) rfl _ _ rfl (CBox.new _ _ _)) rfl ⟨rfl, ?_⟩
    exact (Below.refl _ w).alloc (Nat.le_refl _) _
  | true =>
    have hp : P = ⟨Co.coepW (Co.word l Co.nE).1, (Co.word l Co.nE).2, Co.coepW (Co.word l Co.nER).1, (Co.word l Co.nER).2⟩ := hP.symm
    have c1 := fun W (x : SeenH W A l) => rword_any A c n l Co.nE W hn hl (by decide) x
    have c2 := fun W (x : SeenH W A l) => rword_any A c n l Co.nER W hn hl (by decide) x
    obtain ⟨⟨v1, t1⟩, h1⟩ : ∃ a, Co.word l Co.nE = a := ⟨_, rfl⟩
    obtain ⟨⟨v2, t2⟩, h2⟩ : ∃ a, Co.word l Co.nER = a := ⟨_, rfl⟩
    rw [h1] at c1 hp
    rw [h2] at c2 hp
    dsimp only at c1 c2 hp
    have k1 := fun W => rcoepW_any v1 W
    have k2 := fun W => rcoepW_any v2 W
    obtain ⟨a1, e1⟩ : ∃ a, Co.coepW v1 = a := ⟨_, rfl⟩
    obtain ⟨a3, e3⟩ : ∃ a, Co.coepW v2 = a := ⟨_, rfl⟩
    rw [e1] at k1 hp
    rw [e3] at k2 hp
    subst hp
    have C1 := Lib.hid c1; have C2 := Lib.hid c2; have K1 := Lib.hid k1; have K2 := Lib.hid k2
    have HA := Lib.hid hA
    clear c1 c2 k1 k2 h1 h2 e1 e3 hP hA hl
    go_enter Tryz.func18, Tryz.ntmps18
    go_wp2_with fail
    refine (C1.out _ (HA.out.below ((Below.refl _ w).alloc (Nat.le_refl _) _))).mono ?_
    rintro e w1 ⟨rfl, hb1⟩
    have hw1 : Below w.heap.size w w1 := Below.onto1 (Below.refl _ w) hb1
    go_wp2_with fail
    refine (C2.out _ (HA.out.below hw1)).mono ?_
    rintro e w2 ⟨rfl, hb2⟩
    have hw2 := Below.onto hw1 hb2
    have hr : CBox w2 w.heap.size 30 (plC Co.noPol) := CBox.keep (CBox.below (CBox.new w 30 (plC Co.noPol)) hb1 (by simp)) hb2
    have p0 := hr.c 0; have p1 := hr.c 1; have p2 := hr.c 2; have p3 := hr.c 3
    have g0 := hr.fr 0; have g1 := hr.fr 1; have g2 := hr.fr 2; have g3 := hr.fr 3
    simp only [plC, Co.noPol] at p0 p1 p2 p3
    have HR := Lib.hid hr; have HW := Lib.hid hw2
    clear hr hb1 hb2 hw1 hw2 C1 C2
    go_wp2_with fail
    refine (K1.out _).mono ?_
    rintro e w3 ⟨rfl, rfl⟩
    go_wp2_with fail
    refine (K2.out _).mono ?_
    rintro e w3 ⟨rfl, rfl⟩
    go_wp2_with fail
    exact bodyPost_ret (results_emb (p := ⟨a1, t1, a3, t2⟩) rfl _ _ rfl (HR.out.set4 _ _ _ _)) rfl ⟨rfl, below_of (g_set4 (below_g HW.out none) _ _ _ _ (.inl (Nat.le_refl _)))⟩
set_option maxHeartbeats 4000000 in
set_option maxRecDepth 20000 in
theorem rcoop_any (A : Option Addr) (c n : Nat) (l : List Hd.Hdr) (sec : Bool) (w : World) (hn : l.length = n) (hl : SmallH l) (hA : SeenH w A l) :
    Calls Tryz.prog 16 #[.slice A n c, .bool sec] w fun e w' => e = .returned (plV (Co.coopL l sec)) ∧ Below w.heap.size w w' := by
  obtain ⟨P, hP⟩ : ∃ P, Co.coopL l sec = P := ⟨_, rfl⟩
  rw [hP]
  cases sec with
  | false =>
    obtain rfl : P = Co.noPol := hP.symm
    clear hP hA hl
    go_enter Tryz.func16, Tryz.ntmps16
    go_wp2_with fail
    refine bodyPost_ret (results_opn (p := Co.noPol) rfl _ _ rfl (CBox.new _ _ _)) rfl ⟨rfl, ?_⟩
    exact (Below.refl _ w).alloc (Nat.le_refl _) _
  | true =>
    have ce := fun W (x : SeenH W A l) => rcoep_any A c n l true W hn hl x
    have hp : P = ⟨Co.coopW (Co.word l Co.nO).1 (Co.isoB (Co.coepL l true).value), (Co.word l Co.nO).2, Co.coopW (Co.word l Co.nOR).1 (Co.isoB (Co.coepL l true).value || Co.isoB (Co.coepL l true).report), (Co.word l Co.nOR).2⟩ := hP.symm
    obtain ⟨Q, hQ⟩ : ∃ Q, Co.coepL l true = Q := ⟨_, rfl⟩
    rw [hQ] at ce hp
    obtain ⟨ev, et, er, es⟩ := Q
    dsimp only at hp
    have i1 := fun W => risolates_any ev W
    have i2 := fun W => risolates_any er W
    obtain ⟨b1, hb1⟩ : ∃ b, Co.isoB ev = b := ⟨_, rfl⟩
    obtain ⟨b2, hb2⟩ : ∃ b, Co.isoB er = b := ⟨_, rfl⟩
    rw [hb1] at i1 hp
    rw [hb2] at i2 hp
    have c1 := fun W (x : SeenH W A l) => rword_any A c n l Co.nO W hn hl (by decide) x
    have c2 := fun W (x : SeenH W A l) => rword_any A c n l Co.nOR W hn hl (by decide) x
    obtain ⟨⟨v1, t1⟩, h1⟩ : ∃ a, Co.word l Co.nO = a := ⟨_, rfl⟩
    obtain ⟨⟨v2, t2⟩, h2⟩ : ∃ a, Co.word l Co.nOR = a := ⟨_, rfl⟩
    rw [h1] at c1 hp
    rw [h2] at c2 hp
    dsimp only at c1 c2 hp
    have k1 := fun W => rcoopW_any v1 b1 W
    have k2 := fun W => rcoopW_any v2 (b1 || b2) W
    obtain ⟨a1, e1⟩ : ∃ a, Co.coopW v1 b1 = a := ⟨_, rfl⟩
    obtain ⟨a3, e3⟩ : ∃ a, Co.coopW v2 (b1 || b2) = a := ⟨_, rfl⟩
    rw [e1] at k1 hp
    rw [e3] at k2 hp
    subst hp
    have C1 := Lib.hid c1; have C2 := Lib.hid c2; have K1 := Lib.hid k1; have K2 := Lib.hid k2
    have CE := Lib.hid ce
    have I1 := Lib.hid i1; have I2 := Lib.hid i2
    have HA := Lib.hid hA
    clear c1 c2 k1 k2 h1 h2 e1 e3 hP hA hl ce i1 i2 hb1 hb2 hQ
    go_enter Tryz.func16, Tryz.ntmps16
    go_wp2_with fail
    refine (CE.out _ (HA.out.below ((Below.refl _ w).alloc (Nat.le_refl _) _))).mono ?_
    rintro e w1 ⟨rfl, hb1⟩
    have hw1 : Below w.heap.size w w1 := Below.onto1 (Below.refl _ w) hb1
    have hr1 : CBox w1 w.heap.size 28 (plC Co.noPol) := CBox.below (CBox.new w 28 (plC Co.noPol)) hb1 (by simp)
    unfold plV plC
    go_wp2_with fail
    refine (I1.out _).mono ?_
    rintro e w1' ⟨rfl, rfl⟩
    go_wp2_with fail
    refine (I2.out _).mono ?_
    rintro e w1' ⟨rfl, rfl⟩
    have hw1a : Below w.heap.size w (w1.alloc (.cells #[.int .i64 ev, .string (bA et), .int .i64 er, .string (bA es)] 30)) := below_al hw1 _
    have hr1a := hr1.alloc (.cells #[.int .i64 ev, .string (bA et), .int .i64 er, .string (bA es)] 30)
    clear hr1 hw1 hb1
    go_wp2_with fail
    refine (C1.out _ (HA.out.below hw1a)).mono ?_
    rintro e w2 ⟨rfl, hb2⟩
    have hw2 := Below.onto hw1a hb2
    have hr2 := hr1a.keep hb2
    clear hw1a hr1a hb2
    go_wp2_with fail
    refine (C2.out _ (HA.out.below hw2)).mono ?_
    rintro e w3 ⟨rfl, hb3⟩
    have hw3 := Below.onto hw2 hb3
    have hr := hr2.keep hb3
    clear hw2 hr2 hb3
    have p0 := hr.c 0; have p1 := hr.c 1; have p2 := hr.c 2; have p3 := hr.c 3
    have g0 := hr.fr 0; have g1 := hr.fr 1; have g2 := hr.fr 2; have g3 := hr.fr 3
    simp only [plC, Co.noPol] at p0 p1 p2 p3
    have HR := Lib.hid hr; have HW := Lib.hid hw3
    clear hr hw3 C1 C2 CE I1 I2
    cases b1 with
    | true =>
      go_wp2_with fail
      refine (K1.out _).mono ?_
      rintro e w4 ⟨rfl, rfl⟩
      go_wp2_with fail
      refine (K2.out _).mono ?_
      rintro e w4 ⟨rfl, rfl⟩
      go_wp2_with fail
      exact bodyPost_ret (results_opn (p := ⟨a1, t1, a3, t2⟩) rfl _ _ rfl (HR.out.set4 _ _ _ _)) rfl ⟨rfl, below_of (g_set4 (below_g HW.out none) _ _ _ _ (.inl (Nat.le_refl _)))⟩
    | false =>
      go_wp2_with fail
      refine (K1.out _).mono ?_
      rintro e w4 ⟨rfl, rfl⟩
      go_wp2_with fail
      refine (K2.out _).mono ?_
      rintro e w4 ⟨rfl, rfl⟩
      go_wp2_with fail
      exact bodyPost_ret (results_opn (p := ⟨a1, t1, a3, t2⟩) rfl _ _ rfl (HR.out.set4 _ _ _ _)) rfl ⟨rfl, below_of (g_set4 (below_g HW.out none) _ _ _ _ (.inl (Nat.le_refl _)))⟩
end Go.Proofs.YtgddmihojladfaaGreatDoor
