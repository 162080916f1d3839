/- The contracts of coop's two policies. -/
import Derived.Test.YtgddmihojladfaaGreatDoorCoLow
namespace Go.Proofs.YtgddmihojladfaaGreatDoor
open Go.RowKit

/-- A policy's cells. -/
def plC (p : Co.Pol) : Array Value := #[.int .i64 p.value, .string (bA p.to), .int .i64 p.report, .string (bA p.reportT)]
def plV (p : Co.Pol) : Value := .agg (plC p)
set_option maxHeartbeats 1000000 in
theorem load_emb {w : World} {B : Nat} {p : Co.Pol} (h : CBox w B 30 (plC p)) : (loadVar 30 ⟨B, 0, none⟩).run Tryz.prog w = .ok (plV p) w := by
  have c0 := h.c 0; have c1 := h.c 1; have c2 := h.c 2; have c3 := h.c 3
  simp [plC] at c0 c1 c2 c3
  simp [go_sem, c0, c1, c2, c3, plV, plC]
set_option maxHeartbeats 1000000 in
theorem load_opn {w : World} {B : Nat} {p : Co.Pol} (h : CBox w B 28 (plC p)) : (loadVar 28 ⟨B, 0, none⟩).run Tryz.prog w = .ok (plV p) w := by
  have c0 := h.c 0; have c1 := h.c 1; have c2 := h.c 2; have c3 := h.c 3
  simp [plC] at c0 c1 c2 c3
  simp [go_sem, c0, c1, c2, c3, plV, plC]
theorem results_emb {fn : Func} {t : Tmp} (h : fn.results = #[.cell t 30]) (tmps : Array Value) (w : World) {B : Nat} {p : Co.Pol} (hp : tmps[t]?.getD undef = .pointer (some ⟨B, 0, none⟩)) (hb : CBox w B 30 (plC p)) :
    (results fn tmps).run Tryz.prog w = .ok (plV p) w := by
  have hl := load_emb hb
  simp [results, h, hp, hl, asAddr]
theorem results_opn {fn : Func} {t : Tmp} (h : fn.results = #[.cell t 28]) (tmps : Array Value) (w : World) {B : Nat} {p : Co.Pol} (hp : tmps[t]?.getD undef = .pointer (some ⟨B, 0, none⟩)) (hb : CBox w B 28 (plC p)) :
    (results fn tmps).run Tryz.prog w = .ok (plV p) w := by
  have hl := load_opn hb
  simp [results, h, hp, hl, asAddr]
theorem LooksUp.set {w : World} {v : Value} {f : List UInt8 → Int} {E i : Nat} {t : TypeId} {cs : Array Value} (h : LooksUp w v f) (he : CBox w E t cs) (u : Value) : LooksUp (w.setCell ⟨E, i, none⟩ u) v f := by
  obtain ⟨B, d, rfl, ho, hf⟩ := h
  refine ⟨B, d, rfl, ho.setCell (a := ⟨E, i, none⟩) (fun e => ?_) u, hf⟩
  obtain ⟨es, clock, hb, _⟩ := ho
  have e' : B = E := e
  subst e'
  have h2 : w.heap[B]? = _ := he
  rw [hb] at h2
  cases h2
theorem below_of {a b : World} (h : a.grownBy b none) : Below a.heap.size a b := ⟨h.os, h.tape, h.output, h.size, fun k hk => h.block k hk (by simp)⟩
/-- What stands while an embedder policy is made. -/
structure RdyE (w0 : World) (sl m : Value) (R B E : Nat) (zs cs : Array Value) (W : World) : Prop where
  b : Below w0.heap.size w0 W
  head : Boxed W B 23 sl
  map : LooksUp W m Co.coepW
  e : CBox W E 30 cs
  r : CBox W R 30 zs
  o : w0.heap.size ≤ R ∧ R < B ∧ B < E
theorem RdyE.on {w0 : World} {sl m : Value} {R B E : Nat} {zs cs : Array Value} {W W' : World} (h : RdyE w0 sl m R B E zs cs W) (hb : Below W.heap.size W W') : RdyE w0 sl m R B E zs cs W' :=
  ⟨Below.onto h.b hb, boxed_below h.head hb, h.map.below hb, h.e.keep hb, h.r.keep hb, h.o⟩
theorem RdyE.set {w0 : World} {sl m : Value} {R B E : Nat} {zs cs : Array Value} {W : World} (h : RdyE w0 sl m R B E zs cs W) (i : Nat) (u : Value) : RdyE w0 sl m R B E zs (cs.setIfInBounds i u) (W.setCell ⟨E, i, none⟩ u) := by
  have o := h.o
  refine ⟨?_, CBox.other (cs := #[sl]) h.head (by omega), h.map.set h.e u, h.e.set u, h.r.other (by omega), o⟩
  exact below_of (g_set (i := i) (below_g h.b none) u (.inl (show w0.heap.size ≤ E by omega)))
set_option maxHeartbeats 2000000 in
set_option maxRecDepth 20000 in
theorem coep_any (A : Option Addr) (c n : Nat) (l : List Hd.Hdr) (sec : Bool) (w : World) (hn : l.length = n) (hl : SmallH l) (hA : SeenH w A l) :
    Calls Tryz.prog 17 #[.slice A n c, .bool sec] w fun e w' => e = .returned (plV (Co.coepL l sec)) ∧ Below w.heap.size w w' := by
  obtain ⟨P, hP⟩ : ∃ P, Co.coepL l sec = P := ⟨_, rfl⟩
  rw [hP]
  cases sec with
  | false =>
    obtain rfl : P = Co.noPol := hP.symm
    clear hP hA hl
    go_enter Tryz.func17, Tryz.ntmps17
    go_wp2_with fail
    refine bodyPost_ret (results_emb (p := Co.noPol) rfl _ _ rfl (CBox.new _ _ _)) rfl ⟨rfl, ?_⟩
    exact (Below.refl _ w).alloc (Nat.le_refl _) _
  | true =>
    have hp : P = ⟨Co.coepW (Co.word l Co.nE).1, (Co.word l Co.nE).2, Co.coepW (Co.word l Co.nER).1, (Co.word l Co.nER).2⟩ := hP.symm
    obtain ⟨a1, h1⟩ : ∃ a, Co.coepW (Co.word l Co.nE).1 = a := ⟨_, rfl⟩
    obtain ⟨a2, h2⟩ : ∃ a, (Co.word l Co.nE).2 = a := ⟨_, rfl⟩
    obtain ⟨a3, h3⟩ : ∃ a, Co.coepW (Co.word l Co.nER).1 = a := ⟨_, rfl⟩
    obtain ⟨a4, h4⟩ : ∃ a, (Co.word l Co.nER).2 = a := ⟨_, rfl⟩
    have c1 := fun W m B (x : SeenH W A l) (y : Boxed W B 23 (.slice A n c)) (z : LooksUp W m Co.coepW) => read_any A c n l Co.nE m Co.coepW B W hn hl (by decide) x y z Co.coepW_nil
    have c2 := fun W m B (x : SeenH W A l) (y : Boxed W B 23 (.slice A n c)) (z : LooksUp W m Co.coepW) => read_any A c n l Co.nER m Co.coepW B W hn hl (by decide) x y z Co.coepW_nil
    rw [h1, h2] at c1
    rw [h3, h4] at c2
    rw [h1, h2, h3, h4] at hp
    subst hp
    have C1 := Lib.hid c1; have C2 := Lib.hid c2
    have HA := Lib.hid hA
    clear c1 c2 h1 h2 h3 h4 hP hA hl
    go_enter Tryz.func17, Tryz.ntmps17
    go_wp2_with fail
    refine (reader_any _ _ _ _).mono ?_
    rintro e w1 ⟨rfl, hb1, hB1⟩
    go_wp2_with fail
    refine (embedderValues_any _).mono ?_
    rintro e w2 ⟨m, rfl, hb2, hm⟩
    go_wp2_with fail
    have r0 : RdyE w (.slice A n c) m w.heap.size (w.heap.size + 1) w2.heap.size (plC Co.noPol) (plC Co.noPol) (w2.alloc (.cells (plC Co.noPol) 30)) := by
      have hw1 : Below w.heap.size w w1 := Below.onto1 (Below.refl _ w) hb1
      have hs := hb1.size
      simp at hs hB1
      have hlt := hB1.lt
      have hs2 := hb2.size
      refine ⟨(Below.onto hw1 hb2).alloc (by omega) _, (boxed_below hB1 hb2).alloc _, hm.below ((Below.refl _ _).alloc (Nat.le_refl _) _), CBox.new _ _ _, CBox.alloc (((CBox.new _ _ _).below hb1 (by simp)).keep hb2) _, ?_⟩
      omega
    refine (C1.out _ m _ (HA.out.below r0.b) r0.head r0.map).mono ?_
    rintro e w3 ⟨rfl, hb3⟩
    have r1 := r0.on hb3
    clear r0 hb1 hb2 hb3 hB1 hm C1
    have q0 := r1.e.c 0; have q1 := r1.e.c 1; have f0 := r1.e.fr 0; have f1 := r1.e.fr 1
    simp only [plC, Co.noPol] at q0 q1
    go_wp2_with fail
    have r2 : RdyE w (.slice A n c) m w.heap.size (w.heap.size + 1) w2.heap.size (plC Co.noPol) #[.int .i64 a1, .string (bA a2), .int .i64 0, .string (bA [])] _ := (r1.set 0 (.int .i64 a1)).set 1 (.string (bA a2))
    refine (C2.out _ m _ (HA.out.below r2.b) r2.head r2.map).mono ?_
    rintro e w4 ⟨rfl, hb4⟩
    have r3 := r2.on hb4
    clear r1 r2 hb4 C2 q0 q1 f0 f1
    have q0 := r3.e.c 0; have q1 := r3.e.c 1; have q2 := r3.e.c 2; have q3 := r3.e.c 3; have f2 := r3.e.fr 2; have f3 := r3.e.fr 3
    have p0 := r3.r.c 0; have p1 := r3.r.c 1; have p2 := r3.r.c 2; have p3 := r3.r.c 3
    have g0 := r3.r.fr 0; have g1 := r3.r.fr 1; have g2 := r3.r.fr 2; have g3 := r3.r.fr 3
    simp only [plC, Co.noPol] at p0 p1 p2 p3
    have hne : w2.heap.size ≠ w.heap.size := by have := r3.o; omega
    have hne' : w.heap.size ≠ w2.heap.size := hne.symm
    go_wp2_with fail
    have r4 := (r3.set 2 (.int .i64 a3)).set 3 (.string (bA a4))
    exact bodyPost_ret (results_emb (p := ⟨a1, a2, a3, a4⟩) rfl _ _ rfl (r4.r.set4 _ _ _ _)) rfl ⟨rfl, below_of (g_set4 (below_g r4.b none) _ _ _ _ (.inl (Nat.le_refl _)))⟩
/-- What stands while an opener policy is made. -/
structure RdyO (w0 : World) (sl : Value) (R X B E : Nat) (zs xs cs : Array Value) (W : World) : Prop where
  b : Below w0.heap.size w0 W
  head : Boxed W B 23 sl
  x : CBox W X 30 xs
  e : CBox W E 28 cs
  r : CBox W R 28 zs
  o : w0.heap.size ≤ R ∧ R < X ∧ X < B ∧ B < E
theorem RdyO.on {w0 : World} {sl : Value} {R X B E : Nat} {zs xs cs : Array Value} {W W' : World} (h : RdyO w0 sl R X B E zs xs cs W) (hb : Below W.heap.size W W') : RdyO w0 sl R X B E zs xs cs W' :=
  ⟨Below.onto h.b hb, boxed_below h.head hb, h.x.keep hb, h.e.keep hb, h.r.keep hb, h.o⟩
theorem RdyO.set {w0 : World} {sl : Value} {R X B E : Nat} {zs xs cs : Array Value} {W : World} (h : RdyO w0 sl R X B E zs xs cs W) (i : Nat) (u : Value) : RdyO w0 sl R X B E zs xs (cs.setIfInBounds i u) (W.setCell ⟨E, i, none⟩ u) := by
  have o := h.o
  exact ⟨below_of (g_set (i := i) (below_g h.b none) u (.inl (show w0.heap.size ≤ E by omega))), CBox.other (cs := #[sl]) h.head (by omega), h.x.other (by omega), h.e.set u, h.r.other (by omega), o⟩
set_option maxHeartbeats 4000000 in
set_option maxRecDepth 20000 in
theorem coop_any (A : Option Addr) (c n : Nat) (l : List Hd.Hdr) (sec : Bool) (w : World) (hn : l.length = n) (hl : SmallH l) (hA : SeenH w A l) :
    Calls Tryz.prog 15 #[.slice A n c, .bool sec] w fun e w' => e = .returned (plV (Co.coopL l sec)) ∧ Below w.heap.size w w' := by
  obtain ⟨P, hP⟩ : ∃ P, Co.coopL l sec = P := ⟨_, rfl⟩
  rw [hP]
  cases sec with
  | false =>
    obtain rfl : P = Co.noPol := hP.symm
    clear hP hA hl
    go_enter Tryz.func15, Tryz.ntmps15
    go_wp2_with fail
    refine bodyPost_ret (results_opn (p := Co.noPol) rfl _ _ rfl (CBox.new _ _ _)) rfl ⟨rfl, ?_⟩
    exact (Below.refl _ w).alloc (Nat.le_refl _) _
  | true =>
    have ce := fun W (x : SeenH W A l) => coep_any A c n l true W hn hl x
    have hp : P = ⟨Co.coopW (Co.word l Co.nO).1 (Co.isoB (Co.coepL l true).value), (Co.word l Co.nO).2, Co.coopW (Co.word l Co.nOR).1 (Co.isoB (Co.coepL l true).value || Co.isoB (Co.coepL l true).report), (Co.word l Co.nOR).2⟩ := hP.symm
    obtain ⟨Q, hQ⟩ : ∃ Q, Co.coepL l true = Q := ⟨_, rfl⟩
    rw [hQ] at ce hp
    obtain ⟨ev, et, er, es⟩ := Q
    dsimp only at hp
    have i1 := fun W => isolates_any ev W
    have i2 := fun W => isolates_any er W
    obtain ⟨b1, hb1⟩ : ∃ b, Co.isoB ev = b := ⟨_, rfl⟩
    obtain ⟨b2, hb2⟩ : ∃ b, Co.isoB er = b := ⟨_, rfl⟩
    rw [hb1] at i1 hp
    rw [hb2] at i2 hp
    obtain ⟨b3, hb3⟩ : ∃ b, (b1 || b2) = b := ⟨_, rfl⟩
    rw [hb3] at hp
    obtain ⟨a1, h1⟩ : ∃ a, Co.coopW (Co.word l Co.nO).1 b1 = a := ⟨_, rfl⟩
    obtain ⟨a2, h2⟩ : ∃ a, (Co.word l Co.nO).2 = a := ⟨_, rfl⟩
    obtain ⟨a3, h3⟩ : ∃ a, Co.coopW (Co.word l Co.nOR).1 b3 = a := ⟨_, rfl⟩
    obtain ⟨a4, h4⟩ : ∃ a, (Co.word l Co.nOR).2 = a := ⟨_, rfl⟩
    have c1 := fun W m B (x : SeenH W A l) (y : Boxed W B 23 (.slice A n c)) (z : LooksUp W m fun s => Co.coopW s b1) => read_any A c n l Co.nO m _ B W hn hl (by decide) x y z (Co.coopW_nil b1)
    have c2 := fun W m B (x : SeenH W A l) (y : Boxed W B 23 (.slice A n c)) (z : LooksUp W m fun s => Co.coopW s b3) => read_any A c n l Co.nOR m _ B W hn hl (by decide) x y z (Co.coopW_nil b3)
    rw [h2] at c1
    rw [h4] at c2
    rw [h1, h2, h3, h4] at hp
    simp only [h1] at c1
    simp only [h3] at c2
    subst hp
    have C1 := Lib.hid c1; have C2 := Lib.hid c2
    have CE := Lib.hid ce
    have I1 := Lib.hid i1; have I2 := Lib.hid i2
    have HA := Lib.hid hA
    have H3 := Lib.hid hb3
    clear c1 c2 h1 h2 h3 h4 hP hA hl ce i1 i2 hb1 hb2 hQ hb3
    go_enter Tryz.func15, Tryz.ntmps15
    go_wp2_with fail
    refine (CE.out _ (HA.out.below ((Below.refl _ w).alloc (Nat.le_refl _) _))).mono ?_
    rintro e w1 ⟨rfl, hb1⟩
    unfold plV plC
    go_wp2_with fail
    refine (I1.out _).mono ?_
    rintro e w1' ⟨rfl, rfl⟩
    go_wp2_with fail
    refine (reader_any _ _ _ _).mono ?_
    rintro e w2 ⟨rfl, hb2, hB2⟩
    go_wp2_with fail
    have r0 : RdyO w (.slice A n c) w.heap.size w1.heap.size (w1.heap.size + 1) w2.heap.size (plC Co.noPol) (plC ⟨ev, et, er, es⟩) (plC Co.noPol) (w2.alloc (.cells (plC Co.noPol) 28)) := by
      have hw1 : Below w.heap.size w w1 := Below.onto1 (Below.refl _ w) hb1
      have hs := hb1.size
      simp at hs hB2
      have hlt := hB2.lt
      refine ⟨(Below.onto1 hw1 hb2).alloc (by omega) _, hB2.alloc _, (CBox.new _ _ _).keep hb2 |>.alloc _, CBox.new _ _ _, CBox.alloc ((((CBox.new _ _ _).keep hb1).alloc _).keep hb2) _, ?_⟩
      omega
    refine (openerValues_any _ _).mono ?_
    rintro e w3 ⟨m, rfl, hb3, hm⟩
    have r1 := r0.on hb3
    go_wp2_with fail
    refine (C1.out _ m _ (HA.out.below r1.b) r1.head hm).mono ?_
    rintro e w4 ⟨rfl, hb4⟩
    have r2 := r1.on hb4
    clear r0 r1 hb1 hb2 hb3 hb4 hB2 hm C1 I1 CE
    have q0 := r2.e.c 0; have q1 := r2.e.c 1; have f0 := r2.e.fr 0; have f1 := r2.e.fr 1
    have x2 := r2.x.c 2
    simp only [plC, Co.noPol] at q0 q1 x2
    have hnx : w1.heap.size ≠ w2.heap.size := by have := r2.o; omega
    have hnx' : w2.heap.size ≠ w1.heap.size := hnx.symm
    have r3 : RdyO w (.slice A n c) w.heap.size w1.heap.size (w1.heap.size + 1) w2.heap.size (plC Co.noPol) (plC ⟨ev, et, er, es⟩) #[.int .i64 a1, .string (bA a2), .int .i64 0, .string (bA [])] _ := (r2.set 0 (.int .i64 a1)).set 1 (.string (bA a2))
    clear r2
    cases b1 with
    | true =>
      obtain rfl : b3 = true := H3.out.symm
      go_wp2_with fail
      refine (openerValues_any _ _).mono ?_
      rintro e w5 ⟨m2, rfl, hb5, hm2⟩
      have r4 := r3.on hb5
      go_wp2_with fail
      refine (C2.out _ m2 _ (HA.out.below r4.b) r4.head hm2).mono ?_
      rintro e w6 ⟨rfl, hb6⟩
      have r5 := r4.on hb6
      clear r3 r4 hb5 hb6 C2 hm2 q0 q1 f0 f1 x2
      have q0 := r5.e.c 0; have q1 := r5.e.c 1; have q2 := r5.e.c 2; have q3 := r5.e.c 3; have f2 := r5.e.fr 2; have f3 := r5.e.fr 3
      have p0 := r5.r.c 0; have p1 := r5.r.c 1; have p2 := r5.r.c 2; have p3 := r5.r.c 3
      have g0 := r5.r.fr 0; have g1 := r5.r.fr 1; have g2 := r5.r.fr 2; have g3 := r5.r.fr 3
      simp only [plC, Co.noPol] at p0 p1 p2 p3
      have hne : w2.heap.size ≠ w.heap.size := by have := r5.o; omega
      have hne' : w.heap.size ≠ w2.heap.size := hne.symm
      go_wp2_with fail
      have r6 := (r5.set 2 (.int .i64 a3)).set 3 (.string (bA a4))
      exact bodyPost_ret (results_opn (p := ⟨a1, a2, a3, a4⟩) rfl _ _ rfl (r6.r.set4 _ _ _ _)) rfl ⟨rfl, below_of (g_set4 (below_g r6.b none) _ _ _ _ (.inl (Nat.le_refl _)))⟩
    | false =>
      obtain rfl : b3 = b2 := H3.out.symm
      go_wp2_with fail
      refine (I2.out _).mono ?_
      rintro e w4' ⟨rfl, rfl⟩
      go_wp2_with fail
      refine (openerValues_any _ _).mono ?_
      rintro e w5 ⟨m2, rfl, hb5, hm2⟩
      have r4 := r3.on hb5
      go_wp2_with fail
      refine (C2.out _ m2 _ (HA.out.below r4.b) r4.head hm2).mono ?_
      rintro e w6 ⟨rfl, hb6⟩
      have r5 := r4.on hb6
      clear r3 r4 hb5 hb6 C2 hm2 q0 q1 f0 f1 x2
      have q0 := r5.e.c 0; have q1 := r5.e.c 1; have q2 := r5.e.c 2; have q3 := r5.e.c 3; have f2 := r5.e.fr 2; have f3 := r5.e.fr 3
      have p0 := r5.r.c 0; have p1 := r5.r.c 1; have p2 := r5.r.c 2; have p3 := r5.r.c 3
      have g0 := r5.r.fr 0; have g1 := r5.r.fr 1; have g2 := r5.r.fr 2; have g3 := r5.r.fr 3
      simp only [plC, Co.noPol] at p0 p1 p2 p3
      have hne : w2.heap.size ≠ w.heap.size := by have := r5.o; omega
      have hne' : w.heap.size ≠ w2.heap.size := hne.symm
      go_wp2_with fail
      have r6 := (r5.set 2 (.int .i64 a3)).set 3 (.string (bA a4))
      exact bodyPost_ret (results_opn (p := ⟨a1, a2, a3, a4⟩) rfl _ _ rfl (r6.r.set4 _ _ _ _)) rfl ⟨rfl, below_of (g_set4 (below_g r6.b none) _ _ _ _ (.inl (Nat.le_refl _)))⟩
end Go.Proofs.YtgddmihojladfaaGreatDoor
