/- The contracts of what the document's Match leans on: schemes, default ports, one's own, hosts. -/
import Derived.Test.YtinjkpbpkedfnaaGreatDoorCmBox
import Derived.Test.YtinjkpbpkedfnaaGreatDoorCmRef2
import Derived.Test.YtinjkpbpkedfnaaGreatDoorOrigAll
import Derived.Test.YtinjkpbpkedfnaaGreatDoorHostAll
namespace Go.Proofs.YtinjkpbpkedfnaaGreatDoor
open Go.RowKit
open Urp (sHttp sHttps)

set_option maxHeartbeats 2000000 in
theorem rtog_any (a b : List UInt8) (w : World) : Calls Tryz.prog 43 #[.string (bA a), .string (bA b)] w fun e w' => e = .returned (.bool (Cm.tog a b)) ∧ w = w' := by
  unfold Cm.tog
  obtain ⟨x, e1⟩ : ∃ x, (a == b) = x := ⟨_, rfl⟩
  obtain ⟨y, e2⟩ : ∃ x, (a == sHttp) = x := ⟨_, rfl⟩
  obtain ⟨z, e3⟩ : ∃ x, (b == sHttps) = x := ⟨_, rfl⟩
  rw [e1, e2, e3]
  unfold sHttp at e2
  unfold sHttps at e3
  cases x <;> cases y <;> cases z
  all_goals
    go_enter Tryz.func43, Tryz.ntmps43
    go_wp2_with fail
    go_ret
    exact ⟨rfl, rfl⟩
set_option maxHeartbeats 2000000 in
theorem rown_any (o : Orig) (w : World) : Calls Tryz.prog 76 #[origV o] w fun e w' => e = .returned (.bool (Cm.dflt o)) ∧ Below w.heap.size w w' := by
  have hb0 : Below w.heap.size w (w.alloc (.cells (oCells o) 31)) := (Below.refl _ w).alloc (Nat.le_refl _) _
  have HB := Lib.hid hb0
  clear hb0
  unfold origV Cm.dflt
  unfold oCells at HB ⊢
  obtain ⟨x, e1⟩ : ∃ x, (o.scheme == sHttp) = x := ⟨_, rfl⟩
  obtain ⟨y, e2⟩ : ∃ x, (o.port == 80) = x := ⟨_, rfl⟩
  obtain ⟨z, e3⟩ : ∃ x, (o.scheme == sHttps) = x := ⟨_, rfl⟩
  obtain ⟨t, e4⟩ : ∃ x, (o.port == 443) = x := ⟨_, rfl⟩
  rw [e1, e2, e3, e4]
  unfold sHttp at e1
  unfold sHttps at e3
  cases x <;> cases y <;> cases z <;> cases t
  all_goals
    go_enter Tryz.func76, Tryz.ntmps76
    go_wp2_with fail
    go_ret
    exact ⟨rfl, HB.out⟩
theorem slice_tail (t : List UInt8) (m : Nat) (h : m ≤ t.length) (W : World) : (Instr.slice 9 (.string (bA t)) (some (.int .i64 ((t.length : Int) - (m : Int)))) none none).run Tryz.prog W = .ok (.string (bA (t.drop (t.length - m)))) W := by
  obtain ⟨d, hd⟩ : ∃ d, t.length - m = d := ⟨_, rfl⟩
  have e1 : (t.length : Int) - (m : Int) = (d : Int) := by omega
  have t2 : (bA t).extract d t.length = bA (t.drop d) := by have := Byt.drop_ext (bA t) d; rw [bA_size] at this; exact this
  have h1 : (d : Int) ≤ (t.length : Int) := by omega
  rw [hd, e1]
  simp [go_sem, h1, t2, Tryz.underlying9]
set_option maxHeartbeats 2000000 in
theorem rhost_any (p t : List UInt8) (w : World) (hp : p.length ≤ 100000000) (ht : t.length ≤ 100000000) : Calls Tryz.prog 77 #[.string (bA p), .string (bA t)] w fun e w' => e = .returned (.bool (Cm.hostB p t)) ∧ w = w' := by
  unfold Cm.hostB
  cases e1 : p == [42] with
  | true =>
    rw [Bool.true_or, Bool.true_or]
    go_enter Tryz.func77, Tryz.ntmps77
    go_wp2_with fail
    go_ret
    exact ⟨rfl, rfl⟩
  | false =>
  cases e2 : p == t with
  | true =>
    rw [Bool.or_true, Bool.true_or]
    go_enter Tryz.func77, Tryz.ntmps77
    go_wp2_with fail
    go_ret
    exact ⟨rfl, rfl⟩
  | false =>
  rw [Bool.or_false, Bool.false_or]
  cases p with
  | nil =>
    have e3 : (([] : List UInt8) == []) = true := rfl
    go_enter Tryz.func77, Tryz.ntmps77
    go_wp2_with fail
    go_ret
    exact ⟨rfl, rfl⟩
  | cons c e =>
    have e3 : ((c :: e) == ([] : List UInt8)) = false := rfl
    have hg : (bA (c :: e))[0]'(by rw [bA_size]; simp) = c := rfl
    have t1 : (bA (c :: e)).extract 1 (e.length + 1) = bA e := by have := Byt.drop_ext (bA (c :: e)) 1; rw [bA_size] at this; exact this
    have hl1 : (1 : Int) ≤ (e.length : Int) + 1 := by omega
    show Calls _ _ _ _ fun e' w' => e' = .returned (.bool (c == 42 && (decide (e.length < t.length) && t.drop (t.length - e.length) == e))) ∧ w = w'
    have hb := Cm.byte_eq c 42
    rw [show (((42 : UInt8).toNat : Int)) = 42 from rfl] at hb
    simp only [List.length_cons] at hp
    cases h42 : c == 42 with
    | false =>
      rw [h42] at hb
      have hb' : ((c.toNat : Int) != 42) = true := by rw [bne, hb]; rfl
      rw [Bool.false_and]
      clear t1 h42
      go_enter Tryz.func77, Tryz.ntmps77
      go_wp2_with fail
      go_ret
      exact ⟨rfl, rfl⟩
    | true =>
      rw [h42] at hb
      have hb' : ((c.toNat : Int) != 42) = false := by rw [bne, hb]; rfl
      rw [Bool.true_and]
      by_cases hlt : e.length < t.length
      · have hlt' : (e.length : Int) < (t.length : Int) := by omega
        rw [decide_eq_true hlt, Bool.true_and]
        have hsl : ∀ W : World, (Instr.slice 9 (.string (bA t)) (some (.int .i64 ((t.length : Int) - (e.length : Int)))) none none).run Tryz.prog W = .ok (.string (bA (t.drop (t.length - e.length)))) W := fun W => slice_tail t e.length (Nat.le_of_lt hlt) W
        obtain ⟨y, hy⟩ : ∃ y, t.drop (t.length - e.length) = y := ⟨_, rfl⟩
        rw [hy] at hsl ⊢
        obtain ⟨q, hq⟩ : ∃ q, (y == e) = q := ⟨_, rfl⟩
        rw [hq]
        clear hy h42 hlt
        go_enter Tryz.func77, Tryz.ntmps77
        go_wp2_with fail
        go_ret
        exact ⟨rfl, rfl⟩
      · have hlt' : ¬ (e.length : Int) < (t.length : Int) := by omega
        rw [decide_eq_false hlt, Bool.false_and]
        clear h42
        go_enter Tryz.func77, Tryz.ntmps77
        go_wp2_with fail
        go_ret
        exact ⟨rfl, rfl⟩
theorem hostEq_is (a b : Hst.Host) : hostB a b = Cm.hostEq a b := rfl
/-- Two origins' blocks, in a world that is below. -/
structure Boxes2 (w0 : World) (A B : Nat) (a b : Orig) (W : World) : Prop where
  bel : Below w0.heap.size w0 W
  x : OBox W A a
  y : OBox W B b
theorem Boxes2.mk0 (w : World) (a b : Orig) : Boxes2 w w.heap.size (w.heap.size + 1) a b ((w.alloc (.cells (oCells a) 31)).alloc (.cells (oCells b) 31)) :=
  ⟨((Below.refl _ w).alloc (Nat.le_refl _) _).alloc (by simp) _, (OBox.new w a).alloc _, by have := OBox.new (w.alloc (.cells (oCells a) 31)) b; simpa using this⟩
theorem Boxes2.below {w0 : World} {A B : Nat} {a b : Orig} {W W' : World} (h : Boxes2 w0 A B a b W) (hb : Below W.heap.size W W') : Boxes2 w0 A B a b W' := ⟨Below.onto h.bel hb, h.x.keep hb, h.y.keep hb⟩
set_option maxHeartbeats 4000000 in
theorem rself_any (o me : Orig) (w : World) : Calls Tryz.prog 44 #[origV o, origV me] w fun e w' => e = .returned (.bool (Cm.selfB o me)) ∧ Below w.heap.size w w' := by
  have HX := Lib.hid (Boxes2.mk0 w o me)
  have HS := Lib.hid (fun W => rsame_any o me W)
  have H1 := Lib.hid (fun W => rown_any o W)
  have H2 := Lib.hid (fun W => rown_any me W)
  have HT := Lib.hid (fun W => rtog_any me.scheme o.scheme W)
  have heq := fun W => eqIn_host me.host o.host W
  rw [hostEq_is] at heq
  unfold Cm.selfB
  obtain ⟨b0, e0⟩ : ∃ b, sameO o me = b := ⟨_, rfl⟩
  obtain ⟨b1, e1⟩ : ∃ b, Cm.hostEq me.host o.host = b := ⟨_, rfl⟩
  obtain ⟨b2, e2⟩ : ∃ b, Cm.tog me.scheme o.scheme = b := ⟨_, rfl⟩
  obtain ⟨b3, e3⟩ : ∃ b, (me.port == o.port) = b := ⟨_, rfl⟩
  obtain ⟨b4, e4⟩ : ∃ b, Cm.dflt o = b := ⟨_, rfl⟩
  obtain ⟨b5, e5⟩ : ∃ b, Cm.dflt me = b := ⟨_, rfl⟩
  rw [e0] at HS; rw [e1] at heq; rw [e2] at HT; rw [e4] at H1; rw [e5] at H2
  rw [e0, e1, e2, e3, e4, e5]
  clear e0 e1 e2 e4 e5
  unfold origV oCells at *
  cases b0 with
  | true =>
    go_enter Tryz.func44, Tryz.ntmps44
    go_wp2_with fail
    refine (HS.out _).mono ?_
    rintro e w1 ⟨rfl, hb1⟩
    have HX1 := Lib.hid (HX.out.below hb1)
    go_wp2_with fail
    go_ret
    exact ⟨rfl, HX1.out.bel⟩
  | false =>
    go_enter Tryz.func44, Tryz.ntmps44
    go_wp2_with fail
    refine (HS.out _).mono ?_
    rintro e w1 ⟨rfl, hb1⟩
    have HX1 := Lib.hid (HX.out.below hb1)
    obtain ⟨x0, x1, x2, x3, x4, x5, x6⟩ := HX1.out.x.all
    obtain ⟨y0, y1, y2, y3, y4, y5, y6⟩ := HX1.out.y.all
    clear hb1
    go_wp2_with fail
    refine (H1.out _).mono ?_
    rintro e w2 ⟨rfl, hb2⟩
    have HX2 := Lib.hid (HX1.out.below hb2)
    clear hb2 x0 x1 x2 x3 x4 x5 x6 y0 y1 y2 y3 y4 y5 y6
    obtain ⟨x0, x1, x2, x3, x4, x5, x6⟩ := HX2.out.x.all
    obtain ⟨y0, y1, y2, y3, y4, y5, y6⟩ := HX2.out.y.all
    go_wp2_with fail
    refine (H2.out _).mono ?_
    rintro e w3 ⟨rfl, hb3⟩
    have HX3 := Lib.hid (HX2.out.below hb3)
    clear hb3 x0 x1 x2 x3 x4 x5 x6 y0 y1 y2 y3 y4 y5 y6
    obtain ⟨x0, x1, x2, x3, x4, x5, x6⟩ := HX3.out.x.all
    obtain ⟨y0, y1, y2, y3, y4, y5, y6⟩ := HX3.out.y.all
    go_wp2_with fail
    refine (HT.out _).mono ?_
    rintro e w4 ⟨rfl, rfl⟩
    have HB := HX3.out.bel
    obtain ⟨q, hq⟩ : ∃ q, me.op = q := ⟨_, rfl⟩
    rw [hq] at y0 ⊢
    cases q <;> cases b1 <;> cases b2 <;> cases b3 <;> cases b4 <;> cases b5
    all_goals
      go_wp2_with fail
      go_ret
      exact ⟨by rw [hq]; rfl, HB⟩
end Go.Proofs.YtinjkpbpkedfnaaGreatDoor
