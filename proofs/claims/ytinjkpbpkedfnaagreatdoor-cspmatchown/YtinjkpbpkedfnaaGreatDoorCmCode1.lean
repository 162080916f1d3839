/- The contracts of what the program's Match leans on: schemes, default ports, one's own, hosts, ports. -/
import Derived.Test.YtinjkpbpkedfnaaGreatDoorCmRef7
import Derived.Test.YtinjkpbpkedfnaaGreatDoorCmPure
import Derived.Test.YtinjkpbpkedfnaaGreatDoorCmLeaf
import Derived.Test.YtinjkpbpkedfnaaGreatDoorOrigAll
namespace Go.Proofs.YtinjkpbpkedfnaaGreatDoor
open Go.RowKit
open Urp (sHttp sHttps begB)

set_option maxHeartbeats 2000000 in
theorem cmTog_any (a b : List UInt8) (w : World) : Calls Tryz.prog 38 #[.string (bA a), .string (bA b)] w fun e w' => e = .returned (.bool (Cm.tog a b)) ∧ w = w' := by
  unfold Cm.tog
  obtain ⟨x, e1⟩ : ∃ x, (a == b) = x := ⟨_, rfl⟩
  obtain ⟨y, e2⟩ : ∃ x, (a == sHttp) = x := ⟨_, rfl⟩
  obtain ⟨z, e3⟩ : ∃ x, (b == sHttps) = x := ⟨_, rfl⟩
  rw [e1, e2, e3]
  unfold sHttp at e2
  unfold sHttps at e3
  cases x <;> cases y <;> cases z
  all_goals
    go_enter Tryz.func38, Tryz.ntmps38
    go_wp2_with fail
    go_ret
    exact ⟨rfl, rfl⟩
theorem net_no : ∀ s : List UInt8, ¬ ((s == sHttp) = true ∧ (s == sHttps) = true) := fun s ⟨h1, h2⟩ => by
  rw [beq_iff_eq] at h1 h2
  rw [h1] at h2
  exact absurd h2 (by decide)
set_option maxHeartbeats 2000000 in
theorem cmOwn_any (o : Orig) (w : World) : Calls Tryz.prog 72 #[origV o] w fun e w' => e = .returned (.bool (Cm.dflt o)) ∧ Below w.heap.size w w' := by
  have hb0 : Below w.heap.size w (w.alloc (.cells (oCells o) 31)) := (Below.refl _ w).alloc (Nat.le_refl _) _
  have HB := Lib.hid hb0
  clear hb0
  have hno := net_no o.scheme
  unfold origV Cm.dflt
  unfold oCells at HB ⊢
  obtain ⟨x, e1⟩ : ∃ x, (o.scheme == sHttp) = x := ⟨_, rfl⟩
  obtain ⟨y, e2⟩ : ∃ x, (o.port == 80) = x := ⟨_, rfl⟩
  obtain ⟨z, e3⟩ : ∃ x, (o.scheme == sHttps) = x := ⟨_, rfl⟩
  obtain ⟨t, e4⟩ : ∃ x, (o.port == 443) = x := ⟨_, rfl⟩
  rw [e1, e3] at hno
  rw [e1, e2, e3, e4]
  unfold sHttp at e1
  unfold sHttps at e3
  cases x <;> cases y <;> cases z <;> cases t
  all_goals first
    | exact absurd ⟨rfl, rfl⟩ hno
    | (clear hno
       go_enter Tryz.func72, Tryz.ntmps72
       go_wp2_with fail
       go_ret
       exact ⟨rfl, HB.out⟩)
theorem host_comm (a b : Hst.Host) : Cm.hostEq a b = Cm.hostEq b a := by
  unfold Cm.hostEq
  rw [Bool.beq_comm (a := a.name), Bool.beq_comm (a := a.v4), Bool.beq_comm (a := a.addr)]
/-- What is one's own but for the very same. -/
def Cm.upB (o me : Orig) : Bool := !me.op && (Cm.hostEq me.host o.host && (Cm.tog me.scheme o.scheme && (me.port == o.port || (Cm.dflt o && Cm.dflt me))))
set_option maxHeartbeats 4000000 in
set_option maxRecDepth 20000 in
theorem cmUp_any (o me : Orig) (w : World) : Calls Tryz.prog 37 #[origV o, origV me] w fun e w' => e = .returned (.bool (Cm.upB o me)) ∧ Below w.heap.size w w' := by
  have HX := Lib.hid (Boxes2.mk0 w o me)
  have H1 := Lib.hid (fun W => cmOwn_any o W)
  have H2 := Lib.hid (fun W => cmOwn_any me W)
  have HT := Lib.hid (fun W => cmTog_any me.scheme o.scheme W)
  have heq := fun W => eqIn_host o.host me.host W
  rw [hostEq_is, host_comm] at heq
  unfold Cm.upB
  have hp : (o.port == me.port) = (me.port == o.port) := Bool.beq_comm ..
  obtain ⟨b1, e1⟩ : ∃ b, Cm.hostEq me.host o.host = b := ⟨_, rfl⟩
  obtain ⟨b2, e2⟩ : ∃ b, Cm.tog me.scheme o.scheme = b := ⟨_, rfl⟩
  obtain ⟨b3, e3⟩ : ∃ b, (me.port == o.port) = b := ⟨_, rfl⟩
  obtain ⟨b4, e4⟩ : ∃ b, Cm.dflt o = b := ⟨_, rfl⟩
  obtain ⟨b5, e5⟩ : ∃ b, Cm.dflt me = b := ⟨_, rfl⟩
  obtain ⟨q, hq⟩ : ∃ q, me.op = q := ⟨_, rfl⟩
  rw [e1] at heq; rw [e2] at HT; rw [e4] at H1; rw [e5] at H2; rw [e3] at hp
  rw [hq, e1, e2, e3, e4, e5]
  clear e1 e2 e3 e4 e5
  unfold origV oCells at *
  rw [hq] at HX H2 ⊢
  have HQ := Lib.hid hq
  clear hq
  cases q with
  | true =>
    have hbel := HX.out.bel
    go_enter Tryz.func37, Tryz.ntmps37
    go_wp2_with fail
    go_ret
    exact ⟨rfl, hbel⟩
  | false =>
  cases b1 with
  | false =>
    have hbel := HX.out.bel
    go_enter Tryz.func37, Tryz.ntmps37
    go_wp2_with fail
    go_ret
    exact ⟨rfl, hbel⟩
  | true =>
  cases b2 with
  | false =>
    have hbel := HX.out.bel
    go_enter Tryz.func37, Tryz.ntmps37
    go_wp2_with fail
    refine (HT.out _).mono ?_
    rintro e w4 ⟨rfl, rfl⟩
    go_wp2_with fail
    go_ret
    exact ⟨rfl, hbel⟩
  | true =>
  cases b3 with
  | true =>
    have hbel := HX.out.bel
    go_enter Tryz.func37, Tryz.ntmps37
    go_wp2_with fail
    refine (HT.out _).mono ?_
    rintro e w4 ⟨rfl, rfl⟩
    go_wp2_with fail
    go_ret
    exact ⟨rfl, hbel⟩
  | false =>
    go_enter Tryz.func37, Tryz.ntmps37
    go_wp2_with fail
    refine (HT.out _).mono ?_
    rintro e w4 ⟨rfl, rfl⟩
    go_wp2_with fail
    refine (H1.out _).mono ?_
    rintro e w2 ⟨rfl, hb2⟩
    have HX2 := Lib.hid (HX.out.below hb2)
    clear hb2
    cases b4 with
    | false =>
      have hbel := HX2.out.bel
      go_wp2_with fail
      go_ret
      exact ⟨rfl, hbel⟩
    | true =>
      obtain ⟨y0, y1, y2, y3, y4, y5, y6⟩ := HX2.out.y.all
      rw [HQ.out] at y0
      go_wp2_with fail
      refine (H2.out _).mono ?_
      rintro e w3 ⟨rfl, hb3⟩
      have hbel := (HX2.out.below hb3).bel
      go_wp2_with fail
      go_ret
      exact ⟨rfl, hbel⟩
set_option maxHeartbeats 2000000 in
theorem cmSchm_any (s : Cm.Src) (o me : Orig) (w : World) : Calls Tryz.prog 39 #[.string (bA s.scheme), origV o, origV me] w fun e w' => e = .returned (.bool (Cm.schemeB s o me)) ∧ Below w.heap.size w w' := by
  have HX := Lib.hid (Boxes2.mk0 w o me)
  have HT1 := Lib.hid (fun W => cmTog_any me.scheme o.scheme W)
  have HT2 := Lib.hid (fun W => cmTog_any s.scheme o.scheme W)
  have hbel := HX.out.bel
  unfold Cm.schemeB Urp.netB
  obtain ⟨t1, e1⟩ : ∃ b, Cm.tog me.scheme o.scheme = b := ⟨_, rfl⟩
  obtain ⟨t2, e2⟩ : ∃ b, Cm.tog s.scheme o.scheme = b := ⟨_, rfl⟩
  obtain ⟨x, e3⟩ : ∃ x, (o.scheme == sHttp) = x := ⟨_, rfl⟩
  obtain ⟨y, e4⟩ : ∃ x, (o.scheme == sHttps) = x := ⟨_, rfl⟩
  obtain ⟨q, hq⟩ : ∃ q, me.op = q := ⟨_, rfl⟩
  rw [e1] at HT1 ⊢; rw [e2] at HT2 ⊢
  rw [e3, e4, hq]
  clear e1 e2
  unfold sHttp at e3
  unfold sHttps at e4
  unfold origV oCells at *
  rw [hq] at HX hbel ⊢
  clear hq
  cases h0 : s.scheme == [] with
  | false =>
    have h0' : (s.scheme != []) = true := by rw [bne, h0]; rfl
    rw [if_neg (beq_eq_false_iff_ne.1 h0)]
    go_enter Tryz.func39, Tryz.ntmps39
    go_wp2_with fail
    refine (HT2.out _).mono ?_
    rintro e w4 ⟨rfl, rfl⟩
    go_wp2_with fail
    go_ret
    exact ⟨rfl, hbel⟩
  | true =>
    have h0' : (s.scheme != []) = false := by rw [bne, h0]; rfl
    rw [if_pos (beq_iff_eq.1 h0)]
    cases q with
    | true =>
      rw [if_pos rfl]
      cases x <;> cases y
      all_goals
        go_enter Tryz.func39, Tryz.ntmps39
        go_wp2_with fail
        go_ret
        exact ⟨rfl, hbel⟩
    | false =>
      rw [if_neg (by simp)]
      go_enter Tryz.func39, Tryz.ntmps39
      go_wp2_with fail
      refine (HT1.out _).mono ?_
      rintro e w4 ⟨rfl, rfl⟩
      go_wp2_with fail
      go_ret
      exact ⟨rfl, hbel⟩
theorem cut_star (p : List UInt8) (w : World) : Calls Tryz.prog 62 #[.string (bA p), .string ⟨#[42]⟩] w fun e w' => e = .returned (.tuple #[.string (bA (if begB [42] p then p.drop 1 else p)), .bool (begB [42] p)]) ∧ w = w' := cutPrefix_any (bA p) ⟨#[42]⟩ w
theorem suffix_any (t e : List UInt8) (w : World) (h : t.length ≤ 100000000) : Calls Tryz.prog 73 #[.string (bA t), .string (bA e)] w fun x w' => x = .returned (.bool (Lib.hasSuffix t e)) ∧ w = w' :=
  (Tryz.strings_HasSuffix (bA t) (bA e) w (by rw [bA_size]; omega)).mono (by
    rintro x w' ⟨rfl, rfl⟩
    exact ⟨rfl, rfl⟩)
theorem suffix_is {t e : List UInt8} : Lib.hasSuffix t e = (t.drop (t.length - e.length) == e) := by
  rw [Bool.eq_iff_iff, beq_iff_eq]
  unfold Lib.hasSuffix
  rw [List.isSuffixOf_iff_suffix, List.suffix_iff_eq_drop]
  exact eq_comm
set_option maxHeartbeats 2000000 in
theorem cmHosts_any (p t : List UInt8) (w : World) (hp : p.length ≤ 100000000) (ht : t.length ≤ 100000000) : Calls Tryz.prog 40 #[.string (bA p), .string (bA t)] w fun e w' => e = .returned (.bool (Cm.hostB p t)) ∧ w = w' := by
  unfold Cm.hostB
  cases e1 : p == [42] with
  | true =>
    rw [Bool.true_or, Bool.true_or]
    go_enter Tryz.func40, Tryz.ntmps40
    go_wp2_with fail
    go_ret
    exact ⟨rfl, rfl⟩
  | false =>
  cases e2 : p == t with
  | true =>
    rw [Bool.or_true, Bool.true_or]
    go_enter Tryz.func40, Tryz.ntmps40
    go_wp2_with fail
    go_ret
    exact ⟨rfl, rfl⟩
  | false =>
  rw [Bool.or_false, Bool.false_or]
  have hc := fun W => cut_star p W
  cases hb : begB [42] p with
  | false =>
    have hr : Cm.tailB p t = false := by
      cases p with
      | nil => rfl
      | cons c e =>
        have : (c == 42) = false := by
          cases h : c == 42 with
          | false => rfl
          | true => rw [beq_iff_eq.1 h] at hb; simp [Urp.begB] at hb
        show (c == 42 && _) = false
        rw [this, Bool.false_and]
    rw [hb] at hc
    rw [hr]
    have HC := Lib.hid hc
    clear hc hr hb
    go_enter Tryz.func40, Tryz.ntmps40
    go_wp2_with fail
    refine (HC.out _).mono ?_
    rintro e w4 ⟨rfl, rfl⟩
    go_wp2_with fail
    go_ret
    exact ⟨rfl, rfl⟩
  | true =>
    obtain ⟨e, rfl⟩ : ∃ e, p = 42 :: e := by
      cases p with
      | nil => simp [Urp.begB] at hb
      | cons c e =>
        refine ⟨e, ?_⟩
        simp [Urp.begB] at hb
        rw [← hb]
    have hr : Cm.tailB (42 :: e) t = (decide (e.length < t.length) && t.drop (t.length - e.length) == e) := by
      exact Bool.true_and _
    rw [hb] at hc
    rw [hr]
    have hc2 : ∀ W, Calls Tryz.prog 62 #[.string (bA (42 :: e)), .string ⟨#[42]⟩] W fun x w' => x = .returned (.tuple #[.string (bA e), .bool true]) ∧ W = w' := hc
    have HC := Lib.hid hc2
    have hs := fun W => suffix_any t e W ht
    by_cases hlt : e.length < t.length
    · rw [suffix_is] at hs
      obtain ⟨q, hq⟩ : ∃ q, (t.drop (t.length - e.length) == e) = q := ⟨_, rfl⟩
      rw [hq] at hs ⊢
      rw [decide_eq_true hlt, Bool.true_and]
      have HS := Lib.hid hs
      have hlt' : (e.length : Int) < (t.length : Int) := by omega
      clear hc hc2 hr hb hq hs hlt
      go_enter Tryz.func40, Tryz.ntmps40
      go_wp2_with fail
      refine (HC.out _).mono ?_
      rintro e w4 ⟨rfl, rfl⟩
      go_wp2_with fail
      refine (HS.out _).mono ?_
      rintro e w4 ⟨rfl, rfl⟩
      go_wp2_with fail
      go_ret
      exact ⟨rfl, rfl⟩
    · rw [decide_eq_false hlt, Bool.false_and]
      have hlt' : ¬ (e.length : Int) < (t.length : Int) := by omega
      clear hc hc2 hr hb hs
      go_enter Tryz.func40, Tryz.ntmps40
      go_wp2_with fail
      refine (HC.out _).mono ?_
      rintro e w4 ⟨rfl, rfl⟩
      go_wp2_with fail
      go_ret
      exact ⟨rfl, rfl⟩
set_option maxHeartbeats 2000000 in
theorem cmPorts_any (s : Cm.Src) (o : Orig) (w : World) : Calls Tryz.prog 42 #[.int .i64 s.port, origV o] w fun e w' => e = .returned (.bool (Cm.portB s o)) ∧ Below w.heap.size w w' := by
  have hx : OBox (w.alloc (.cells (oCells o) 31)) w.heap.size o := OBox.new w o
  have hb0 : Below w.heap.size w (w.alloc (.cells (oCells o) 31)) := (Below.refl _ w).alloc (Nat.le_refl _) _
  have HB := Lib.hid hb0
  have H1 := Lib.hid (fun W => cmOwn_any o W)
  clear hb0
  unfold Cm.portB
  obtain ⟨p1, e1⟩ : ∃ x, (s.port == -2) = x := ⟨_, rfl⟩
  obtain ⟨p2, e2⟩ : ∃ x, (s.port == o.port) = x := ⟨_, rfl⟩
  obtain ⟨p3, e3⟩ : ∃ x, (s.port == -1) = x := ⟨_, rfl⟩
  obtain ⟨p4, e4⟩ : ∃ x, (s.port == 80) = x := ⟨_, rfl⟩
  obtain ⟨p5, e5⟩ : ∃ x, (o.scheme == sHttps) = x := ⟨_, rfl⟩
  obtain ⟨p6, e6⟩ : ∃ x, (o.port == 443) = x := ⟨_, rfl⟩
  obtain ⟨d, e7⟩ : ∃ x, Cm.dflt o = x := ⟨_, rfl⟩
  have h34 : ¬ (p3 = true ∧ p4 = true) := by
    rintro ⟨rfl, rfl⟩
    rw [beq_iff_eq] at e3 e4
    omega
  rw [e7] at H1
  rw [e1, e2, e3, e4, e5, e6, e7]
  unfold sHttps at e5
  unfold origV
  unfold oCells at *
  clear hx e7
  cases p1 with
  | true =>
    go_enter Tryz.func42, Tryz.ntmps42
    go_wp2_with fail
    go_ret
    exact ⟨rfl, HB.out⟩
  | false =>
  cases p2 with
  | true =>
    go_enter Tryz.func42, Tryz.ntmps42
    go_wp2_with fail
    go_ret
    exact ⟨rfl, HB.out⟩
  | false =>
  cases p3 with
  | true =>
    cases p4 with
    | true => exact absurd ⟨rfl, rfl⟩ h34
    | false =>
      go_enter Tryz.func42, Tryz.ntmps42
      go_wp2_with fail
      refine (H1.out _).mono ?_
      rintro e w4 ⟨rfl, hb4⟩
      go_wp2_with fail
      go_ret
      exact ⟨by simp, Below.onto HB.out hb4⟩
  | false =>
  cases p4 with
  | false =>
    go_enter Tryz.func42, Tryz.ntmps42
    go_wp2_with fail
    go_ret
    exact ⟨rfl, HB.out⟩
  | true =>
  cases p5 <;> cases p6
  all_goals
    go_enter Tryz.func42, Tryz.ntmps42
    go_wp2_with fail
    go_ret
    exact ⟨rfl, HB.out⟩
end Go.Proofs.YtinjkpbpkedfnaaGreatDoor
