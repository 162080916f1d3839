/- The contracts of the program's parseHost and Parse. -/
import Derived.Test.YtinjkpbpkedfnaaGreatDoorCmCode3
import Derived.Test.YtinjkpbpkedfnaaGreatDoorCmRef4
namespace Go.Proofs.YtinjkpbpkedfnaaGreatDoor
open Go.RowKit
open Oct (lower numOk)
open Urp (bef aft hasB No begB)

theorem below_row {w W W' : World} {n B : Nat} (h : Below n w W) (hg : W.grownBy W' (some B)) (hB : n ≤ B) (hn : n ≤ W.heap.size) : Below n w W' :=
  ⟨hg.os.trans h.os, hg.tape.trans h.tape, hg.output.trans h.output, Nat.le_trans h.size hg.size, fun k hk => (hg.block k (by omega) (by intro e; cases e; omega)).trans (h.block k hk)⟩
/-- What stands while a source expression is read: the text's block, the answer's, that of the expression. -/
structure RdyPh (w0 : World) (B R : Nat) (t : List UInt8) (S : Nat) (s : Array Value) (W : World) : Prop where
  bel : Below w0.heap.size w0 W
  t : CBox W B 9 #[.string (bA t)]
  r : CBox W R 24 zeroC
  s : CBox W S 24 s
  hB : w0.heap.size ≤ B
  hR : w0.heap.size ≤ R
  hS : w0.heap.size ≤ S
  br : B ≠ R
  bs : B ≠ S
  rs : R ≠ S
theorem RdyPh.below {w0 W W' : World} {B R S : Nat} {t : List UInt8} {s : Array Value} (h : RdyPh w0 B R t S s W) (hb : Below W.heap.size W W') : RdyPh w0 B R t S s W' := ⟨Below.onto h.bel hb, h.t.keep hb, h.r.keep hb, h.s.keep hb, h.hB, h.hR, h.hS, h.br, h.bs, h.rs⟩
theorem RdyPh.drew {w0 W : World} {B R S : Nat} {t : List UInt8} {s : Array Value} (h : RdyPh w0 B R t S s W) : RdyPh w0 B R t S s W.drew := h.below (Below.refl _ _).drew
theorem RdyPh.cut {w0 W W' : World} {B R S : Nat} {t t' : List UInt8} {s : Array Value} (h : RdyPh w0 B R t S s W) (ht : CBox W' B 9 #[.string (bA t')]) (hg : W.grownBy W' (some B)) : RdyPh w0 B R t' S s W' :=
  ⟨below_row h.bel hg h.hB h.bel.size, ht, h.r.kept hg (by intro e; cases e; exact h.br rfl), h.s.kept hg (by intro e; cases e; exact h.bs rfl), h.hB, h.hR, h.hS, h.br, h.bs, h.rs⟩
theorem RdyPh.set {w0 W : World} {B R S : Nat} {t : List UInt8} {s : Array Value} (h : RdyPh w0 B R t S s W) (i : Nat) (v : Value) : RdyPh w0 B R t S (s.setIfInBounds i v) (W.setCell ⟨S, i, none⟩ v) :=
  ⟨h.bel.setCell h.hS _, h.t.other (Ne.symm h.bs), h.r.other (Ne.symm h.rs), h.s.set v, h.hB, h.hR, h.hS, h.br, h.bs, h.rs⟩
/-- The text's block and the answer's. -/
structure RdyPh0 (w0 : World) (B R : Nat) (t : List UInt8) (W : World) : Prop where
  bel : Below w0.heap.size w0 W
  t : CBox W B 9 #[.string (bA t)]
  r : CBox W R 24 zeroC
  hB : w0.heap.size ≤ B
  hR : w0.heap.size ≤ R
  br : B ≠ R
theorem RdyPh0.mk0 (w : World) (t : List UInt8) : RdyPh0 w w.heap.size (w.heap.size + 1) t ((w.alloc (.cells #[.string (bA t)] 9)).alloc (.cells zeroC 24)) :=
  ⟨((Below.refl _ w).alloc (Nat.le_refl _) _).alloc (by simp) _, (CBox.new w _ _).alloc _, by have := CBox.new (w.alloc (.cells #[.string (bA t)] 9)) 24 zeroC; simpa using this, Nat.le_refl _, by omega, by omega⟩
theorem RdyPh0.cut {w0 W W' : World} {B R : Nat} {t t' : List UInt8} (h : RdyPh0 w0 B R t W) (ht : CBox W' B 9 #[.string (bA t')]) (hg : W.grownBy W' (some B)) : RdyPh0 w0 B R t' W' :=
  ⟨below_row h.bel hg h.hB h.bel.size, ht, h.r.kept hg (by intro e; cases e; exact h.br rfl), h.hB, h.hR, h.br⟩
/-- The expression's own block, laid anew. -/
theorem RdyPh0.put {w0 W : World} {B R : Nat} {t : List UInt8} (h : RdyPh0 w0 B R t W) (a b c d : Value) : RdyPh w0 B R t W.heap.size #[a, b, c, d] (W.alloc (.cells #[a, b, c, d] 24)) := by
  have hl := h.t.lt; have hr := h.r.lt; have hz := h.bel.size
  exact ⟨h.bel.alloc hz _, h.t.alloc _, h.r.alloc _, CBox.new W _ _, h.hB, h.hR, hz, h.br, by omega, by omega⟩
theorem bef_drop (r : List UInt8) : (bef 47 (r.drop 1)).length ≤ r.length := by
  have h1 := Cm.bef_len 47 (r.drop 1)
  have h2 : (r.drop 1).length ≤ r.length := by rw [List.length_drop]; omega
  omega
theorem begB_take (m l : List UInt8) : begB m l = decide (l.take m.length = m) := by
  unfold begB
  rw [Bool.eq_iff_iff, List.isPrefixOf_iff_prefix, List.prefix_iff_eq_take, decide_eq_true_eq]
  exact eq_comm
theorem up_low {s : List UInt8} (h : ∀ b ∈ s, Oct.low1 b = b) : (∀ b ∈ Cm.up s, Oct.low1 b = b) ∧ ∀ b ∈ Cm.rst s, Oct.low1 b = b := by
  have e := Cm.up_rst s
  exact ⟨fun b hb => h b (by rw [← e]; exact List.mem_append_left _ hb), fun b hb => h b (by rw [← e]; exact List.mem_append_right _ hb)⟩
theorem up_len (s : List UInt8) : (Cm.up s).length ≤ s.length ∧ (Cm.rst s).length ≤ s.length := by
  have e := congrArg List.length (Cm.up_rst s)
  rw [List.length_append] at e
  omega
/-- What comes behind the host. -/
theorem tail_code (sch h r : List UInt8) : Cm.tailS sch h r = if begB [58] r then (if (portP (bef 47 (r.drop 1))).2 then (if Cm.patB h then ⟨4, sch, h, (portP (bef 47 (r.drop 1))).1⟩ else Cm.none_) else Cm.none_) else (if Cm.patB h then ⟨4, sch, h, -1⟩ else Cm.none_) := by
  unfold Cm.tailS portP
  obtain ⟨p, hp⟩ : ∃ p, bef 47 (r.drop 1) = p := ⟨_, rfl⟩
  rw [hp]
  have hb : begB [58] r = decide (r.take 1 = [58]) := begB_take [58] r
  by_cases h1 : r.take 1 = [58]
  · rw [decide_eq_true h1] at hb
    rw [hb, if_pos h1]
    by_cases h2 : p = [42]
    · simp [h2]
    · cases h3 : numOk p 65535 <;> simp [h2, Oct.numV, h3]
  · rw [decide_eq_false h1] at hb
    rw [hb, if_neg h1]
    simp
set_option maxHeartbeats 8000000 in
set_option maxRecDepth 20000 in
theorem cmPhost_no (s x r : List UInt8) (w : World) (hxl : x.length ≤ 100000000) (hrl : r.length ≤ 100000000) (hl1 : ∀ b ∈ x, Oct.low1 b = b) (hb1 : begB [58, 47, 47] r = false)
    (hcut : ∀ W, CBox W w.heap.size 9 #[.string (bA s)] → Calls Tryz.prog 63 #[.string ⟨#[58, 47]⟩, .pointer (some ⟨w.heap.size, 0, none⟩)] W fun e w' => e = .returned (.string (bA x)) ∧ CBox w' w.heap.size 9 #[.string (bA r)] ∧ W.grownBy w' (some w.heap.size)) :
    Calls Tryz.prog 30 #[.string (bA s)] w fun e w' => e = .returned (srcV (Cm.tailS [] x r)) ∧ Below w.heap.size w w' := by
  have HX0 := Lib.hid (RdyPh0.mk0 w s)
  have HCUT := Lib.hid hcut
  clear hcut
  unfold zeroC srcC at HX0
  have hpat := fun W => cmHost_any x W hxl hl1
  have hport := fun W => cmPort_any (bef 47 (r.drop 1)) W (Nat.le_trans (bef_drop r) hrl)
  have htc := tail_code [] x r
  obtain ⟨d, hd⟩ : ∃ d, r.drop 1 = d := ⟨_, rfl⟩
  rw [hd] at hport htc
  obtain ⟨p, hp⟩ : ∃ p, bef 47 d = p := ⟨_, rfl⟩
  rw [hp] at hport htc
  obtain ⟨b2, hb2⟩ : ∃ b, begB [58] r = b := ⟨_, rfl⟩
  obtain ⟨ok, hok⟩ : ∃ b, (portP p).2 = b := ⟨_, rfl⟩
  obtain ⟨pv, hpv⟩ : ∃ b, (portP p).1 = b := ⟨_, rfl⟩
  obtain ⟨pat, hpt⟩ : ∃ b, Cm.patB x = b := ⟨_, rfl⟩
  rw [hb2, hok, hpv, hpt] at htc
  rw [hok, hpv] at hport
  rw [hpt] at hpat
  obtain ⟨H, hH⟩ : ∃ y, Cm.tailS [] x r = y := ⟨_, rfl⟩
  rw [hH] at htc ⊢
  have HH := Lib.hid htc; have HPAT := Lib.hid hpat; have HPORT := Lib.hid hport; have HD := Lib.hid hd; have HPP := Lib.hid hp
  clear htc hpat hport hok hpv hpt hH hd hp hl1
  go_enter Tryz.func30, Tryz.ntmps30
  go_wp2_with fail
  refine (HCUT.out _ HX0.out.t).mono ?_
  rintro e w1 ⟨rfl, ht1, hg1⟩
  have HX1 := Lib.hid (HX0.out.cut ht1 hg1)
  clear ht1 hg1
  go_wp2_with fail
  have HX2 := Lib.hid (HX1.out.put (.int .i64 4) (.string (bA [])) (.string (bA x)) (.int .i64 (-1)))
  refine (cutMark_any _ r [58, 47, 47] _ HX2.out.t).mono ?_
  rintro e w3 ⟨rfl, ht3, hg3⟩
  rw [hb1] at ht3
  rw [hb1]
  have HX3 := Lib.hid (HX2.out.cut ht3 hg3)
  clear ht3 hg3
  obtain ⟨B, hB⟩ : ∃ A, w.heap.size = A := ⟨_, rfl⟩
  obtain ⟨R, hR⟩ : ∃ A, B + 1 = A := ⟨_, rfl⟩
  obtain ⟨S, hS⟩ : ∃ A, w1.heap.size = A := ⟨_, rfl⟩
  simp only [hB, hR, hS] at HX3 ⊢
  simp only [if_false, Bool.false_eq_true] at HX3
  clear HX0 HX1 HX2 HCUT hB hR hS hb1 hxl hrl
  go_wp2_with fail
  refine (cutMark_any B r [58] _ HX3.out.t).mono ?_
  rintro e w5 ⟨rfl, ht5, hg5⟩
  rw [hb2] at ht5
  rw [hb2]
  cases b2 with
  | true =>
    have ht5b : CBox w5 B 9 #[.string (bA d)] := by rw [← HD.out]; exact ht5
    have HX5 := Lib.hid (HX3.out.cut ht5b hg5)
    clear ht5 ht5b hg5 HX3
    go_wp2_with fail
    obtain ⟨q, hcp⟩ := cutPort_any B d _ HX5.out.t
    rw [HPP.out] at hcp
    refine hcp.mono ?_
    rintro e w6 ⟨rfl, ht6, hg6⟩
    have HX6 := Lib.hid (HX5.out.cut ht6 hg6)
    clear ht6 hg6 hcp HX5
    go_wp2_with fail
    refine (HPORT.out _).mono ?_
    rintro e w7 ⟨rfl, rfl⟩
    cases ok with
    | false =>
      obtain ⟨r0, r1, r2, r3, r4, r5, r6, r7⟩ := HX6.out.r.all4
      go_wp2_with fail
      exact src_done (x := Cm.none_) rfl rfl rfl HX6.out.r HX6.out.bel HX6.out.hR (by rw [HH.out]; rfl)
    | true =>
      obtain ⟨s0, s1, s2, s3, s4, s5, s6, s7⟩ := HX6.out.s.all4
      have HX7 := Lib.hid (HX6.out.set 3 (.int .i64 pv))
      have hp2 : (w6.setCell ⟨S, 3, none⟩ (.int .i64 pv)).cell? ⟨S, 2, none⟩ = some (.string (bA x)) := HX7.out.s.c 2
      clear HX6 s0 s1 s2 s4 s5 s6
      go_wp2_with fail
      refine (HPAT.out _).mono ?_
      rintro e w8 ⟨rfl, hb8⟩
      have HX8 := Lib.hid (HX7.out.below hb8)
      clear hb8 hp2 HX7 s3 s7
      obtain ⟨r0, r1, r2, r3, r4, r5, r6, r7⟩ := HX8.out.r.all4
      cases pat with
      | false =>
        go_wp2_with fail
        exact src_done (x := Cm.none_) rfl rfl rfl HX8.out.r HX8.out.bel HX8.out.hR (by rw [HH.out]; rfl)
      | true =>
        have hs8 : CBox w8 S 24 #[.int .i64 4, .string (bA []), .string (bA x), .int .i64 pv] := HX8.out.s
        obtain ⟨s0, s1, s2, s3, s4, s5, s6, s7⟩ := hs8.all4
        go_wp2_with fail
        exact src_done (x := ⟨4, [], x, pv⟩) rfl rfl rfl HX8.out.r HX8.out.bel HX8.out.hR (by rw [HH.out]; rfl)
  | false =>
    have HX5 := Lib.hid (HX3.out.cut ht5 hg5)
    clear ht5 hg5 HX3
    have s2 : w5.cell? ⟨S, 2, none⟩ = some (.string (bA x)) := HX5.out.s.c 2
    go_wp2_with fail
    refine (HPAT.out _).mono ?_
    rintro e w8 ⟨rfl, hb8⟩
    have HX8 := Lib.hid (HX5.out.below hb8)
    clear hb8 s2 HX5
    obtain ⟨r0, r1, r2, r3, r4, r5, r6, r7⟩ := HX8.out.r.all4
    cases pat with
    | false =>
      go_wp2_with fail
      exact src_done (x := Cm.none_) rfl rfl rfl HX8.out.r HX8.out.bel HX8.out.hR (by rw [HH.out]; rfl)
    | true =>
      obtain ⟨s0, s1, s2, s3, s4, s5, s6, s7⟩ := HX8.out.s.all4
      go_wp2_with fail
      exact src_done (x := ⟨4, [], x, -1⟩) rfl rfl rfl HX8.out.r HX8.out.bel HX8.out.hR (by rw [HH.out]; rfl)
end Go.Proofs.YtinjkpbpkedfnaaGreatDoor
