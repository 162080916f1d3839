/- Policies in memory: what lies somewhere; a box that holds one; a row of them; texts, some of them left off in front; whether two lists of texts, two policies, two lists of policies are alike, where they are. -/
import Derived.Test.YtcmbckacbdiebaaCsMath
import Derived.Test.YtcmbckacbdiebaaEmText
import Derived.Test.YtcmbckacbdiebaaHdSeen
import Derived.Test.YtcmbckacbdiebaaBox
namespace Go.Proofs.Ytcmbckacbdiebaa
open Go.RowKit

/-! ### lists of texts -/
theorem SeenT.nil (w : World) (A : Option Addr) : SeenT w A [] := fun h => absurd h (by simp)
/-- A list of texts that lies in a block of texts. -/
def TextsIn (w : World) (A : Option Addr) (l : List (List UInt8)) : Prop := 0 < l.length → ∃ g o cur, A = some ⟨g, o, none⟩ ∧ w.heap[g]? = some (.cells cur 9 (0, 0)) ∧ ∀ i (h : i < l.length), cur[o + i]? = some (Oct.strV l[i])
theorem TextsIn.nil (w : World) (A : Option Addr) : TextsIn w A [] := fun h => absurd h (by simp)
theorem TextsIn.kept {w w' : World} {A : Option Addr} {l : List (List UInt8)} (h : TextsIn w A l) (hk : KeptT 9 w w') : TextsIn w' A l := fun hn => by
  obtain ⟨g, o, cur, e, hg, hc⟩ := h hn
  exact ⟨g, o, cur, e, hk g cur hg, hc⟩
theorem TextsIn.below {w w' : World} {A : Option Addr} {l : List (List UInt8)} (h : TextsIn w A l) (hb : Below w.heap.size w w') : TextsIn w' A l := h.kept (.below hb)
theorem TextsIn.seen {w : World} {A : Option Addr} {l : List (List UInt8)} (h : TextsIn w A l) : SeenT w A l := fun hn => by
  obtain ⟨g, o, cur, e, hg, hc⟩ := h hn
  refine ⟨g, o, e, (Array.getElem?_eq_some_iff.1 hg).1, fun i hi => ?_⟩
  rw [← hc i hi]
  simp [World.cell?, hg]
theorem own_texts {w : World} {b n c : Nat} {A : Option Addr} {l : List (List UInt8)} (h : w.ownsRow b 9 1 (.slice A n c) l.length (l.map Oct.strV)) : TextsIn w A l := fun hn => by
  have hrow := h
  obtain ⟨_, ⟨h1, h2⟩ | ⟨g, cap, cur, h1, hb, hg, h3, h4, h5, h6⟩⟩ := h
  · omega
  · cases h1
    refine ⟨g, 0, cur, rfl, hg, fun i hi => ?_⟩
    have hc := World.ownsRow.cells hrow (g := g) rfl i (Oct.strV l[i]) (by simp [hi])
    rw [Nat.zero_add]
    have ea : ((⟨g, 0, none⟩ : Addr).add i) = ⟨g, i, none⟩ := by simp [Addr.add]; omega
    rw [ea] at hc
    simpa [World.cell?, hg] using hc
theorem TextsIn.drop {w : World} {g o : Nat} {l : List (List UInt8)} (h : TextsIn w (some ⟨g, o, none⟩) l) (k : Nat) : TextsIn w (some ⟨g, o + k, none⟩) (l.drop k) := fun hn => by
  rw [List.length_drop] at hn
  obtain ⟨g', o', cur, e, hg, hc⟩ := h (by omega)
  cases e
  refine ⟨g, o + k, cur, rfl, hg, fun i hi => ?_⟩
  rw [List.length_drop] at hi
  have := hc (k + i) (by omega)
  rw [List.getElem_drop, show o + k + i = o + (k + i) by omega]
  exact this
theorem own_cap {w : World} {b : Nat} {v : Value} {l : List (List UInt8)} (h : w.ownsRow b 9 1 v l.length (l.map Oct.strV)) : ∃ A c, v = .slice A l.length c ∧ l.length ≤ c := by
  obtain ⟨_, ⟨h1, h2⟩ | ⟨g, cap, cur, rfl, hb, hg, h3, h4, h5, h6⟩⟩ := h
  · exact ⟨none, 0, by rw [h1, h2], by omega⟩
  · exact ⟨_, _, rfl, h3⟩
set_option maxHeartbeats 1000000 in
/-- 'l[k:]' of texts. -/
theorem texts_from (A : Option Addr) (n c k : Nat) (hk : k ≤ n) (hc : n ≤ c) : ∃ A2, (∀ W : World, (Instr.slice 24 (.slice A n c) (some (.int .i64 (k : Int))) none none).run Try.prog W = .ok (.slice A2 (n - k) (c - k)) W) ∧ (∀ (W : World) (l : List (List UInt8)), l.length = n → TextsIn W A l → TextsIn W A2 (l.drop k)) := by
  have hk2 : (k : Int) ≤ (n : Int) := by omega
  refine ⟨if c = k then A else A.map (·.add (k * 1)), fun W => ?_, fun W l hl hs hn => ?_⟩
  · simp [go_sem, hk2, Try.underlying24]
  · rw [List.length_drop] at hn
    obtain ⟨g, o, cur, rfl, hg, hcs⟩ := hs (by omega)
    have hd := TextsIn.drop (fun _ => ⟨g, o, cur, rfl, hg, hcs⟩) k
    rw [if_neg (by omega)]
    have e : Option.map (fun x : Addr => x.add (k * 1)) (some ⟨g, o, none⟩) = some ⟨g, o + k, none⟩ := by simp [Addr.add]
    rw [e]
    exact hd (by rw [List.length_drop]; omega)
set_option maxHeartbeats 1000000 in
/-- Two lists of texts that are alike. -/
theorem texts_self (A1 A2 : Option Addr) (c1 c2 : Nat) (pa : List (List UInt8)) (w : World) (hm : pa.length ≤ 100000000) (h1 : SeenT w A1 pa) (h2 : SeenT w A2 pa) :
    Calls Try.prog 21 #[.slice A1 pa.length c1, .slice A2 pa.length c2] w fun e w' => e = .returned (.bool true) ∧ Below w.heap.size w w' := by
  have H1 := Lib.hid h1; have H2 := Lib.hid h2
  clear h1 h2
  have h0 : ((pa.length : Int) != (pa.length : Int)) = false := by simp
  go_enter Try.func21, Try.ntmps21
  go_wp2
  clear h0
  go_loopw [5] (fun i wr => ∃ k m : Nat, k ≤ pa.length ∧ i = .int .i64 k ∧ wr = w.drewN m) (fun i _ => pa.length - (intOf i).toNat)
  case atStart => exact ⟨0, 0, Nat.zero_le _, rfl, rfl⟩
  case round =>
    obtain ⟨k, m, hk, rfl, rfl⟩ := hrel
    by_cases hlt : k < pa.length
    · obtain ⟨g1, o1, rfl, hg1, hc1⟩ := H1.out (by omega)
      obtain ⟨g2, o2, rfl, hg2, hc2⟩ := H2.out (by omega)
      have e1 := hc1 k hlt
      have e2 := hc2 k hlt
      obtain ⟨x, hx⟩ : ∃ x, pa[k] = x := ⟨_, rfl⟩
      rw [hx] at e1 e2
      clear hx hc1 hc2
      unfold Oct.strV at e1 e2
      go_wp2
      go_quiet (fail)
      go_wp2
      go_roundw
      case rel => exact ⟨k + 1, m + nq, by omega, by go_num, rfl⟩
      case measure => simp [intOf]; omega
    · go_wp2
      go_ret
      exact ⟨rfl, below_drewN' (Below.refl _ _) _⟩

/-! ### policies -/
def polC (p : Cs.Pol) (A : Option Addr) (c : Nat) (B : Option Addr) (d : Nat) : Array Value := #[.bool p.hasAnc, .slice A p.anc.length c, .bool p.hasBox, .slice B p.box.length d]
/-- A value that is a policy. -/
def PolAt (w : World) (p : Cs.Pol) (v : Value) : Prop := ∃ A c B d, v = .agg (polC p A c B d) ∧ SeenT w A p.anc ∧ SeenT w B p.box
theorem PolAt.below {w w' : World} {p : Cs.Pol} {v : Value} (h : PolAt w p v) (hb : Below w.heap.size w w') : PolAt w' p v := by
  obtain ⟨A, c, B, d, e, h1, h2⟩ := h
  exact ⟨A, c, B, d, e, h1.below hb, h2.below hb⟩
/-- A value that is a policy whose words lie in blocks of texts. -/
def PolIn (w : World) (p : Cs.Pol) (v : Value) : Prop := ∃ A c B d, v = .agg (polC p A c B d) ∧ TextsIn w A p.anc ∧ TextsIn w B p.box
theorem PolIn.kept {w w' : World} {p : Cs.Pol} {v : Value} (h : PolIn w p v) (hk : KeptT 9 w w') : PolIn w' p v := by
  obtain ⟨A, c, B, d, e, h1, h2⟩ := h
  exact ⟨A, c, B, d, e, h1.kept hk, h2.kept hk⟩
theorem PolIn.below {w w' : World} {p : Cs.Pol} {v : Value} (h : PolIn w p v) (hb : Below w.heap.size w w') : PolIn w' p v := h.kept (.below hb)
theorem PolIn.at {w : World} {p : Cs.Pol} {v : Value} (h : PolIn w p v) : PolAt w p v := by
  obtain ⟨A, c, B, d, e, h1, h2⟩ := h
  exact ⟨A, c, B, d, e, h1.seen, h2.seen⟩
/-- A policy that is not too great. -/
structure FitP (p : Cs.Pol) : Prop where
  anc : p.anc.length ≤ 100000000
  box : p.box.length ≤ 100000000
def polV (p : Cs.Pol) (A : Option Addr) (c : Nat) (B : Option Addr) (d : Nat) : Value := .agg (polC p A c B d)
set_option maxHeartbeats 1000000 in
theorem load_pol {w : World} {B : Nat} {b1 b2 : Bool} {v1 v2 : Value} (h1 : ∃ A n c, v1 = .slice A n c) (h2 : ∃ A n c, v2 = .slice A n c) (h : CBox w B 26 #[.bool b1, v1, .bool b2, v2]) : (loadVar 26 ⟨B, 0, none⟩).run Try.prog w = .ok (.agg #[.bool b1, v1, .bool b2, v2]) w := by
  obtain ⟨A1, n1, c1, rfl⟩ := h1
  obtain ⟨A2, n2, c2, rfl⟩ := h2
  have c0 := h.c 0; have c1 := h.c 1; have c2 := h.c 2; have c3 := h.c 3
  simp at c0 c1 c2 c3
  simp [go_sem, c0, c1, c2, c3]
theorem results_pol {fn : Func} {t : Tmp} (h : fn.results = #[.cell t 26]) (tmps : Array Value) (w : World) {B : Nat} {p : Cs.Pol} {A1 : Option Addr} {c1 : Nat} {A2 : Option Addr} {c2 : Nat} (hp : tmps[t]?.getD undef = .pointer (some ⟨B, 0, none⟩)) (hb : CBox w B 26 (polC p A1 c1 A2 c2)) :
    (results fn tmps).run Try.prog w = .ok (.agg (polC p A1 c1 A2 c2)) w := by
  have hl := load_pol ⟨_, _, _, rfl⟩ ⟨_, _, _, rfl⟩ hb
  unfold polC
  simp [results, h, hp, hl, asAddr]
theorem kept_set4 {w : World} {B : Nat} {cs : Array Value} (hx : CBox w B 26 cs) (a b c d : Value) : KeptT 9 w (set4 w B a b c d) :=
  KeptT.box (by decide) hx (g_set4 (g_refl w (some B)) a b c d (.inr rfl))
set_option maxHeartbeats 4000000 in
/-- Two policies that are alike. -/
theorem same_self (p : Cs.Pol) (v1 v2 : Value) (w : World) (hf : FitP p) (h1 : PolAt w p v1) (h2 : PolAt w p v2) :
    Calls Try.prog 10 #[v1, v2] w fun e w' => e = .returned (.bool true) ∧ Below w.heap.size w w' := by
  obtain ⟨A1, c1, B1, d1, rfl, a1, b1⟩ := h1
  obtain ⟨A2, c2, B2, d2, rfl, a2, b2⟩ := h2
  have hb0 : Below w.heap.size w (w.alloc (.cells (polC p A1 c1 B1 d1) 26)) := (Below.refl _ _).alloc (Nat.le_refl _) _
  have hb1 : Below w.heap.size w ((w.alloc (.cells (polC p A1 c1 B1 d1) 26)).alloc (.cells (polC p A2 c2 B2 d2) 26)) := hb0.alloc hb0.size _
  have x1 : CBox ((w.alloc (.cells (polC p A1 c1 B1 d1) 26)).alloc (.cells (polC p A2 c2 B2 d2) 26)) w.heap.size 26 (polC p A1 c1 B1 d1) := (CBox.new w _ _).keep ((Below.refl _ _).alloc (Nat.le_refl _) _)
  have x2 : CBox ((w.alloc (.cells (polC p A1 c1 B1 d1) 26)).alloc (.cells (polC p A2 c2 B2 d2) 26)) (w.heap.size + 1) 26 (polC p A2 c2 B2 d2) := by
    have := CBox.new (w.alloc (.cells (polC p A1 c1 B1 d1) 26)) 26 (polC p A2 c2 B2 d2)
    simpa using this
  have HB := Lib.hid hb1; have X1 := Lib.hid x1; have X2 := Lib.hid x2
  have T1 := Lib.hid (a1.below hb1); have T2 := Lib.hid (a2.below hb1); have U1 := Lib.hid (b1.below hb1); have U2 := Lib.hid (b2.below hb1)
  obtain ⟨ha, pa, hb, pb⟩ := p
  obtain ⟨f1, f2⟩ := hf
  unfold polC at *
  clear hb0 hb1 x1 x2 a1 a2 b1 b2
  dsimp only at *
  have y0 := X1.out.c 0; have y1 := X1.out.c 1; have y2 := X1.out.c 2; have y3 := X1.out.c 3
  have z0 := X2.out.c 0; have z1 := X2.out.c 1; have z2 := X2.out.c 2; have z3 := X2.out.c 3
  go_enter Try.func10, Try.ntmps10
  go_wp2_with fail
  refine (texts_self A1 A2 c1 c2 pa _ f1 T1.out T2.out).mono ?_
  rintro e w1 ⟨rfl, hb1⟩
  have HB1 : Hid (Below w.heap.size w w1) := Lib.hid (HB.out.trans (hb1.mono HB.out.size))
  have X3 := Lib.hid (X1.out.keep hb1); have X4 := Lib.hid (X2.out.keep hb1)
  have U3 := Lib.hid (U1.out.below hb1); have U4 := Lib.hid (U2.out.below hb1)
  clear hb1 y0 y1 y2 y3 z0 z1 z2 z3 T1 T2 U1 U2 X1 X2 HB
  have y0 := X3.out.c 0; have y1 := X3.out.c 1; have y2 := X3.out.c 2; have y3 := X3.out.c 3
  have z0 := X4.out.c 0; have z1 := X4.out.c 1; have z2 := X4.out.c 2; have z3 := X4.out.c 3
  go_wp2_with fail
  refine (texts_self B1 B2 d1 d2 pb _ f2 U3.out U4.out).mono ?_
  rintro e w2 ⟨rfl, hb2⟩
  have HB2 : Hid (Below w.heap.size w w2) := Lib.hid (HB1.out.trans (hb2.mono HB1.out.size))
  have X5 := Lib.hid (X3.out.keep hb2); have X6 := Lib.hid (X4.out.keep hb2)
  clear hb2 y0 y1 y2 y3 z0 z1 z2 z3 U3 U4 X3 X4 HB1
  have y0 := X5.out.c 0; have y1 := X5.out.c 1; have y2 := X5.out.c 2; have y3 := X5.out.c 3
  have z0 := X6.out.c 0; have z1 := X6.out.c 1; have z2 := X6.out.c 2; have z3 := X6.out.c 3
  cases ha <;> cases hb
  all_goals
    go_wp2_with fail
    go_ret
    exact ⟨rfl, HB2.out⟩
end Go.Proofs.Ytcmbckacbdiebaa
