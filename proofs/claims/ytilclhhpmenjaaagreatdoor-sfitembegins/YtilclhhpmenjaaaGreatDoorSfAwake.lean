/- The contract of the statements' head: the calls that the document fixes answer so. -/
import Derived.Test.YtilclhhpmenjaaaGreatDoorSfText
namespace Go.Proofs.YtilclhhpmenjaaaGreatDoor
open Go.RowKit Go.Shelf Go.Maps Go.Deep

/-- Parse's two answers. -/
theorem parse_some {s : List UInt8} {x : Sf.Itm} (h : Sf.parse s = some x) (w : World) : Calls Tryz.prog 13 #[.string (bA s)] w fun e w' => ∃ A c, e = .returned (.tuple #[.agg #[.int .i64 x.kind, .int .i64 x.n, .string (bA x.text), .slice A x.params.length c], .int .i64 0]) ∧ Below w.heap.size w w' ∧ w'.ownsRow w.heap.size 44 4 (.slice A x.params.length c) x.params.length (parsRow x.params) := by
  refine (parse_any s w).mono ?_
  rintro e w' ⟨hb, ⟨y, v, ho, rfl, hw⟩ | ⟨ho, _⟩⟩
  · rw [h] at ho; cases ho
    obtain ⟨A, c, rfl⟩ := slice4 hw
    exact ⟨A, c, rfl, hb, hw⟩
  · rw [h] at ho; cases ho
theorem parse_none {s : List UInt8} (h : Sf.parse s = none) (w : World) : Calls Tryz.prog 13 #[.string (bA s)] w fun e w' => e = .returned (.tuple #[.agg #[.int .i64 0, .int .i64 0, .string ⟨#[]⟩, .slice none 0 0], .int .i64 50]) ∧ Below w.heap.size w w' := by
  refine (parse_any s w).mono ?_
  rintro e w' ⟨hb, ⟨y, v, ho, rfl, hw⟩ | ⟨_, rfl⟩⟩
  · rw [h] at ho; cases ho
  · exact ⟨rfl, hb⟩
def eqP (a b : Sf.Par) : Bool := a.key == b.key && (a.kind == b.kind && (a.n == b.n && a.text == b.text))
theorem eqP_iff {a b : Sf.Par} : eqP a b = true ↔ a = b := by
  obtain ⟨k, i, n, t⟩ := a
  obtain ⟨k', i', n', t'⟩ := b
  simp [eqP]
set_option maxHeartbeats 1000000 in
theorem eqIn_par (a b : Sf.Par) (w : World) : (Op.equalIn 10000 44 (parV a) (parV b)).run Tryz.prog w = .ok (eqP a b) w := by
  unfold parV pC
  simp [go_sem]
  unfold eqP
  (repeat' split) <;> simp_all

def awA : List UInt8 := [115, 97, 109, 101, 45, 111, 114, 105, 103, 105, 110, 59, 32, 114, 101, 112, 111, 114, 116, 45, 116, 111, 61, 34, 101, 34]
def awB : List UInt8 := [45, 49, 50, 46, 53, 48, 59, 97, 59, 98, 61, 63, 48]
def awC : List UInt8 := [49, 32, 50]
def awP : Sf.Par := ⟨[114, 101, 112, 111, 114, 116, 45, 116, 111], 3, 0, [101]⟩
def awX : Sf.Itm := ⟨4, 0, [115, 97, 109, 101, 45, 111, 114, 105, 103, 105, 110], [awP]⟩
def awY : Sf.Itm := ⟨2, -12500, [], [⟨[97], 6, 1, []⟩, ⟨[98], 6, 0, []⟩]⟩
theorem aw1 : Sf.parse awA = some awX := by rfl
theorem aw2 : Sf.parse awB = some awY := by rfl
theorem aw3 : Sf.parse awC = none := by rfl
theorem dec12 : Lib.decDigits 12 = [49, 50] := by rw [dec_step (by omega), Sf.dec_small (by omega)]; rfl
theorem aw4 : Sf.text ⟨2, -12500, [], [⟨[97], 6, 1, []⟩, ⟨[98], 6, 0, []⟩]⟩ = some [45, 49, 50, 46, 53, 59, 97, 59, 98, 61, 63, 48] := by
  have h1 : Sf.vtext 2 (-12500) [] = some [45, 49, 50, 46, 53] := by
    rw [Sf.vt2 (by decide) (by decide), Sf.decT, if_pos (by decide), show ((-12500 : Int).natAbs / 1000) = 12 from rfl, dec12, show ((-12500 : Int).natAbs % 1000) = 500 from rfl, Sf.frac_eq (by decide)]
    rfl
  have h2 : Sf.ptext ⟨[97], 6, 1, []⟩ = some [59, 97] := by
    have := ptext_one (p := ⟨[97], 6, 1, []⟩) (by rfl) (Sf.vt6 (n := 1) (.inr rfl)) ⟨rfl, rfl⟩
    exact this
  have h3 : Sf.ptext ⟨[98], 6, 0, []⟩ = some [59, 98, 61, 63, 48] := by
    have := ptext_two (p := ⟨[98], 6, 0, []⟩) (by rfl) (Sf.vt6 (n := 0) (.inl rfl)) (by decide)
    exact this
  unfold Sf.text
  simp only [h1]
  rw [Sf.tailF, if_neg (by simp)]
  simp only [h2]
  rw [Sf.tailF, if_neg (by decide)]
  simp only [h3]
  rw [Sf.tailF]
  rfl
theorem smallB : SmallI 2 (-12500) [] [⟨[97], 6, 1, []⟩, ⟨[98], 6, 0, []⟩] := ⟨by decide, by decide, by decide, by decide, by
  intro p hp
  simp only [List.mem_cons, List.not_mem_nil, or_false] at hp
  rcases hp with rfl | rfl <;> exact ⟨by decide, by decide, by decide, by decide⟩⟩

theorem owns_below4 {w w' : World} {base : Nat} {v : Value} {n : Nat} {xs : List Value} (h : w.ownsRow base 44 4 v n xs) (hb : Below w.heap.size w w') : w'.ownsRow base 44 4 v n xs :=
  h.kept (row := none) (below_g hb none) (by cases hv : v.ownBlock <;> simp)
/-- An item that is held: its block, and its parameters' row. -/
structure IBox (W : World) (B : Nat) (k n : Int) (t : List UInt8) (A : Option Addr) (c : Nat) (l : List Sf.Par) : Prop where
  box : CBox W B 25 (iC k n t (.slice A l.length c))
  row : ∃ base, W.ownsRow base 44 4 (.slice A l.length c) l.length (parsRow l)
theorem IBox.new {W : World} {base : Nat} {k n : Int} {t : List UInt8} {A : Option Addr} {c : Nat} {l : List Sf.Par} (h : W.ownsRow base 44 4 (.slice A l.length c) l.length (parsRow l)) : IBox (W.alloc (.cells (iC k n t (.slice A l.length c)) 25)) W.heap.size k n t A c l := ⟨CBox.new _ _ _, base, h.alloc _⟩
theorem IBox.keep {W W' : World} {B : Nat} {k n : Int} {t : List UInt8} {A : Option Addr} {c : Nat} {l : List Sf.Par} (h : IBox W B k n t A c l) (hb : Below W.heap.size W W') : IBox W' B k n t A c l := ⟨h.box.keep hb, let ⟨b, hr⟩ := h.row; ⟨b, owns_below4 hr hb⟩⟩
theorem IBox.alloc {W : World} {B : Nat} {k n : Int} {t : List UInt8} {A : Option Addr} {c : Nat} {l : List Sf.Par} (h : IBox W B k n t A c l) (o : Obj) : IBox (W.alloc o) B k n t A c l := h.keep ((Below.refl _ _).alloc (Nat.le_refl _) _)
theorem IBox.seen {W : World} {B : Nat} {k n : Int} {t : List UInt8} {A : Option Addr} {c : Nat} {l : List Sf.Par} (h : IBox W B k n t A c l) : SeenP W A l := let ⟨_, hr⟩ := h.row; SeenP.own hr
theorem IBox.cells {W : World} {B : Nat} {k n : Int} {t : List UInt8} {A : Option Addr} {c : Nat} {l : List Sf.Par} (h : IBox W B k n t A c l) : W.cell? ⟨B, 0, none⟩ = some (.int .i64 k) ∧ W.cell? ⟨B, 1, none⟩ = some (.int .i64 n) ∧ W.cell? ⟨B, 2, none⟩ = some (.string (bA t)) ∧ W.cell? ⟨B, 3, none⟩ = some (.slice A l.length c) := ⟨h.box.c 0, h.box.c 1, h.box.c 2, h.box.c 3⟩
theorem IBox.lt {W : World} {B : Nat} {k n : Int} {t : List UInt8} {A : Option Addr} {c : Nat} {l : List Sf.Par} (h : IBox W B k n t A c l) : B < W.heap.size := h.box.lt
theorem onto {w w1 w2 : World} (h1 : Below w.heap.size w w1) (h2 : Below w1.heap.size w1 w2) : Below w.heap.size w w2 := h1.trans (h2.mono h1.size)

set_option maxHeartbeats 4000000 in
set_option maxRecDepth 100000 in
theorem awake_any (w : World) (hT : Tab w) (hM : TabM w) : Calls Tryz.prog 12 #[] w fun e w' => e = .returned (.bool true) ∧ Below w.heap.size w w' := by
  have H1 : Hid (∀ W : World, Calls Tryz.prog 13 #[.string ⟨#[115, 97, 109, 101, 45, 111, 114, 105, 103, 105, 110, 59, 32, 114, 101, 112, 111, 114, 116, 45, 116, 111, 61, 34, 101, 34]⟩] W fun e w' => ∃ A c, e = .returned (.tuple #[.agg #[.int .i64 4, .int .i64 0, .string ⟨#[115, 97, 109, 101, 45, 111, 114, 105, 103, 105, 110]⟩, .slice A 1 c], .int .i64 0]) ∧ Below W.heap.size W w' ∧ w'.ownsRow W.heap.size 44 4 (.slice A 1 c) 1 (parsRow [awP])) := Lib.hid (fun W => parse_some aw1 W)
  have H2 : Hid (∀ W : World, Calls Tryz.prog 13 #[.string ⟨#[45, 49, 50, 46, 53, 48, 59, 97, 59, 98, 61, 63, 48]⟩] W fun e w' => ∃ A c, e = .returned (.tuple #[.agg #[.int .i64 2, .int .i64 (-12500), .string ⟨#[]⟩, .slice A 2 c], .int .i64 0]) ∧ Below W.heap.size W w' ∧ w'.ownsRow W.heap.size 44 4 (.slice A 2 c) 2 (parsRow [⟨[97], 6, 1, []⟩, ⟨[98], 6, 0, []⟩])) := Lib.hid (fun W => parse_some aw2 W)
  have H3 : Hid (∀ W : World, Calls Tryz.prog 13 #[.string ⟨#[49, 32, 50]⟩] W fun e w' => e = .returned (.tuple #[.agg #[.int .i64 0, .int .i64 0, .string ⟨#[]⟩, .slice none 0 0], .int .i64 50]) ∧ Below W.heap.size W w') := Lib.hid (fun W => parse_none aw3 W)
  have H4 : Hid (∀ (W : World) (A : Option Addr) (c : Nat), Tab W → TabM W → SeenP W A [⟨[97], 6, 1, []⟩, ⟨[98], 6, 0, []⟩] → Calls Tryz.prog 24 #[.agg #[.int .i64 2, .int .i64 (-12500), .string ⟨#[]⟩, .slice A 2 c]] W fun e w' => e = .returned (.tuple #[.string ⟨#[45, 49, 50, 46, 53, 59, 97, 59, 98, 61, 63, 48]⟩, .int .i64 0]) ∧ Below W.heap.size W w') := Lib.hid (fun W A c h1 h2 h3 => by
    have := text_any 2 (-12500) [] A c [⟨[97], 6, 1, []⟩, ⟨[98], 6, 0, []⟩] W smallB h3 h1 h2
    rw [aw4] at this
    exact this)
  have HE : Hid (∀ W : World, (Op.equalIn 10000 44 (.agg #[.string ⟨#[114, 101, 112, 111, 114, 116, 45, 116, 111]⟩, .int .i64 3, .int .i64 0, .string ⟨#[101]⟩]) (.agg #[.string ⟨#[114, 101, 112, 111, 114, 116, 45, 116, 111]⟩, .int .i64 3, .int .i64 0, .string ⟨#[101]⟩])).run Tryz.prog W = .ok true W) := Lib.hid (fun W => eqIn_par awP awP W)
  have HT := Lib.hid hT; have HM := Lib.hid hM
  clear hT hM
  go_enter Tryz.func12, Tryz.ntmps12
  go_wp2_with fail
  refine (H1.out _).mono ?_
  rintro e w1 ⟨A1, k1, rfl, hb1, ho1⟩
  have HB1 := Lib.hid (below_al hb1 (.cells (iC 4 0 [115, 97, 109, 101, 45, 111, 114, 105, 103, 105, 110] (.slice A1 1 k1)) 25))
  have HX1 : Hid (IBox (w1.alloc (.cells (iC 4 0 [115, 97, 109, 101, 45, 111, 114, 105, 103, 105, 110] (.slice A1 1 k1)) 25)) w1.heap.size 4 0 [115, 97, 109, 101, 45, 111, 114, 105, 103, 105, 110] A1 k1 [awP]) := Lib.hid (IBox.new (l := [awP]) ho1)
  clear hb1 ho1 H1
  go_wp2_with fail
  refine (H2.out _).mono ?_
  rintro e w2 ⟨A2, k2, rfl, hb2, ho2⟩
  have HB2 := Lib.hid (below_al (onto HB1.out hb2) (.cells (iC 2 (-12500) [] (.slice A2 2 k2)) 25))
  have HX2 := Lib.hid ((HX1.out.keep hb2).alloc (.cells (iC 2 (-12500) [] (.slice A2 2 k2)) 25))
  have HY2 : Hid (IBox (w2.alloc (.cells (iC 2 (-12500) [] (.slice A2 2 k2)) 25)) w2.heap.size 2 (-12500) [] A2 k2 [⟨[97], 6, 1, []⟩, ⟨[98], 6, 0, []⟩]) := Lib.hid (IBox.new (l := [⟨[97], 6, 1, []⟩, ⟨[98], 6, 0, []⟩]) ho2)
  clear hb2 ho2 H2 HX1 HB1
  go_wp2_with fail
  refine (H4.out _ A2 k2 (HT.out.below HB2.out) (HM.out.below HB2.out) HY2.out.seen).mono ?_
  rintro e w3 ⟨rfl, hb3⟩
  have HB3 := Lib.hid (onto HB2.out hb3)
  have HX3 := Lib.hid (HX2.out.keep hb3)
  clear hb3 HB2 HX2 HY2 H4
  go_wp2_with fail
  refine (H3.out _).mono ?_
  rintro e w4 ⟨rfl, hb4⟩
  have HB4 := Lib.hid (below_al (onto HB3.out hb4) (.cells (iC 0 0 [] (.slice none 0 0)) 25))
  have hx4 := HX3.out.keep hb4
  have hlt := hx4.lt
  obtain ⟨c0, _, c2, c3⟩ := hx4.cells
  obtain ⟨g, of, rfl, hg, hc⟩ := hx4.seen (by simp)
  obtain ⟨d0, d1, d2, d3⟩ := hc 0 (by simp)
  simp only [Nat.zero_mul, Nat.add_zero, List.getElem_cons_zero, awP] at d0 d1 d2 d3
  simp only [List.length_cons, List.length_nil, Nat.zero_add] at c3
  have hne1 : ¬ w1.heap.size = w4.heap.size := by omega
  have hne2 : ¬ g = w4.heap.size := by omega
  have hE := HE.out
  clear hb4 HB3 HX3 H3 hc hx4 HE
  go_wp2_with fail
  go_ret
  exact ⟨rfl, HB4.out⟩
end Go.Proofs.YtilclhhpmenjaaaGreatDoor
