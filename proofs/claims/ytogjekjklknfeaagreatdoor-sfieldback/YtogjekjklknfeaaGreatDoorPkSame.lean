/- Texts of one layer, joined. -/
import Derived.Test.YtogjekjklknfeaaGreatDoorPkTail
import Derived.Deep.QuietTactic
import Derived.BigQuiet
import Derived.OpenShut
import Derived.Handed
import Derived.ProofKit
import Derived.Deep.Slices

/- The contract of the statements' head: the calls that the document fixes answer so. -/

namespace Go.Proofs.YtogjekjklknfeaaGreatDoor
open Go.RowKit Go.Shelf Go.Maps Go.Deep

/-- Parse's two answers. -/
theorem parse_some {s : List UInt8} {x : Sf.Itm} (h : Sf.parse s = some x) (w : World) : Calls Tryz.prog 20 #[.string (bA s)] w fun e w' => ∃ A c, e = .returned (.tuple #[.agg #[.int .i64 x.kind, .int .i64 x.n, .string (bA x.text), .slice A x.params.length c], .int .i64 0]) ∧ Below w.heap.size w w' ∧ w'.ownsRow w.heap.size 53 4 (.slice A x.params.length c) x.params.length (parsRow x.params) := by
  refine (parse_any s w).mono ?_
  rintro e w' ⟨hb, ⟨y, v, ho, rfl, hw⟩ | ⟨ho, _⟩⟩
  · rw [h] at ho; cases ho
    obtain ⟨A, c, rfl⟩ := slice4 hw
    exact ⟨A, c, rfl, hb, hw⟩
  · rw [h] at ho; cases ho
theorem parse_none {s : List UInt8} (h : Sf.parse s = none) (w : World) : Calls Tryz.prog 20 #[.string (bA s)] w fun e w' => e = .returned (.tuple #[.agg #[.int .i64 0, .int .i64 0, .string ⟨#[]⟩, .slice none 0 0], .int .i64 50]) ∧ Below w.heap.size w w' := by
  refine (parse_any s w).mono ?_
  rintro e w' ⟨hb, ⟨y, v, ho, rfl, hw⟩ | ⟨_, rfl⟩⟩
  · rw [h] at ho; cases ho
  · exact ⟨rfl, hb⟩
def eqP (a b : Sf.Par) : Bool := a.key == b.key && (a.kind == b.kind && (a.n == b.n && a.text == b.text))
theorem eqP_iff {a b : Sf.Par} : eqP a b = true ↔ a = b := by
  obtain ⟨k, i, n, t⟩ := a
  obtain ⟨k', i', n', t'⟩ := b
  simp [eqP]
set_option maxHeartbeats 1000000 in
theorem eqIn_par (a b : Sf.Par) (w : World) : (Op.equalIn 10000 53 (parV a) (parV b)).run Tryz.prog w = .ok (eqP a b) w := by
  unfold parV pC
  simp [go_sem]
  unfold eqP
  (repeat' split) <;> simp_all

def awA : List UInt8 := [115, 97, 109, 101, 45, 111, 114, 105, 103, 105, 110, 59, 32, 114, 101, 112, 111, 114, 116, 45, 116, 111, 61, 34, 101, 34]
def awB : List UInt8 := [45, 49, 50, 46, 53, 48, 59, 97, 59, 98, 61, 63, 48]
def awC : List UInt8 := [49, 32, 50]
def awP : Sf.Par := ⟨[114, 101, 112, 111, 114, 116, 45, 116, 111], 3, 0, [101]⟩
def awX : Sf.Itm := ⟨4, 0, [115, 97, 109, 101, 45, 111, 114, 105, 103, 105, 110], [awP]⟩
def awY : Sf.Itm := ⟨2, -12500, [], [⟨[97], 6, 1, []⟩, ⟨[98], 6, 0, []⟩]⟩
theorem aw1 : Sf.parse awA = some awX := by rfl
theorem aw2 : Sf.parse awB = some awY := by rfl
theorem aw3 : Sf.parse awC = none := by rfl
theorem dec12 : Lib.decDigits 12 = [49, 50] := by rw [dec_step (by omega), Sf.dec_small (by omega)]; rfl
theorem aw4 : Sf.text ⟨2, -12500, [], [⟨[97], 6, 1, []⟩, ⟨[98], 6, 0, []⟩]⟩ = some [45, 49, 50, 46, 53, 59, 97, 59, 98, 61, 63, 48] := by
  have h1 : Sf.vtext 2 (-12500) [] = some [45, 49, 50, 46, 53] := by
    rw [Sf.vt2 (by decide) (by decide), Sf.decT, if_pos (by decide), show ((-12500 : Int).natAbs / 1000) = 12 from rfl, dec12, show ((-12500 : Int).natAbs % 1000) = 500 from rfl, Sf.frac_eq (by decide)]
    rfl
  have h2 : Sf.ptext ⟨[97], 6, 1, []⟩ = some [59, 97] := by
    have := ptext_one (p := ⟨[97], 6, 1, []⟩) (by rfl) (Sf.vt6 (n := 1) (.inr rfl)) ⟨rfl, rfl⟩
    exact this
  have h3 : Sf.ptext ⟨[98], 6, 0, []⟩ = some [59, 98, 61, 63, 48] := by
    have := ptext_two (p := ⟨[98], 6, 0, []⟩) (by rfl) (Sf.vt6 (n := 0) (.inl rfl)) (by decide)
    exact this
  unfold Sf.text
  simp only [h1]
  rw [Sf.tailF, if_neg (by simp)]
  simp only [h2]
  rw [Sf.tailF, if_neg (by decide)]
  simp only [h3]
  rw [Sf.tailF]
  rfl
theorem smallB : SmallI 2 (-12500) [] [⟨[97], 6, 1, []⟩, ⟨[98], 6, 0, []⟩] := ⟨by decide, by decide, by decide, by decide, by
  intro p hp
  simp only [List.mem_cons, List.not_mem_nil, or_false] at hp
  rcases hp with rfl | rfl <;> exact ⟨by decide, by decide, by decide, by decide⟩⟩

theorem owns_below4 {w w' : World} {base : Nat} {v : Value} {n : Nat} {xs : List Value} (h : w.ownsRow base 53 4 v n xs) (hb : Below w.heap.size w w') : w'.ownsRow base 53 4 v n xs :=
  h.kept (row := none) (below_g hb none) (by cases hv : v.ownBlock <;> simp)
/-- An item that is held: its block, and its parameters' row. -/
structure IBox (W : World) (B : Nat) (k n : Int) (t : List UInt8) (A : Option Addr) (c : Nat) (l : List Sf.Par) : Prop where
  box : CBox W B 35 (iC k n t (.slice A l.length c))
  row : ∃ base, W.ownsRow base 53 4 (.slice A l.length c) l.length (parsRow l)
theorem IBox.new {W : World} {base : Nat} {k n : Int} {t : List UInt8} {A : Option Addr} {c : Nat} {l : List Sf.Par} (h : W.ownsRow base 53 4 (.slice A l.length c) l.length (parsRow l)) : IBox (W.alloc (.cells (iC k n t (.slice A l.length c)) 35)) W.heap.size k n t A c l := ⟨CBox.new _ _ _, base, h.alloc _⟩
theorem IBox.keep {W W' : World} {B : Nat} {k n : Int} {t : List UInt8} {A : Option Addr} {c : Nat} {l : List Sf.Par} (h : IBox W B k n t A c l) (hb : Below W.heap.size W W') : IBox W' B k n t A c l := ⟨h.box.keep hb, let ⟨b, hr⟩ := h.row; ⟨b, owns_below4 hr hb⟩⟩
theorem IBox.alloc {W : World} {B : Nat} {k n : Int} {t : List UInt8} {A : Option Addr} {c : Nat} {l : List Sf.Par} (h : IBox W B k n t A c l) (o : Obj) : IBox (W.alloc o) B k n t A c l := h.keep ((Below.refl _ _).alloc (Nat.le_refl _) _)
theorem IBox.seen {W : World} {B : Nat} {k n : Int} {t : List UInt8} {A : Option Addr} {c : Nat} {l : List Sf.Par} (h : IBox W B k n t A c l) : SeenP W A l := let ⟨_, hr⟩ := h.row; SeenP.own hr
theorem IBox.cells {W : World} {B : Nat} {k n : Int} {t : List UInt8} {A : Option Addr} {c : Nat} {l : List Sf.Par} (h : IBox W B k n t A c l) : W.cell? ⟨B, 0, none⟩ = some (.int .i64 k) ∧ W.cell? ⟨B, 1, none⟩ = some (.int .i64 n) ∧ W.cell? ⟨B, 2, none⟩ = some (.string (bA t)) ∧ W.cell? ⟨B, 3, none⟩ = some (.slice A l.length c) := ⟨h.box.c 0, h.box.c 1, h.box.c 2, h.box.c 3⟩
theorem IBox.lt {W : World} {B : Nat} {k n : Int} {t : List UInt8} {A : Option Addr} {c : Nat} {l : List Sf.Par} (h : IBox W B k n t A c l) : B < W.heap.size := h.box.lt
theorem onto {w w1 w2 : World} (h1 : Below w.heap.size w w1) (h2 : Below w1.heap.size w1 w2) : Below w.heap.size w w2 := h1.trans (h2.mono h1.size)

end Go.Proofs.YtogjekjklknfeaaGreatDoor

/- The contracts of the document's SameParams and Same, and of the statements' few. -/

namespace Go.Proofs.YtogjekjklknfeaaGreatDoor
open Go.RowKit Go.Shelf Go.Maps Go.Deep

instance : DecidableEq Sf.Par := fun a b => decidable_of_iff (eqP a b = true) eqP_iff
instance : DecidableEq Sf.Itm := fun a b => decidable_of_iff (a.kind = b.kind ∧ a.n = b.n ∧ a.text = b.text ∧ a.params = b.params) ⟨fun h => by obtain ⟨k, n, t, l⟩ := a; obtain ⟨k', n', t', l'⟩ := b; obtain ⟨h1, h2, h3, h4⟩ := h; simp only at h1 h2 h3 h4; rw [h1, h2, h3, h4], fun h => by rw [h]; exact ⟨rfl, rfl, rfl, rfl⟩⟩
theorem pars_miss {l m : List Sf.Par} {k : Nat} (h1 : k < l.length) (h2 : k < m.length) {x y : Sf.Par} (hx : l[k] = x) (hy : m[k] = y) (hne : eqP x y = false) : false = decide (l = m) := by
  symm
  apply decide_eq_false
  rintro rfl
  rw [hx] at hy
  subst hy
  rw [eqP_iff.2 rfl] at hne; cases hne
theorem pars_next {l m : List Sf.Par} {k : Nat} (h1 : k < l.length) (h2 : k < m.length) {x y : Sf.Par} (hx : l[k] = x) (hy : m[k] = y) (hne : eqP x y = true) (h : l.take k = m.take k) : l.take (k + 1) = m.take (k + 1) := by
  rw [List.take_succ_eq_append_getElem h1, List.take_succ_eq_append_getElem h2, h, hx, hy, eqP_iff.1 hne]
theorem pars_end {l m : List Sf.Par} {k : Nat} (hk : l.length ≤ k) (hl : l.length = m.length) (h : l.take k = m.take k) : true = decide (l = m) := by
  symm
  apply decide_eq_true
  rw [List.take_of_length_le hk, List.take_of_length_le (by omega)] at h
  exact h
set_option maxHeartbeats 2000000 in
set_option maxRecDepth 20000 in
theorem sameP_off (g1 o1 g2 o2 c1 c2 : Nat) (l m : List Sf.Par) (w : World) (hl : l.length = m.length) (hm : l.length ≤ maxLen)
    (ha : ∀ i (h : i < l.length), w.cell? ⟨g1, o1 + i * 4, none⟩ = some (.string (bA l[i].key)) ∧ w.cell? ⟨g1, o1 + i * 4 + 1, none⟩ = some (.int .i64 l[i].kind) ∧ w.cell? ⟨g1, o1 + i * 4 + 2, none⟩ = some (.int .i64 l[i].n) ∧ w.cell? ⟨g1, o1 + i * 4 + 3, none⟩ = some (.string (bA l[i].text)))
    (hb : ∀ i (h : i < m.length), w.cell? ⟨g2, o2 + i * 4, none⟩ = some (.string (bA m[i].key)) ∧ w.cell? ⟨g2, o2 + i * 4 + 1, none⟩ = some (.int .i64 m[i].kind) ∧ w.cell? ⟨g2, o2 + i * 4 + 2, none⟩ = some (.int .i64 m[i].n) ∧ w.cell? ⟨g2, o2 + i * 4 + 3, none⟩ = some (.string (bA m[i].text))) :
    Calls Tryz.prog 29 #[.slice (some ⟨g1, o1, none⟩) l.length c1, .slice (some ⟨g2, o2, none⟩) l.length c2] w fun e w' => e = .returned (.bool (decide (l = m))) ∧ ∃ q, w' = w.drewN q := by
  unfold maxLen at hm
  have HL := Lib.hid hl
  have HA := Lib.hid ha
  have HB := Lib.hid hb
  clear ha hb hl
  have h0 : ((l.length : Int) != (l.length : Int)) = false := by simp
  go_enter Tryz.func29, Tryz.ntmps29
  go_wp2
  clear h0
  go_loopw [5] (fun i wr => ∃ k m' : Nat, k ≤ l.length ∧ i = .int .i64 k ∧ wr = w.drewN m' ∧ Hid (l.take k = m.take k)) (fun i _ => l.length - (intOf i).toNat)
  case atStart => exact ⟨0, 0, Nat.zero_le _, rfl, rfl, rfl⟩
  case round =>
    obtain ⟨k, m', hk, rfl, rfl, hin⟩ := hrel
    by_cases hlt : k < l.length
    · have hlt2 : k < m.length := by rw [← HL.out]; exact hlt
      obtain ⟨a0, a1, a2, a3⟩ := HA.out k hlt
      obtain ⟨b0, b1, b2, b3⟩ := HB.out k hlt2
      obtain ⟨x, hx⟩ : ∃ x, l[k] = x := ⟨_, rfl⟩
      obtain ⟨y, hy⟩ : ∃ y, m[k] = y := ⟨_, rfl⟩
      rw [hx] at a0 a1 a2 a3; rw [hy] at b0 b1 b2 b3
      have HX := Lib.hid hx; have HY := Lib.hid hy
      clear hx hy
      have hE : ∀ W : World, (Op.equalIn 10000 53 (.agg #[.string (bA x.key), .int .i64 x.kind, .int .i64 x.n, .string (bA x.text)]) (.agg #[.string (bA y.key), .int .i64 y.kind, .int .i64 y.n, .string (bA y.text)])).run Tryz.prog W = .ok (eqP x y) W := fun W => eqIn_par x y W
      obtain ⟨b, hbe⟩ : ∃ b, eqP x y = b := ⟨_, rfl⟩
      simp only [hbe] at hE
      have HE := Lib.hid hbe
      clear hbe
      go_wp2
      go_quiet (fail)
      cases b with
      | false =>
        go_wp2
        go_ret
        exact ⟨Oct.ret_bool (pars_miss hlt hlt2 HX.out HY.out HE.out), m' + nq, World.drewN_drewN _ _ _⟩
      | true =>
        go_wp2
        go_roundw
        case rel => exact ⟨k + 1, m' + nq, by omega, by go_num, rfl, pars_next hlt hlt2 HX.out HY.out HE.out hin.out⟩
        case measure => simp [intOf]; omega
    · go_wp2
      go_ret
      exact ⟨Oct.ret_bool (pars_end (by omega) HL.out hin.out), m', rfl⟩

theorem below_drew (w : World) (q : Nat) : Below w.heap.size w (w.drewN q) := ⟨rfl, rfl, rfl, Nat.le_refl _, fun _ _ => rfl⟩
theorem own_len4 {w : World} {base : Nat} {A : Option Addr} {n c : Nat} {xs : List Value} (h : w.ownsRow base 53 4 (.slice A n c) n xs) : n ≤ maxLen := by
  obtain ⟨_, ⟨h1, h2⟩ | ⟨g, cap, cur, _, hb, hg, h3, h4, h5, h6⟩⟩ := h
  · unfold maxLen; omega
  · omega
set_option maxHeartbeats 1000000 in
/-- Are two lists of parameters the same? -/
theorem sameP_any (A B : Option Addr) (c d : Nat) (l m : List Sf.Par) (w : World) (hA : SeenP w A l) (hB : SeenP w B m) (hm : l.length ≤ maxLen) :
    Calls Tryz.prog 29 #[.slice A l.length c, .slice B m.length d] w fun e w' => e = .returned (.bool (decide (l = m))) ∧ Below w.heap.size w w' := by
  by_cases hl : l.length = m.length
  · by_cases h0 : 0 < l.length
    · obtain ⟨g1, o1, rfl, _, ha⟩ := hA h0
      obtain ⟨g2, o2, rfl, _, hb⟩ := hB (by omega)
      have := sameP_off g1 o1 g2 o2 c d l m w hl hm ha hb
      rw [← hl]
      refine this.mono ?_
      rintro e w' ⟨rfl, q, rfl⟩
      exact ⟨rfl, below_drew _ _⟩
    · have e1 : l = [] := List.length_eq_zero_iff.1 (by omega)
      have e2 : m = [] := List.length_eq_zero_iff.1 (by omega)
      subst e1; subst e2
      clear hA hB hl h0 hm
      go_enter Tryz.func29, Tryz.ntmps29
      go_wp2
      go_loop [5] (fun i => i = .int .i64 0) (fun _ => 0)
      case atStart => rfl
      case round =>
        subst hrel
        go_wp2
        go_ret
        exact ⟨rfl, Below.refl _ _⟩
  · have hne : decide (l = m) = false := by
      apply decide_eq_false
      rintro rfl
      exact hl rfl
    rw [hne]
    have h0 : ((l.length : Int) != (m.length : Int)) = true := by simp; omega
    obtain ⟨a, ha⟩ : ∃ a, l.length = a := ⟨_, rfl⟩
    obtain ⟨b, hb⟩ : ∃ b, m.length = b := ⟨_, rfl⟩
    rw [ha, hb] at h0 ⊢
    clear hA hB hl hm hne ha hb
    go_enter Tryz.func29, Tryz.ntmps29
    go_wp2
    go_ret
    exact ⟨rfl, Below.refl _ _⟩
theorem itm_eq (k n k' n' : Int) (t t' : List UInt8) (l l' : List Sf.Par) : decide ((⟨k, n, t, l⟩ : Sf.Itm) = ⟨k', n', t', l'⟩) = (decide (l = l') && (k == k' && (n == n' && t == t'))) := by
  rw [Bool.eq_iff_iff]
  simp
  constructor
  · rintro ⟨a, b, c, d⟩; exact ⟨d, a, b, c⟩
  · rintro ⟨d, a, b, c⟩; exact ⟨a, b, c, d⟩
set_option maxHeartbeats 2000000 in
set_option maxRecDepth 20000 in
/-- Are two items the same? -/
theorem same_any (k n k' n' : Int) (t t' : List UInt8) (A B : Option Addr) (c d : Nat) (l m : List Sf.Par) (w : World) (hA : SeenP w A l) (hB : SeenP w B m) (hm : l.length ≤ maxLen) :
    Calls Tryz.prog 27 #[.agg #[.int .i64 k, .int .i64 n, .string (bA t), .slice A l.length c], .agg #[.int .i64 k', .int .i64 n', .string (bA t'), .slice B m.length d]] w fun e w' => e = .returned (.bool (decide ((⟨k, n, t, l⟩ : Sf.Itm) = ⟨k', n', t', m⟩))) ∧ Below w.heap.size w w' := by
  rw [itm_eq]
  have hb1 : Below w.heap.size w (w.alloc (.cells (iC k n t (.slice A l.length c)) 35)) := (Below.refl _ _).alloc (Nat.le_refl _) _
  have hb2 := below_al hb1 (.cells (iC k' n' t' (.slice B m.length d)) 35)
  have H := Lib.hid (sameP_any A B c d l m _ (hA.below hb2) (hB.below hb2) hm)
  have hsz : (w.alloc (.cells (iC k n t (.slice A l.length c)) 35)).heap.size = w.heap.size + 1 := by simp
  have HX : Hid (CBox ((w.alloc (.cells (iC k n t (.slice A l.length c)) 35)).alloc (.cells (iC k' n' t' (.slice B m.length d)) 35)) w.heap.size 35 (iC k n t (.slice A l.length c))) := Lib.hid ((CBox.new w _ _).alloc _)
  have HY : Hid (CBox ((w.alloc (.cells (iC k n t (.slice A l.length c)) 35)).alloc (.cells (iC k' n' t' (.slice B m.length d)) 35)) (w.heap.size + 1) 35 (iC k' n' t' (.slice B m.length d))) := Lib.hid (by rw [← hsz]; exact CBox.new _ _ _)
  have HB2 := Lib.hid hb2
  obtain ⟨b, hb⟩ : ∃ b, decide (l = m) = b := ⟨_, rfl⟩
  rw [hb] at H ⊢
  clear hb1 hb2 hsz hA hB hm hb
  go_enter Tryz.func27, Tryz.ntmps27
  go_wp2_with fail
  refine H.out.mono ?_
  rintro e w1 ⟨rfl, hb⟩
  obtain ⟨c0, c1, c2, c3, _, _, _, _⟩ := (HX.out.keep hb).all4
  obtain ⟨d0, d1, d2, d3, _, _, _, _⟩ := (HY.out.keep hb).all4
  have HB := Lib.hid (onto HB2.out hb)
  clear hb H HX HY HB2
  cases b with
  | false =>
    go_wp2_with fail
    go_ret
    exact ⟨rfl, HB.out⟩
  | true =>
    go_wp2_with fail
    all_goals (go_ret; refine ⟨Oct.ret_bool ?_, HB.out⟩; simp_all)

def fewB (t : List UInt8) (l : List Sf.Par) : Bool := decide (l.length ≤ 100) && (decide (t.length ≤ 1000) && l.all fun p => decide (p.key.length ≤ 1000) && decide (p.text.length ≤ 1000))
theorem few_next {l : List Sf.Par} {k : Nat} (h : k < l.length) {q : Sf.Par → Bool} (hi : (l.take k).all q = true) (hq : q l[k] = true) : (l.take (k + 1)).all q = true := by
  rw [List.take_succ_eq_append_getElem h, List.all_append, hi]; simpa using hq
theorem few_miss {l : List Sf.Par} {k : Nat} (h : k < l.length) {q : Sf.Par → Bool} (hq : q l[k] = false) : l.all q = false := by
  rw [List.all_eq_false]; exact ⟨l[k], List.getElem_mem h, by simp [hq]⟩
end Go.Proofs.YtogjekjklknfeaaGreatDoor

/- What is read is small; how an argument that is an item is opened. -/

namespace Go.Proofs.YtogjekjklknfeaaGreatDoor
open Go.ChangeShapes Go.WideShapes Go.ChangeAt Go.RowKit

theorem esc_ge (t : List UInt8) : t.length ≤ (Sf.esc t).length := by
  induction t with
  | nil => simp
  | cons c r ih => rw [Sf.esc]; split <;> simp <;> omega
theorem vtext_short {k n : Int} {t v : List UInt8} (h : Sf.vtext k n t = some v) : t.length ≤ v.length := by
  obtain ⟨_, _, h3, _, _⟩ := Sf.vtext_num h
  by_cases hk : Sf.numK k = true
  · rw [h3 hk]; simp
  · have k1 : k ≠ 1 := by rintro rfl; exact hk rfl
    have k2 : k ≠ 2 := by rintro rfl; exact hk rfl
    have k6 : k ≠ 6 := by rintro rfl; exact hk rfl
    unfold Sf.vtext at h
    split at h
    · cases h
    split at h
    · split at h
      · cases h; have := esc_ge t; simp; omega
      · cases h
    split at h
    · split at h
      · cases h; exact Nat.le_refl _
      · cases h
    split at h
    · split at h
      · cases h; simp; omega
      · cases h
    · cases h
theorem ptext_short {p : Sf.Par} {t : List UInt8} (h : Sf.ptext p = some t) : 1 ≤ t.length ∧ p.key.length ≤ t.length ∧ p.text.length ≤ t.length ∧ -Sf.maxN ≤ p.n ∧ p.n ≤ Sf.maxN := by
  unfold Sf.ptext at h
  split at h
  · cases hv : Sf.vtext p.kind p.n p.text with
    | none => rw [hv] at h; cases h
    | some v =>
      rw [hv] at h
      simp only [Option.map_some, Option.some.injEq] at h
      obtain ⟨h1, h2, h3, _, _⟩ := Sf.vtext_num hv
      have h4 := vtext_short hv
      rw [← h]
      simp only [List.length_cons, List.length_append]
      refine ⟨by omega, by omega, ?_, h1, h2⟩
      split
      · rename_i hk
        rw [h3 (by rw [hk.1]; rfl)]; simp
      · simp only [List.length_cons]; omega
  · cases h
theorem T_short : ∀ {l : List Sf.Par}, (∀ q ∈ l, (Sf.ptext q).isSome = true) → l.length ≤ (Sf.T l).length ∧ ∀ q ∈ l, (Sf.pt q).length ≤ (Sf.T l).length
  | [], _ => ⟨by simp, by simp⟩
  | p :: l, h => by
    obtain ⟨h1, h2⟩ := T_short (l := l) (fun q hq => h q (by simp [hq]))
    have h3 := (ptext_short (Sf.pt_some (h p (by simp)))).1
    rw [Sf.T_cons]
    simp only [List.length_cons, List.length_append]
    refine ⟨by omega, fun q hq => ?_⟩
    simp only [List.mem_cons] at hq
    rcases hq with rfl | hq
    · omega
    · have := h2 q hq; omega
theorem small_text {x : Sf.Itm} {t : List UInt8} (h : Sf.text x = some t) (ht : t.length ≤ 10000) : SmallI x.kind x.n x.text x.params := by
  obtain ⟨v, hv, hl, rfl⟩ := Sf.text_ways h
  simp only [List.length_append] at ht
  obtain ⟨h1, h2⟩ := T_short hl.may
  obtain ⟨a, b, _, _, _⟩ := Sf.vtext_num hv
  have h3 := vtext_short hv
  unfold Sf.maxN at a b
  refine ⟨by omega, by omega, by omega, ⟨by omega, fun p hp => ?_⟩⟩
  have h4 := ptext_short (Sf.pt_some (hl.may p hp))
  have h5 := h2 p hp
  unfold Sf.maxN at h4
  exact ⟨by omega, by omega, by omega, by omega⟩
theorem small_parse {s : List UInt8} {x : Sf.Itm} (h : Sf.parse s = some x) : SmallI x.kind x.n x.text x.params := by
  obtain ⟨t, h1, h2, _⟩ := Sf.parse_again h
  have := (Sf.parse_ways h).1
  exact small_text h1 (by omega)
theorem small_few {k n : Int} {t : List UInt8} {l : List Sf.Par} (h : fewB t l = true) (h0 : -9223372036854775808 ≤ n) (h1 : n ≤ 9223372036854775807) (hl : ∀ p ∈ l, -9223372036854775808 ≤ p.n ∧ p.n ≤ 9223372036854775807) : SmallI k n t l := by
  unfold fewB at h
  simp only [Bool.and_eq_true, decide_eq_true_eq, List.all_eq_true] at h
  obtain ⟨a, b, c⟩ := h
  refine ⟨h0, h1, by omega, ⟨by omega, fun p hp => ?_⟩⟩
  have := c p hp
  have h2 := hl p hp
  exact ⟨h2.1, h2.2, by omega, by omega⟩

/-- What is known of an item that is handed in. -/
structure WideI (W : World) (n : Int) (t : List UInt8) (A : Option Addr) (l : List Sf.Par) : Prop where
  n0 : -9223372036854775808 ≤ n
  n1 : n ≤ 9223372036854775807
  text : t.length ≤ maxLen
  len : l.length ≤ maxLen
  seen : SeenP W A l
  each : ∀ p ∈ l, -9223372036854775808 ≤ p.n ∧ p.n ≤ 9223372036854775807
theorem cellsI : Tryz.prog.cellsOf 35 = 4 := by kernel_rfl
theorem cellsP : Tryz.prog.cellsOf 53 = 4 := by kernel_rfl
section
variable {H : Type} {enc : TypeId × Value → H} {W : World} {b0 : Nat} {v : Value} {d : DataW H} {ps : List MemPlace}
theorem one_str {n : Nat} {c : Value} {y : Option (DataW H × List MemPlace)} (h : DataW.trod enc Tryz.prog W 0 (fun _ => true) true n 9 [c] = y) (hy : y.isSome = true) : ∃ s : ByteArray, c = .string s ∧ s.size ≤ maxLen := by
  obtain ⟨z, rfl⟩ := Option.isSome_iff_exists.1 hy
  obtain ⟨s, e0, _, hn⟩ := DataW.trod_string Tryz.underlying9 h
  simp only [List.cons.injEq, and_true] at e0
  exact ⟨s, e0, hn⟩
theorem one_int {n : Nat} {c : Value} {y : Option (DataW H × List MemPlace)} (h : DataW.trod enc Tryz.prog W 0 (fun _ => true) true n 3 [c] = y) (hy : y.isSome = true) : ∃ i : Int, c = .int .i64 i ∧ -9223372036854775808 ≤ i ∧ i ≤ 9223372036854775807 := by
  obtain ⟨z, rfl⟩ := Option.isSome_iff_exists.1 hy
  obtain ⟨i, e0, _, hn⟩ := DataW.trod_int Tryz.underlying3 h
  simp only [List.cons.injEq, and_true] at e0
  have := bounds_i64 hn
  exact ⟨i, e0, this.1, this.2⟩
instance : Inhabited Sf.Par := ⟨⟨[], 0, 0, []⟩⟩
set_option maxRecDepth 100000 in
set_option maxHeartbeats 1000000 in
theorem open_par {n : Nat} {l : List Value} {y : DataW H × List MemPlace} (h : DataW.trod enc Tryz.prog W 0 (fun _ => true) true n 53 l = some y) :
    ∃ p : Sf.Par, l = (pC p).toList ∧ -9223372036854775808 ≤ p.n ∧ p.n ≤ 9223372036854775807 := by
  obtain ⟨xs, m, _, _, hsz, hlen, hfs⟩ := DataW.trod_struct Tryz.underlying53 h
  rw [cellsP] at hsz
  match l, hsz with
  | [c0, c1, c2, c3], _ =>
    have hlen' : xs.length = 4 := hlen
    have g : ∀ i, i < 4 → (xs[i]?).isSome = true := fun i hi => by rw [List.getElem?_eq_getElem (by omega)]; rfl
    have f0 := hfs 0 _ rfl
    have f1 := hfs 1 _ rfl
    have f2 := hfs 2 _ rfl
    have f3 := hfs 3 _ rfl
    obtain ⟨s0, rfl, _⟩ := one_str f0 (g 0 (by omega))
    obtain ⟨k, rfl, _, _⟩ := one_int f1 (g 1 (by omega))
    obtain ⟨i, rfl, h0, h1⟩ := one_int f2 (g 2 (by omega))
    obtain ⟨s1, rfl, _⟩ := one_str f3 (g 3 (by omega))
    exact ⟨⟨s0.data.toList, k, i, s1.data.toList⟩, rfl, h0, h1⟩
theorem open_pars {n : Nat} {c : Value} {y : DataW H × List MemPlace} (h : DataW.trod enc Tryz.prog W 0 (fun _ => true) true n 33 [c] = some y) :
    ∃ (A : Option Addr) (cp : Nat) (l : List Sf.Par), c = .slice A l.length cp ∧ l.length ≤ maxLen ∧ SeenP W A l ∧ ∀ p ∈ l, -9223372036854775808 ≤ p.n ∧ p.n ≤ 9223372036854775807 := by
  rcases Go.Deep.open_slice Tryz.underlying33 h with ⟨e, _⟩ | ⟨a, len, cap, m, n', D, Pl, e, _, hl, hm, hmm, _, hc⟩
  · simp only [List.cons.injEq, and_true] at e
    subst e
    exact ⟨none, 0, [], rfl, by simp [maxLen], fun h => by simp at h, by simp⟩
  · simp only [List.cons.injEq, and_true] at e
    subst e
    have hm2 : len ≤ m := by rw [hmm]; split <;> omega
    rw [cellsP] at hc
    have each : ∀ i, i < m → ∃ p : Sf.Par, W.cells? 0 (a.add (i * 4)) 4 = some (pC p).toList ∧ -9223372036854775808 ≤ p.n ∧ p.n ≤ 9223372036854775807 := fun i hi => by
      obtain ⟨cs', h1, h2⟩ := hc i hi
      obtain ⟨p, rfl, h3, h4⟩ := open_par h2
      exact ⟨p, h1, h3, h4⟩
    obtain ⟨F, hF⟩ := Go.Deep.choose_lt each
    refine ⟨some a, cap, (List.range len).map F, by simp, by simp; omega, fun h0 => ?_, fun p hp => ?_⟩
    · have h0' : 0 < len := by simpa using h0
      have hcell : ∀ i, i < len → ∀ j, j < 4 → W.cell? ((a.add (i * 4)).add j) = (pC (F i)).toList[j]? := fun i hi j hj => by
        have := (World.cells?_some (hF i (by omega)).1).2.2 j hj
        exact this
      have hz := hcell 0 h0' 0 (by omega)
      have hz' : W.cell? a = some (.string (bA (F 0).key)) := by simpa [Addr.add, pC] using hz
      have hsp := World.cell?_spot hz'
      obtain ⟨g, o, sp⟩ := a
      simp only at hsp
      subst hsp
      refine ⟨g, o, rfl, ?_, fun i hi => ?_⟩
      · exact World.block_lt_of_cell? _ _ hz'
      · have hi' : i < len := by simpa using hi
        have c0 := hcell i hi' 0 (by omega)
        have c1 := hcell i hi' 1 (by omega)
        have c2 := hcell i hi' 2 (by omega)
        have c3 := hcell i hi' 3 (by omega)
        have ad : ∀ j, ((⟨g, o, none⟩ : Addr).add (i * 4)).add j = ⟨g, o + i * 4 + j, none⟩ := fun j => by
          unfold Addr.add
          split <;> split <;> simp_all
        rw [ad] at c0 c1 c2 c3
        have ei : ((List.range len).map F)[i] = F i := by simp
        rw [ei]
        exact ⟨c0, c1, c2, c3⟩
    · obtain ⟨i, hi, rfl⟩ := List.mem_map.1 hp
      have hi' : i < len := by simpa using hi
      exact (hF i (by omega)).2
set_option maxRecDepth 100000 in
set_option maxHeartbeats 1000000 in
theorem open_item (hv : Value.okWide Tryz.prog W .any b0 35 v) (h : DataW.Trod enc Tryz.prog W 0 (fun _ => true) true 35 v d ps) :
    ∃ (k n : Int) (t : List UInt8) (A : Option Addr) (c : Nat) (l : List Sf.Par), v = itmV k n t (.slice A l.length c) ∧ WideI W n t A l := by
  obtain ⟨cs, rfl, hsz⟩ := okWide_struct Tryz.underlying35 hv
  rw [cellsI] at hsz
  obtain ⟨l, rfl⟩ : ∃ l : List Value, cs = l.toArray := ⟨cs.toList, by simp⟩
  have hl : l.length = 4 := by simpa using hsz
  match l, hl with
  | [c0, c1, c2, c3], _ =>
    obtain ⟨fuel, hf⟩ := h
    obtain ⟨xs, m, _, _, _, hlen, hfs⟩ := DataW.trod_struct Tryz.underlying35 hf
    have hlen' : xs.length = 4 := hlen
    have g : ∀ i, i < 4 → (xs[i]?).isSome = true := fun i hi => by rw [List.getElem?_eq_getElem (by omega)]; rfl
    have f0 := hfs 0 _ rfl
    have f1 := hfs 1 _ rfl
    have f2 := hfs 2 _ rfl
    have f3 := hfs 3 _ rfl
    simp only [Value.cells] at f0 f1 f2 f3
    obtain ⟨k, rfl, _, _⟩ := one_int f0 (g 0 (by omega))
    obtain ⟨i, rfl, h0, h1⟩ := one_int f1 (g 1 (by omega))
    obtain ⟨s1, rfl, h2⟩ := one_str f2 (g 2 (by omega))
    obtain ⟨z, hz⟩ := Option.isSome_iff_exists.1 (g 3 (by omega))
    rw [hz] at f3
    obtain ⟨A, cp, l, rfl, h3, h4, h5⟩ := open_pars f3
    exact ⟨k, i, s1.data.toList, A, cp, l, rfl, h0, h1, by simpa using h2, h3, h4, h5⟩
end
end Go.Proofs.YtogjekjklknfeaaGreatDoor
