/- The contract of the statements' few: are members few, with few short parts? -/
import Derived.Deep.AppendLies
import Derived.Deep.RegionHeldLaw
import Derived.Test.YtogjekjklknfeaaGreatDoorPkMem
import Derived.Laws.AppendOwnNone
namespace Go.Proofs.YtogjekjklknfeaaGreatDoor
open Go.RowKit Go.Shelf Go.Maps Go.Deep

def fewP (p : Sf.Par) : Bool := decide (p.key.length ≤ 200) && decide (p.text.length ≤ 200)
def fewI (x : Sf.Itm) : Bool := decide (x.params.length ≤ 50) && (decide (x.text.length ≤ 200) && x.params.all fewP)
def allI (m : Sf.Mem) : List Sf.Itm := m.items ++ [m.item, ⟨0, 0, [], m.params⟩]
def fewO (m : Sf.Mem) : Bool := decide (m.items.length ≤ 50) && (decide (m.params.length ≤ 50) && (decide (m.key.length ≤ 200) && (allI m).all fewI))
def fewM (l : List Sf.Mem) : Bool := decide (l.length ≤ 50) && l.all fewO
/-- A row of items whose slices lie somewhere. -/
def RowS (w : World) : List Sf.Itm → List Value → Prop
  | [], xs => xs = []
  | x :: l, xs => ∃ v ys, xs = itC x v ++ ys ∧ SV w v x.params ∧ RowS w l ys
theorem RowS.below {w w' : World} (hb : Below w.heap.size w w') : ∀ {l : List Sf.Itm} {xs : List Value}, RowS w l xs → RowS w' l xs
  | [], _, h => h
  | _ :: _, _, ⟨v, ys, e, hp, hr⟩ => ⟨v, ys, e, hp.below hb, RowS.below hb hr⟩
theorem RowS.append {w : World} {lb : List Sf.Itm} {xb : List Value} (hb : RowS w lb xb) : ∀ {la : List Sf.Itm} {xa : List Value}, RowS w la xa → RowS w (la ++ lb) (xa ++ xb)
  | [], _, h => by
    have h' : _ = [] := h
    subst h'
    exact hb
  | _ :: _, _, ⟨v, ys, e, hm, hr⟩ => ⟨v, ys ++ xb, by rw [e]; simp, hm, RowS.append hb hr⟩
theorem RowS.at {w : World} : ∀ {l : List Sf.Itm} {xs : List Value}, RowS w l xs → ∀ i (h : i < l.length), ∃ v, SV w v l[i].params ∧ ∀ j, j < 4 → xs[i * 4 + j]? = (itC l[i] v)[j]?
  | [], _, _, i, h => by simp at h
  | m :: l, _, ⟨v, ys, e, hm, hr⟩, 0, _ => ⟨v, hm, fun j hj => by
    rw [e, Nat.zero_mul, Nat.zero_add, List.getElem?_append_left (by simpa [itC] using hj)]; rfl⟩
  | m :: l, _, ⟨v, ys, e, hm, hr⟩, i + 1, h => by
    obtain ⟨u, h1, h2⟩ := hr.at i (by simpa using h)
    refine ⟨u, h1, fun j hj => ?_⟩
    rw [e, show (i + 1) * 4 + j = (itC m v).length + (i * 4 + j) by simp [itC]; omega, List.getElem?_append_right (by omega)]
    have := h2 j hj
    simpa using this
theorem RowS.one {w : World} : ∀ {l : List Sf.Itm} {xs : List Value}, RowS w l xs → (∀ u ∈ xs, u.oneCell' = true) ∧ xs.length = l.length * 4
  | [], _, h => by
    have h' : _ = [] := h
    subst h'
    exact ⟨fun u hu => (by cases hu), rfl⟩
  | m :: l, _, ⟨v, ys, e, hm, hr⟩ => by
    subst e
    obtain ⟨A, c, rfl, _⟩ := hm.is
    obtain ⟨h1, h2⟩ := hr.one
    refine ⟨fun u hu => ?_, ?_⟩
    · rcases List.mem_append.1 hu with hu | hu
      · simp [itC] at hu
        rcases hu with rfl | rfl | rfl | rfl <;> rfl
      · exact h1 u hu
    · rw [List.length_append, h2, List.length_cons]; simp [itC]; omega
/-- The cells of items that lie somewhere, as a row. -/
theorem row_of {w : World} {g o : Nat} : ∀ (l : List Sf.Itm) (k : Nat), (∀ i (h : i < l.length), ∃ v, SV w v l[i].params ∧ Cells4 w g (o + (k + i) * 4) l[i] v) → ∃ xs, RowS w l xs ∧ ∀ j u, xs[j]? = some u → w.cell? ⟨g, o + k * 4 + j, none⟩ = some u
  | [], k, _ => ⟨[], rfl, fun j u h => by simp at h⟩
  | x :: l, k, h => by
    obtain ⟨v, hv, c0, c1, c2, c3⟩ := h 0 (by simp)
    obtain ⟨xs, hr, hx⟩ := row_of l (k + 1) (fun i hi => by
      have := h (i + 1) (by simpa using hi)
      rw [show k + (i + 1) = k + 1 + i by omega] at this
      exact this)
    refine ⟨itC x v ++ xs, ⟨v, xs, rfl, hv, hr⟩, fun j u hu => ?_⟩
    by_cases hj : j < 4
    · rw [List.getElem?_append_left (by simpa [itC] using hj)] at hu
      simp only [List.getElem_cons_zero, Nat.add_zero] at c0 c1 c2 c3
      match j, hj with
      | 0, _ => simp only [itC, List.getElem?_cons_zero, Option.some.injEq] at hu; subst hu; exact c0
      | 1, _ => simp only [itC, List.getElem?_cons_succ, List.getElem?_cons_zero, Option.some.injEq] at hu; subst hu; exact c1
      | 2, _ => simp only [itC, List.getElem?_cons_succ, List.getElem?_cons_zero, Option.some.injEq] at hu; subst hu; exact c2
      | 3, _ => simp only [itC, List.getElem?_cons_succ, List.getElem?_cons_zero, Option.some.injEq] at hu; subst hu; exact c3
    · rw [List.getElem?_append_right (by simp [itC]; omega)] at hu
      have := hx _ u hu
      rw [show o + k * 4 + j = o + (k + 1) * 4 + (j - (itC x v).length) by simp [itC]; omega]
      exact this
/-- 'append(s, x...)', s a row of one's own, x nil or lying somewhere, as one step of a region that draws its order. -/
theorem step_append_own {P : Program} {ops : Array Oper} {o : Oper} {a : Act} {w : World} {K : Act → World → Prop} {Q : Exit → Act → World → Prop} {E : Prop} (hgd : o.guard = none) (s x : Operand) (t : TypeId)
    (ho : o.op = .call { callee := .builtin .append, args := #[s, x], argTypes := #[t, t] })
    (base : Nat) (e : TypeId) (i : TypeInfo) (z : Value) (size bytes : Nat) (ht : P.underlying t = some (.slice e)) (hi : P.info? e = some i) (hz : i.zero = some z)
    (hsize : i.size = size) (hby : i.bytes = bytes) (hzs : z.cells.size = size) (hsz : 0 < size)
    (v : Value) (n : Nat) (xs : List Value) (hs : a.eval s = v) (hown : w.ownsRow base e size v n xs)
    (vx : Value) (hx : a.eval x = vx) (m : Nat) (news : List Value) (hv : (vx = .slice none 0 0 ∧ m = 0 ∧ news = []) ∨ ∃ ad c, vx = .slice (some ad) m c ∧ ∀ j u, news[j]? = some u → w.cell? (ad.add j) = some u)
    (hl : news.length = m * size) (h1 : ∀ u ∈ news, u.oneCell' = true) (h63 : n + m ≤ maxLen) (hbytes : (n + m) * bytes ≤ 140737488355328) (hbase : base ≤ w.heap.size)
    (h : ∀ v' w', w'.ownsRow base e size v' (n + m) (xs ++ news) → w.grownBy w' v.ownBlock → K (a.put o.dst v') w') :
    if Region.wanted o (yielded ops a.tmps) = true then Oper.wp P o a w K Q else E := by
  have hw : Region.wanted o (yielded ops a.tmps) = true := by simp [Region.wanted, hgd]
  rw [if_pos hw]
  rcases hv with ⟨rfl, rfl, rfl⟩ | ⟨ad, c, rfl, hc⟩
  · have hrun := run_append_owned_none (P := P) (w := w) base t o.type e i size ht hi v n xs hown
    unfold Oper.wp
    simp [execOp, ho, resolve, invoke, builtin, hs, hx, hrun, Result.andThen]
    exact h v w (by simpa using hown) ⟨rfl, rfl, rfl, Nat.le_refl _, fun _ _ _ => rfl⟩
  · obtain ⟨v', w', hrun, r1, r2, _⟩ := run_append_own (P := P) w base t o.type e i z size bytes ht hi hz hsize hby hzs hsz v n xs hown ad m c news hl hc h1 h63 hbytes hbase
    unfold Oper.wp
    simp [execOp, ho, resolve, invoke, builtin, hs, hx, hrun, Result.andThen]
    exact h v' w' r1 r2
/-- The cells of items that lie somewhere, nil let in: what an append wants. -/
theorem news_of {w : World} {A : Option Addr} {c : Nat} {l : List Sf.Itm} (h : SI w (.slice A l.length c) l) : ∃ xs, RowS w l xs ∧ xs.length = l.length * 4 ∧ (∀ u ∈ xs, u.oneCell' = true) ∧ ∀ W, Below w.heap.size w W → ((Value.slice A l.length c = .slice none 0 0 ∧ l.length = 0 ∧ xs = []) ∨ ∃ ad d, Value.slice A l.length c = .slice (some ad) l.length d ∧ ∀ j u, xs[j]? = some u → W.cell? (ad.add j) = some u) := by
  by_cases hn : 0 < l.length
  · obtain ⟨B, d, e, hs⟩ := h.is
    cases e
    obtain ⟨g, o, rfl, hg, hc⟩ := hs hn
    obtain ⟨xs, hr, hx⟩ := row_of (w := w) (g := g) (o := o) l 0 (fun i hi => by
      have := hc i hi
      rw [Nat.zero_add]; exact this)
    refine ⟨xs, hr, hr.one.2, hr.one.1, fun W hb => .inr ⟨_, _, rfl, fun j u hu => ?_⟩⟩
    have h2 := hx j u hu
    rw [Nat.zero_mul, Nat.add_zero] at h2
    have ad : (⟨g, o, none⟩ : Addr).add j = ⟨g, o + j, none⟩ := by simp [Addr.add]
    rw [ad]
    exact (hb.cell (p := ⟨g, o + j, none⟩) hg).trans h2
  · have e0 : l = [] := List.length_eq_zero_iff.1 (by omega)
    subst e0
    refine ⟨[], rfl, rfl, by simp, fun W hb => ?_⟩
    cases A with
    | none =>
      obtain ⟨_, rfl⟩ := h.nl 0 c rfl
      exact .inl ⟨rfl, rfl, rfl⟩
    | some a => exact .inr ⟨a, c, rfl, fun j u hu => by simp at hu⟩
/-- A row of items of one's own is a slice that lies somewhere. -/
theorem own_si {w : World} {base : Nat} {v : Value} {l : List Sf.Itm} {xs : List Value} (ho : w.ownsRow base 35 4 v l.length xs) (hr : RowS w l xs) : ∃ A c, v = .slice A l.length c ∧ SI w v l := by
  have hc := ho
  obtain ⟨_, ⟨h1, h2⟩ | ⟨g, cap, cur, h1, hb, hg, _⟩⟩ := ho
  · have e0 : l = [] := List.length_eq_zero_iff.1 h2
    subst e0; subst h1
    exact ⟨none, 0, rfl, SI.nil w⟩
  · subst h1
    refine ⟨_, _, rfl, ⟨⟨_, _, rfl, fun hn => ?_⟩, own_lenE hc, fun n c e => by cases e⟩⟩
    refine ⟨g, 0, rfl, (Array.getElem?_eq_some_iff.1 hg).1, fun i hi => ?_⟩
    obtain ⟨v, hp, hx⟩ := hr.at i hi
    simp only [Nat.zero_add]
    exact ⟨v, hp, (own_cell hc (hx 0 (by omega))).1, (own_cell hc (hx 1 (by omega))).1, (own_cell hc (hx 2 (by omega))).1, (own_cell hc (hx 3 (by omega))).1⟩
theorem own_none {w : World} {base B : Nat} (hB : w.heap[B]? = some (.cells #[] 35)) (hb : base ≤ B) : w.ownsRow base 35 4 (.slice (some ⟨B, 0, none⟩) 0 0) 0 [] :=
  ⟨by simp, .inr ⟨B, 0, #[], rfl, hb, hB, Nat.le_refl _, by simp [maxLen], by simp, by simp⟩⟩
/-- The first append of the row of all items. -/
theorem step_first {ops : Array Oper} {o : Oper} {a : Act} {w wr : World} {K : Act → World → Prop} {Q : Exit → Act → World → Prop} {E : Prop} (hgd : o.guard = none) (s x : Operand)
    (ho : o.op = .call { callee := .builtin .append, args := #[s, x], argTypes := #[38, 38] }) (l : List Sf.Itm) (A2 : Option Addr) (p2 n2 B : Nat) (hn : l.length = n2) (hs : a.eval s = .slice (some ⟨B, 0, none⟩) 0 0) (hB : w.heap[B]? = some (.cells #[] 35)) (hwB : wr.heap.size ≤ B)
    (hb : Below wr.heap.size wr w) (hx : a.eval x = .slice A2 n2 p2) (hsi : SI wr (.slice A2 n2 p2) l) (h50 : l.length ≤ 50)
    (h : ∀ A c w' xs, w'.ownsRow wr.heap.size 35 4 (.slice A n2 c) n2 xs → RowS wr l xs → Below wr.heap.size wr w' → (∀ k, k < w.heap.size → k ≠ B → w'.heap[k]? = w.heap[k]?) → w.heap.size ≤ w'.heap.size → K (a.put o.dst (.slice A n2 c)) w') :
    if Region.wanted o (yielded ops a.tmps) = true then Oper.wp Tryz.prog o a w K Q else E := by
  subst hn
  obtain ⟨i0, hi, hz0, hz1, hz2⟩ := info_parts info_itm
  obtain ⟨xs, hr, hl, h1, hx2⟩ := news_of hsi
  have hown := own_none hB hwB
  refine step_append_own hgd s x 38 ho wr.heap.size 35 i0 _ 4 56 Tryz.underlying38 hi hz0 hz1 hz2 rfl (by decide) _ 0 [] hs hown _ hx l.length xs (hx2 w hb) hl h1 (by unfold maxLen; omega) (by omega) hb.size ?_
  intro v' w' r1 r2
  have hb' : Below wr.heap.size wr w' := hb.grown r2 hb.size (fun k hk => by cases hk; exact hwB)
  rw [Nat.zero_add, List.nil_append] at r1
  obtain ⟨A, c, rfl, _⟩ := own_si r1 (hr.below hb')
  exact h A c w' xs r1 hr hb' (fun k hk hne => r2.block k hk (fun e => by cases e; exact hne rfl)) r2.size
/-- The second one. -/
theorem step_second {ops : Array Oper} {o : Oper} {a : Act} {w wr : World} {K : Act → World → Prop} {Q : Exit → Act → World → Prop} {E : Prop} (hgd : o.guard = none) (s x : Operand)
    (ho : o.op = .call { callee := .builtin .append, args := #[s, x], argTypes := #[38, 38] }) (m : Sf.Mem) (A : Option Addr) (n2 c B : Nat) (v1 v3 : Value) (xs : List Value) (hn : m.items.length = n2) (hs : a.eval s = .slice A n2 c) (hown : w.ownsRow wr.heap.size 35 4 (.slice A n2 c) n2 xs) (hrow : RowS wr m.items xs)
    (hb : Below wr.heap.size wr w) (hx : a.eval x = .slice (some ⟨B, 0, none⟩) 2 2) (hB : w.heap[B]? = some (.cells #[.int .i64 m.item.kind, .int .i64 m.item.n, .string (bA m.item.text), v1, .int .i64 0, .int .i64 0, .string ⟨#[]⟩, v3] 35)) (h1 : SV wr v1 m.item.params) (h3 : SV wr v3 m.params) (h50 : m.items.length ≤ 50)
    (h : ∀ A' c' w', SI w' (.slice A' (n2 + 2) c') (allI m) → Below wr.heap.size wr w' → K (a.put o.dst (.slice A' (n2 + 2) c')) w') :
    if Region.wanted o (yielded ops a.tmps) = true then Oper.wp Tryz.prog o a w K Q else E := by
  subst hn
  obtain ⟨i0, hi, hz0, hz1, hz2⟩ := info_parts info_itm
  have hb2 : bA ([] : List UInt8) = ⟨#[]⟩ := rfl
  have hrn : RowS w [m.item, ⟨0, 0, [], m.params⟩] [.int .i64 m.item.kind, .int .i64 m.item.n, .string (bA m.item.text), v1, .int .i64 0, .int .i64 0, .string ⟨#[]⟩, v3] := ⟨v1, _, rfl, h1.below hb, v3, [], rfl, h3.below hb, rfl⟩
  refine step_append_own hgd s x 38 ho wr.heap.size 35 i0 _ 4 56 Tryz.underlying38 hi hz0 hz1 hz2 rfl (by decide) _ m.items.length xs hs hown _ hx 2 [.int .i64 m.item.kind, .int .i64 m.item.n, .string (bA m.item.text), v1, .int .i64 0, .int .i64 0, .string ⟨#[]⟩, v3] (.inr ⟨_, _, rfl, World.news_of_block hB⟩) rfl hrn.one.1 (by unfold maxLen; omega) (by omega) hb.size ?_
  intro v' w' r1 r2
  have hb' : Below wr.heap.size wr w' := hb.grown r2 hb.size (fun k hk' => (hown.lt k hk').1)
  have hrn' : RowS w' [m.item, ⟨0, 0, [], m.params⟩] [.int .i64 m.item.kind, .int .i64 m.item.n, .string (bA m.item.text), v1, .int .i64 0, .int .i64 0, .string ⟨#[]⟩, v3] := ⟨v1, _, rfl, h1.below hb', v3, [], rfl, h3.below hb', rfl⟩
  have hl : (allI m).length = m.items.length + 2 := by simp [allI]
  rw [← hl] at r1
  obtain ⟨A', c', rfl, hsi⟩ := own_si (l := allI m) r1 (RowS.append hrn' (hrow.below hb'))
  rw [hl] at hsi
  rw [hl]
  exact h A' c' w' hsi hb'
end Go.Proofs.YtogjekjklknfeaaGreatDoor
