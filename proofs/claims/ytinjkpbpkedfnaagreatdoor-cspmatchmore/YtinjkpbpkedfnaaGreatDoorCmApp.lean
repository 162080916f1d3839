/- Lists of origins laid one behind the other, as a step of a region that draws its order. -/
import Derived.Test.YtinjkpbpkedfnaaGreatDoorCmFew
import Derived.Test.YtinjkpbpkedfnaaGreatDoorTxApp
import Derived.Test.YtinjkpbpkedfnaaGreatDoorApp
namespace Go.Proofs.YtinjkpbpkedfnaaGreatDoor
open Go.RowKit Go.Deep

theorem info_org : (Tryz.prog.info? 31).map (fun i => (i.zero, i.size, i.bytes)) = some (some (.agg (oCells zeroO)), 7, 64) := by kernel_rfl
def rowO (l : List Orig) : List Value := l.flatMap fun o => (oCells o).toList
theorem rowO_app (a b : List Orig) : rowO a ++ rowO b = rowO (a ++ b) := by unfold rowO; simp
theorem rowO_len : ∀ l : List Orig, (rowO l).length = l.length * 7
  | [] => rfl
  | o :: l => by
    have := rowO_len l
    have e : rowO (o :: l) = (oCells o).toList ++ rowO l := rfl
    rw [e, List.length_append, this, List.length_cons]
    simp [oCells]; omega
theorem rowO_one : ∀ l : List Orig, ∀ u ∈ rowO l, u.oneCell' = true := fun l u hu => by
  obtain ⟨o, _, h⟩ := List.mem_flatMap.1 hu
  simp only [oCells, List.mem_cons, List.not_mem_nil, or_false] at h
  rcases h with rfl | rfl | rfl | rfl | rfl | rfl | rfl <;> rfl
/-- The cells of a list of origins that lies somewhere, as a row. -/
theorem rowO_cells {w : World} {g q : Nat} : ∀ (l : List Orig) (k : Nat), (∀ i (h : i < l.length), ∀ j, j < 7 → w.cell? ⟨g, q + (k + i) * 7 + j, none⟩ = (oCells l[i])[j]?) → ∀ (j : Nat) (u : Value), (rowO l)[j]? = some u → w.cell? ⟨g, q + k * 7 + j, none⟩ = some u
  | [], k, _, j, u, hu => by simp [rowO] at hu
  | o :: l, k, h, j, u, hu => by
    have e : rowO (o :: l) = (oCells o).toList ++ rowO l := rfl
    rw [e] at hu
    by_cases hj : j < 7
    · have h0 := h 0 (by simp) j hj
      simp only [List.getElem_cons_zero, Nat.add_zero] at h0
      rw [List.getElem?_append_left (by simp [oCells]; omega)] at hu
      rw [h0, ← hu]; simp
    · have ih := rowO_cells l (k + 1) (fun i hi j hj => by
        have := h (i + 1) (by simpa using hi) j hj
        rw [show k + (i + 1) = k + 1 + i by omega] at this
        simpa using this) (j - 7) u (by rw [List.getElem?_append_right (by simp [oCells]; omega)] at hu; simpa [oCells] using hu)
      rw [show q + (k + 1) * 7 + (j - 7) = q + k * 7 + j by omega] at ih
      exact ih
/-- What an append wants of a list of origins that lies somewhere. -/
theorem news_orgs {w : World} {A : Option Addr} {n c : Nat} {l : List Orig} (hn : l.length = n) (hnl : A = none → n = 0 ∧ c = 0) (h : SeenOs w A l) : (Value.slice A n c = .slice none 0 0 ∧ n = 0 ∧ rowO l = []) ∨ ∃ ad d, Value.slice A n c = .slice (some ad) n d ∧ ∀ j u, (rowO l)[j]? = some u → w.cell? (ad.add j) = some u := by
  subst hn
  cases A with
  | none =>
    obtain ⟨h0, rfl⟩ := hnl rfl
    have e0 : l = [] := List.length_eq_zero_iff.1 h0
    subst e0
    exact .inl ⟨rfl, rfl, rfl⟩
  | some a =>
    refine .inr ⟨a, c, rfl, fun j u hu => ?_⟩
    by_cases hl : 0 < l.length
    · obtain ⟨g, q, e, hg, hc⟩ := h hl
      cases e
      have := rowO_cells (w := w) (g := g) (q := q) l 0 (fun i hi j hj => by rw [Nat.zero_add]; exact hc i hi j hj) j u hu
      rw [Nat.zero_mul, Nat.add_zero] at this
      have ad : (⟨g, q, none⟩ : Addr).add j = ⟨g, q + j, none⟩ := by simp [Addr.add]
      rw [ad]; exact this
    · have e0 : l = [] := List.length_eq_zero_iff.1 (by omega)
      subst e0
      simp [rowO] at hu
/-- A list of origins of one's own. -/
def OwnO (w : World) (base : Nat) (v : Value) (l : List Orig) : Prop := w.ownsRow base 31 7 v l.length (rowO l)
theorem OwnO.none {w : World} {base B : Nat} (hB : w.heap[B]? = some (.cells #[] 31 (0, 0))) (hb : base ≤ B) : OwnO w base (.slice (some ⟨B, 0, none⟩) 0 0) [] :=
  ⟨by simp [rowO], .inr ⟨B, 0, #[], rfl, hb, hB, Nat.le_refl _, by simp [maxLen], by simp, by simp [rowO]⟩⟩
theorem OwnO.slice {w : World} {base : Nat} {v : Value} {l : List Orig} (h : OwnO w base v l) : ∃ A c, v = .slice A l.length c := by
  obtain ⟨_, ⟨h1, h2⟩ | ⟨g, cap, cur, h1, _⟩⟩ := h
  · exact ⟨Option.none, 0, by rw [h1, h2]⟩
  · exact ⟨_, _, h1⟩
theorem rowO_at : ∀ (l : List Orig) (i : Nat) (hi : i < l.length) (j : Nat), j < 7 → (rowO l)[i * 7 + j]? = (oCells l[i])[j]?
  | [], i, hi, _, _ => by simp at hi
  | o :: l, 0, _, j, hj => by
    have e : rowO (o :: l) = (oCells o).toList ++ rowO l := rfl
    rw [e, Nat.zero_mul, Nat.zero_add, List.getElem?_append_left (by simp [oCells]; omega)]
    simp
  | o :: l, i + 1, hi, j, hj => by
    have e : rowO (o :: l) = (oCells o).toList ++ rowO l := rfl
    have ih := rowO_at l i (by simpa using hi) j hj
    rw [e, List.getElem?_append_right (by simp [oCells]; omega)]
    have e2 : (i + 1) * 7 + j - (oCells o).toList.length = i * 7 + j := by simp [oCells]; omega
    rw [e2, ih]; simp
theorem OwnO.seen {w : World} {base n c : Nat} {A : Option Addr} {l : List Orig} (h : OwnO w base (.slice A n c) l) : SeenOs w A l := fun hn => by
  have hrow := h
  obtain ⟨_, ⟨h1, h2⟩ | ⟨g, cap, cur, h1, hb, hg, _⟩⟩ := h
  · omega
  · cases h1
    refine ⟨g, 0, rfl, (Array.getElem?_eq_some_iff.1 hg).1, fun i hi j hj => ?_⟩
    have hr := rowO_at l i hi j hj
    have hsz : j < (oCells l[i]).size := hj
    obtain ⟨u, hu⟩ : ∃ u, (oCells l[i])[j]? = some u := ⟨_, Array.getElem?_eq_getElem hsz⟩
    rw [hu] at hr ⊢
    have := World.ownsRow.cells hrow (g := g) rfl (i * 7 + j) u hr
    have ea : ((⟨g, 0, Option.none⟩ : Addr).add (i * 7 + j)) = ⟨g, 0 + i * 7 + j, Option.none⟩ := by unfold Addr.add; split <;> simp_all
    rw [ea] at this
    exact this
/-- 'append(a, b...)' of lists of origins, a one's own, b lying somewhere or nil, in a region that draws. -/
theorem step_appO {ops : Array Oper} {o : Oper} {a : Act} {w : World} {K : Act → World → Prop} {Q : Exit → Act → World → Prop} {E : Prop} (hgd : o.guard = none) (s x : Operand)
    (ho : o.op = .call { callee := .builtin .append, args := #[s, x], argTypes := #[37, 37] }) (base : Nat) (v : Value) (la lb : List Orig) (hs : a.eval s = v) (hown : OwnO w base v la)
    (A : Option Addr) (n c m : Nat) (hx : a.eval x = .slice A n c) (hn : lb.length = n) (hnl : A = Option.none → n = 0 ∧ c = 0) (hA : SeenOs w A lb) (hm : la.length + n = m) (h63 : m ≤ maxLen) (hbytes : m * 64 ≤ 140737488355328) (hb : base ≤ w.heap.size)
    (h : ∀ A' c' w', OwnO w' base (.slice A' m c') (la ++ lb) → w.grownBy w' v.ownBlock → Below base w w' → K (a.put o.dst (.slice A' m c')) w') :
    if Region.wanted o (yielded ops a.tmps) = true then Oper.wp Tryz.prog o a w K Q else E := by
  obtain ⟨i0, hi, hz0, hz1, hz2⟩ := info_parts info_org
  subst hn; subst hm
  refine step_append_own hgd s x 37 ho base 31 i0 _ 7 64 Tryz.underlying37 hi hz0 hz1 hz2 rfl (by decide) v la.length (rowO la) hs hown _ hx lb.length (rowO lb) (news_orgs rfl hnl hA) (rowO_len lb) (rowO_one lb) h63 hbytes hb ?_
  intro v' w' r1 r2
  have hown' : OwnO w' base v' (la ++ lb) := by
    unfold OwnO
    rw [rowO_app, ← List.length_append] at r1
    exact r1
  obtain ⟨A', c', rfl⟩ := hown'.slice
  rw [List.length_append] at hown' ⊢
  exact h A' c' w' hown' r2 ((Below.refl base w).grown r2 hb (fun k hk => (hown.lt k hk).1))
theorem below_al2 {B : Nat} {a w : World} (h : Below B a w) (hB : B ≤ w.heap.size) (o : Obj) : Below B a (w.alloc o) := h.alloc hB o
theorem hp_first (w : World) (a b : Obj) : ((w.alloc a).alloc b).drew.heap[w.heap.size]? = some a := (Below.heap_alloc (w.alloc a) b _ (by simp)).trans (World.alloc_heap_new w a)
theorem hp_second (w : World) (a b : Obj) : ((w.alloc a).alloc b).drew.heap[w.heap.size + 1]? = some b := by
  have := World.alloc_heap_new (w.alloc a) b
  rw [World.size_alloc] at this
  exact this
/-- A list of one origin, laid, and kept. -/
theorem orgs_kept {w w4 : World} {B : Nat} {o : Orig} {row : Option Nat} (hB : w.heap[B]? = some (.cells (oCells o) 31 (0, 0))) (hg : w.grownBy w4 row) (hne : some B ≠ row) : SeenOs w4 (some ⟨B, 0, Option.none⟩) [o] := fun _ => by
  have hlt := (Array.getElem?_eq_some_iff.1 hB).1
  have h4 : OBox w4 B o := (hg.block B hlt hne).trans hB
  refine ⟨B, 0, rfl, h4.lt, fun i hi j hj => ?_⟩
  have hi' : i < 1 := hi
  match i, hi' with
  | 0, _ =>
    have := h4.c j
    simp only [Nat.zero_mul, Nat.zero_add]
    exact this
end Go.Proofs.YtinjkpbpkedfnaaGreatDoor
