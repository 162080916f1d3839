/- Lists of policies laid one behind the other, as a step of a region that draws its order; texts likewise. -/
import Derived.Test.YtnnjfiknfmjliaaSbAwake
import Derived.Test.YtnnjfiknfmjliaaApp
namespace Go.Proofs.Ytnnjfiknfmjliaa
open Go.RowKit Go.Deep

theorem info_polQ : (Try.prog.info? 32).map (fun i => (i.zero, i.size, i.bytes)) = some (some (.agg #[.bool false, .slice none 0 0, .bool false, .slice none 0 0]), 4, 64) := by kernel_rfl
/-- A list of policies of one's own; the words were there before. -/
def OwnQ (w0 w : World) (v : Value) (l : List Cs.Pol) : Prop := ∃ cs, RowQ w0 l cs ∧ w.ownsRow w0.heap.size 32 4 v l.length cs
theorem OwnQ.none {w0 w : World} {B : Nat} (hB : w.heap[B]? = some (.cells #[] 32 (0, 0))) (hb : w0.heap.size ≤ B) : OwnQ w0 w (.slice (some ⟨B, 0, none⟩) 0 0) [] :=
  ⟨[], rfl, by simp, .inr ⟨B, 0, #[], rfl, hb, hB, Nat.le_refl _, by simp [maxLen], by simp, by simp⟩⟩
theorem OwnQ.slice {w0 w : World} {v : Value} {l : List Cs.Pol} (h : OwnQ w0 w v l) : ∃ A c, v = .slice A l.length c := by
  obtain ⟨cs, _, _, ⟨h1, h2⟩ | ⟨g, cap, cur, h1, _⟩⟩ := h
  · exact ⟨Option.none, 0, by rw [h1, h2]⟩
  · exact ⟨_, _, h1⟩
theorem OwnQ.alloc {w0 w : World} {v : Value} {l : List Cs.Pol} (h : OwnQ w0 w v l) (o : Obj) : OwnQ w0 (w.alloc o) v l := by
  obtain ⟨cs, h1, h2⟩ := h
  exact ⟨cs, h1, World.ownsRow.alloc h2 o⟩
theorem OwnQ.seen {w0 w : World} {n c : Nat} {A : Option Addr} {l : List Cs.Pol} (h : OwnQ w0 w (.slice A n c) l) (hb : Below w0.heap.size w0 w) : SeenPo w A l := fun hn => by
  obtain ⟨cs, hr, hrow⟩ := h
  have hown := hrow
  obtain ⟨_, ⟨h1, h2⟩ | ⟨g, cap, cur, h1, hg1, hg, _⟩⟩ := hrow
  · omega
  · cases h1
    refine (hr.below hb).seen (Array.getElem?_eq_some_iff.1 hg).1 (fun j u hu => ?_) hn
    have := World.ownsRow.cells hown (g := g) rfl j u hu
    have ea : ((⟨g, 0, Option.none⟩ : Addr).add j) = ⟨g, 0 + j, Option.none⟩ := by unfold Addr.add; split <;> simp_all
    rw [ea] at this
    exact this
/-- What an append wants of what is laid behind. -/
def NewsQ (w : World) (A : Option Addr) (n c : Nat) (cs : List Value) : Prop := (Value.slice A n c = .slice none 0 0 ∧ n = 0 ∧ cs = []) ∨ ∃ ad d, Value.slice A n c = .slice (some ad) n d ∧ ∀ j u, cs[j]? = some u → w.cell? (ad.add j) = some u
theorem news_pols {w0 : World} {A : Option Addr} {c : Nat} {l : List Cs.Pol} (hnl : A = none → l.length = 0 ∧ c = 0) (h : SeenPo w0 A l) : ∃ cs, RowQ w0 l cs ∧ ∀ w, Below w0.heap.size w0 w → NewsQ w A l.length c cs := by
  cases A with
  | none =>
    obtain ⟨h0, rfl⟩ := hnl rfl
    have e0 : l = [] := List.length_eq_zero_iff.1 h0
    subst e0
    exact ⟨[], rfl, fun w _ => .inl ⟨rfl, rfl, rfl⟩⟩
  | some a =>
    by_cases hl : 0 < l.length
    · obtain ⟨g, q, e, hg, hc⟩ := h hl
      cases e
      obtain ⟨cs, h1, h2⟩ := SeenPo.row (w := w0) (g := g) (q := q) l 0 (fun i hi => by rw [Nat.zero_add]; exact hc i hi)
      refine ⟨cs, h1, fun w hb => .inr ⟨_, c, rfl, fun j u hu => ?_⟩⟩
      have ad : (⟨g, q, none⟩ : Addr).add j = ⟨g, q + j, none⟩ := by simp [Addr.add]
      have := h2 j u hu
      rw [Nat.zero_mul, Nat.add_zero] at this
      rw [ad, ← this]
      exact hb.cell (p := ⟨g, q + j, none⟩) hg
    · have e0 : l = [] := List.length_eq_zero_iff.1 (by omega)
      subst e0
      exact ⟨[], rfl, fun w _ => .inr ⟨a, c, rfl, fun j u hu => by simp at hu⟩⟩
theorem news_one {w : World} {B : Nat} {x : Array Value} (h : CBox w B 32 x) : NewsQ w (some ⟨B, 0, none⟩) 1 1 x.toList := .inr ⟨_, 1, rfl, fun j u hu => by
  have ad : (⟨B, 0, none⟩ : Addr).add j = ⟨B, j, none⟩ := by simp [Addr.add]; omega
  rw [ad, h.c j, ← hu]; simp⟩
/-- 'append(a, b...)' of lists of policies, a one's own, b lying somewhere or nil, in a region that draws. -/
theorem step_appQ {ops : Array Oper} {o : Oper} {a : Act} {w0 w : World} {K : Act → World → Prop} {Q : Exit → Act → World → Prop} {E : Prop} (hgd : o.guard = none) (s x : Operand)
    (ho : o.op = .call { callee := .builtin .append, args := #[s, x], argTypes := #[30, 30] }) (v : Value) (la lb : List Cs.Pol) (cs : List Value) (hs : a.eval s = v) (hown : OwnQ w0 w v la)
    (A : Option Addr) (n c m : Nat) (hx : a.eval x = .slice A n c) (hn : lb.length = n) (hrow : RowQ w0 lb cs) (hA : NewsQ w A n c cs) (hm : la.length + n = m) (h63 : m ≤ maxLen) (hbytes : m * 64 ≤ 140737488355328) (hb : Below w0.heap.size w0 w)
    (h : ∀ A' c' w', OwnQ w0 w' (.slice A' m c') (la ++ lb) → w.grownBy w' v.ownBlock → Below w0.heap.size w0 w' → K (a.put o.dst (.slice A' m c')) w') :
    if Region.wanted o (yielded ops a.tmps) = true then Oper.wp Try.prog o a w K Q else E := by
  obtain ⟨i0, hi, hz0, hz1, hz2⟩ := info_parts info_polQ
  obtain ⟨ca, ha, hown⟩ := hown
  subst hn; subst hm
  refine step_append_own hgd s x 30 ho w0.heap.size 32 i0 _ 4 64 Try.underlying30 hi hz0 hz1 hz2 rfl (by decide) v la.length ca hs hown _ hx lb.length cs hA hrow.len hrow.cells h63 hbytes hb.size ?_
  intro v' w' r1 r2
  have hown' : OwnQ w0 w' v' (la ++ lb) := ⟨ca ++ cs, hrow.app ha, by rw [List.length_append]; exact r1⟩
  obtain ⟨A', c', rfl⟩ := hown'.slice
  rw [List.length_append] at hown' ⊢
  exact h A' c' w' hown' r2 (hb.trans ((Below.refl w0.heap.size w).grown r2 hb.size (fun k hk => (hown.lt k hk).1)))
theorem own_oneT (w : World) (t : List UInt8) (base : Nat) (hb : base ≤ w.heap.size) : (w.alloc (.cells #[.string (bA t)] 9)).ownsRow base 9 1 (.slice (some ⟨w.heap.size, 0, none⟩) 1 1) 1 ([t].map Oct.strV) :=
  ⟨by simp, .inr ⟨w.heap.size, 1, #[.string (bA t)], rfl, hb, World.alloc_heap_new w _, Nat.le_refl _, by simp [maxLen], by simp, by simp [Oct.strV, bA]⟩⟩
theorem own_noT (w : World) : (w.alloc (.cells #[] 9)).ownsRow w.heap.size 9 1 (.slice (some ⟨w.heap.size, 0, none⟩) 0 0) 0 (([] : List (List UInt8)).map Oct.strV) :=
  ⟨by simp, .inr ⟨w.heap.size, 0, #[], rfl, Nat.le_refl _, World.alloc_heap_new w _, Nat.le_refl _, by simp [maxLen], by simp, by simp⟩⟩
theorem qp_first (w : World) (a b : Obj) : ((w.alloc a).alloc b).drew.heap[w.heap.size]? = some a := (Below.heap_alloc (w.alloc a) b _ (by simp)).trans (World.alloc_heap_new w a)
theorem qp_second (w : World) (a b : Obj) : ((w.alloc a).alloc b).drew.heap[w.heap.size + 1]? = some b := by
  have := World.alloc_heap_new (w.alloc a) b
  rw [World.size_alloc] at this
  exact this
theorem below_alQ {B : Nat} {a w : World} (h : Below B a w) (hB : B ≤ w.heap.size) (o : Obj) : Below B a (w.alloc o) := h.alloc hB o
end Go.Proofs.Ytnnjfiknfmjliaa
