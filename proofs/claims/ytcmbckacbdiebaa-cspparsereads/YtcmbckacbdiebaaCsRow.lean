/- Lists of policies in memory. -/
import Derived.Test.YtcmbckacbdiebaaCsSeen
import Derived.Laws.AppendOwnNone
namespace Go.Proofs.Ytcmbckacbdiebaa
open Go.RowKit

/-- The cells of some policies, one behind the other; their words lie in blocks of texts. -/
def RowP (w : World) : List Cs.Pol → List Value → Prop
  | [], cs => cs = []
  | p :: ps, cs => ∃ A c B d r, cs = (polC p A c B d).toList ++ r ∧ TextsIn w A p.anc ∧ TextsIn w B p.box ∧ RowP w ps r
theorem RowP.kept {w w' : World} (hk : KeptT 9 w w') : ∀ {ps : List Cs.Pol} {cs : List Value}, RowP w ps cs → RowP w' ps cs
  | [], _, h => h
  | _ :: _, _, ⟨A, c, B, d, r, e, h1, h2, h3⟩ => ⟨A, c, B, d, r, e, h1.kept hk, h2.kept hk, RowP.kept hk h3⟩
theorem RowP.app {w : World} {qs : List Cs.Pol} {ds : List Value} (h2 : RowP w qs ds) : ∀ {ps : List Cs.Pol} {cs : List Value}, RowP w ps cs → RowP w (ps ++ qs) (cs ++ ds)
  | [], _, h => by
    have h' : _ = [] := h
    subst h'
    exact h2
  | _ :: _, _, ⟨A, c, B, d, r, e, x1, x2, x3⟩ => ⟨A, c, B, d, r ++ ds, by rw [e, List.append_assoc], x1, x2, RowP.app h2 x3⟩
theorem RowP.one {w : World} {p : Cs.Pol} {A : Option Addr} {c : Nat} {B : Option Addr} {d : Nat} (h1 : TextsIn w A p.anc) (h2 : TextsIn w B p.box) : RowP w [p] (polC p A c B d).toList := ⟨A, c, B, d, [], by simp, h1, h2, rfl⟩
theorem RowP.len {w : World} : ∀ {ps : List Cs.Pol} {cs : List Value}, RowP w ps cs → cs.length = ps.length * 4
  | [], _, h => by
    have h' : _ = [] := h
    subst h'; rfl
  | _ :: _, _, ⟨A, c, B, d, r, e, _, _, h⟩ => by
    have := RowP.len h
    rw [e, List.length_append, this, List.length_cons]
    simp [polC]; omega
theorem RowP.cells {w : World} : ∀ {ps : List Cs.Pol} {cs : List Value}, RowP w ps cs → ∀ u ∈ cs, u.oneCell' = true
  | [], _, h => fun u hu => by
    have h' : _ = [] := h
    subst h'; simp at hu
  | _ :: _, _, ⟨A, c, B, d, r, e, _, _, h⟩ => fun u hu => by
    rw [e] at hu
    rcases List.mem_append.1 hu with hu | hu
    · simp only [polC, List.mem_cons, List.not_mem_nil, or_false] at hu
      rcases hu with rfl | rfl | rfl | rfl <;> rfl
    · exact RowP.cells h u hu
theorem RowP.at {w : World} : ∀ {ps : List Cs.Pol} {cs : List Value}, RowP w ps cs → ∀ (i : Nat) (hi : i < ps.length), ∃ A c B d, (∀ j, j < 4 → cs[i * 4 + j]? = (polC ps[i] A c B d)[j]?) ∧ TextsIn w A ps[i].anc ∧ TextsIn w B ps[i].box
  | [], _, _, i, hi => by simp at hi
  | p :: ps, _, ⟨A, c, B, d, r, e, h1, h2, h⟩, 0, _ => ⟨A, c, B, d, fun j hj => by
      rw [e, Nat.zero_mul, Nat.zero_add, List.getElem?_append_left (by simp [polC]; omega)]
      simp, h1, h2⟩
  | p :: ps, _, ⟨A, c, B, d, r, e, h1, h2, h⟩, i + 1, hi => by
    obtain ⟨A', c', B', d', x1, x2, x3⟩ := RowP.at h i (by simpa using hi)
    refine ⟨A', c', B', d', fun j hj => ?_, x2, x3⟩
    rw [e, List.getElem?_append_right (by simp [polC]; omega)]
    have : (i + 1) * 4 + j - (polC p A c B d).toList.length = i * 4 + j := by simp [polC]; omega
    rw [this]
    exact x1 j hj
/-- A list of policies of one's own. -/
def OwnP (w : World) (base : Nat) (v : Value) (ps : List Cs.Pol) : Prop := ∃ cs, RowP w ps cs ∧ w.ownsRow base 26 4 v ps.length cs
theorem OwnP.below {w w' : World} {base : Nat} {v : Value} {ps : List Cs.Pol} (h : OwnP w base v ps) (hb : Below w.heap.size w w') : OwnP w' base v ps := by
  obtain ⟨cs, h1, h2⟩ := h
  exact ⟨cs, h1.kept (.below hb), owns_below h2 hb⟩
theorem OwnP.nil (w : World) (base : Nat) : OwnP w base (.slice none 0 0) [] := ⟨[], rfl, World.ownsRow_nil _ _ _ _⟩
theorem OwnP.slice {w : World} {base : Nat} {v : Value} {ps : List Cs.Pol} (h : OwnP w base v ps) : ∃ A c, v = .slice A ps.length c := by
  obtain ⟨cs, _, _, ⟨h1, h2⟩ | ⟨g, cap, cur, h1, _⟩⟩ := h
  · exact ⟨none, 0, by rw [h1, h2]⟩
  · exact ⟨_, _, h1⟩
/-- A list of policies that lies somewhere. -/
def SeenPs (w : World) (A : Option Addr) (ps : List Cs.Pol) : Prop := 0 < ps.length → ∃ g o, A = some ⟨g, o, none⟩ ∧ g < w.heap.size ∧ ∀ i (h : i < ps.length), ∃ A1 c1 A2 c2, (∀ j, j < 4 → w.cell? ⟨g, o + i * 4 + j, none⟩ = (polC ps[i] A1 c1 A2 c2)[j]?) ∧ TextsIn w A1 ps[i].anc ∧ TextsIn w A2 ps[i].box
theorem SeenPs.below {w w' : World} {A : Option Addr} {ps : List Cs.Pol} (h : SeenPs w A ps) (hb : Below w.heap.size w w') : SeenPs w' A ps := fun hn => by
  obtain ⟨g, o, e, hg, hc⟩ := h hn
  refine ⟨g, o, e, Nat.lt_of_lt_of_le hg hb.size, fun i hi => ?_⟩
  obtain ⟨A1, c1, A2, c2, x1, x2, x3⟩ := hc i hi
  exact ⟨A1, c1, A2, c2, fun j hj => (hb.cell (p := ⟨g, o + i * 4 + j, none⟩) hg).trans (x1 j hj), x2.below hb, x3.below hb⟩
theorem OwnP.seen {w : World} {base n c : Nat} {A : Option Addr} {ps : List Cs.Pol} (h : OwnP w base (.slice A n c) ps) : SeenPs w A ps := fun hn => by
  obtain ⟨cs, hr, hrow⟩ := h
  have hrow2 := hrow
  obtain ⟨_, ⟨h1, h2⟩ | ⟨g, cap, cur, h1, hb, hg, _⟩⟩ := hrow
  · omega
  · cases h1
    refine ⟨g, 0, rfl, (Array.getElem?_eq_some_iff.1 hg).1, fun i hi => ?_⟩
    obtain ⟨A1, c1, A2, c2, x1, x2, x3⟩ := hr.at i hi
    refine ⟨A1, c1, A2, c2, fun j hj => ?_, x2, x3⟩
    rw [← x1 j hj]
    have hl := hr.len
    have hlt : i * 4 + j < cs.length := by rw [hl]; omega
    have := World.ownsRow.cells hrow2 (g := g) rfl (i * 4 + j) cs[i * 4 + j] (List.getElem?_eq_getElem hlt)
    have ea : ((⟨g, 0, none⟩ : Addr).add (i * 4 + j)) = ⟨g, 0 + i * 4 + j, none⟩ := by unfold Addr.add; split <;> simp_all
    rw [ea] at this
    rw [this, List.getElem?_eq_getElem hlt]
theorem info_pol : (Try.prog.info? 26).map (fun i => (i.zero, i.size, i.bytes)) = some (some (.agg #[.bool false, .slice none 0 0, .bool false, .slice none 0 0]), 4, 64) := by kernel_rfl
/-- One policy more, behind the others: what an append leaves. -/
theorem OwnP.more {w1 w3 : World} {base : Nat} {v v' : Value} {ps qs : List Cs.Pol} {cs ds : List Value} {o : Obj} (hr : RowP w1 ps cs) (hq : RowP w1 qs ds) (hrow : (w1.alloc o).ownsRow base 26 4 v ps.length cs) (hg : (w1.alloc o).grownBy w3 v.ownBlock)
    (h : w3.ownsRow base 26 4 v' (ps.length + qs.length) (cs ++ ds)) : OwnP w3 base v' (ps ++ qs) :=
  ⟨cs ++ ds, (RowP.app hq hr).kept ((KeptT.alloc _ _ _).trans (KeptT.row (by decide) hrow hg)), by rw [List.length_append]; exact h⟩
theorem OwnP.keptBy {w w' : World} {base : Nat} {v : Value} {ps : List Cs.Pol} {row : Option Nat} (h : OwnP w base v ps) (hg : w.grownBy w' row) (hne : v.ownBlock = none ∨ v.ownBlock ≠ row) (hk : KeptT 9 w w') : OwnP w' base v ps := by
  obtain ⟨cs, h1, h2⟩ := h
  exact ⟨cs, h1.kept hk, h2.kept hg hne⟩
theorem OwnP.base {w : World} {base base' : Nat} {v : Value} {ps : List Cs.Pol} (h : OwnP w base v ps) (hb : base' ≤ base) : OwnP w base' v ps := by
  obtain ⟨cs, h1, h2⟩ := h
  exact ⟨cs, h1, owns_base h2 hb⟩
theorem OwnP.lt {w : World} {base : Nat} {v : Value} {ps : List Cs.Pol} (h : OwnP w base v ps) : ∀ k, v.ownBlock = some k → base ≤ k ∧ k < w.heap.size := by
  obtain ⟨cs, _, h2⟩ := h
  exact h2.lt
/-- What an append wants of a list of policies. -/
theorem news_pols {w : World} {base : Nat} {A : Option Addr} {n c : Nat} {qs : List Cs.Pol} (h : OwnP w base (.slice A n c) qs) (hn : qs.length = n) : ∃ ds, RowP w qs ds ∧ ((Value.slice A n c = .slice none 0 0 ∧ n = 0 ∧ ds = []) ∨ ∃ ad d, Value.slice A n c = .slice (some ad) n d ∧ ∀ j u, ds[j]? = some u → w.cell? (ad.add j) = some u) := by
  obtain ⟨ds, h1, h2⟩ := h
  refine ⟨ds, h1, ?_⟩
  have h3 := h2
  obtain ⟨_, ⟨e1, e2⟩ | ⟨g, cap, cur, e1, _⟩⟩ := h2
  · left
    rw [e2] at hn
    have hl := h1.len
    exact ⟨e1, hn.symm, List.length_eq_zero_iff.1 (by omega)⟩
  · right
    cases e1
    exact ⟨_, _, rfl, fun j u hj => World.ownsRow.cells h3 (g := g) rfl j u hj⟩
/-- 'append(a, b...)' of lists of policies, both one's own. -/
theorem wp_appP {ops : Array Oper} {rest : List Oper} {o : Oper} {a : Act} {w : World} {Q : Exit → Act → World → Prop} (hgd : o.guard = none) (s x : Operand)
    (ho : o.op = .call { callee := .builtin .append, args := #[s, x], argTypes := #[32, 32] }) (base : Nat) (v : Value) (ps qs : List Cs.Pol) (hs : a.eval s = v) (hown : OwnP w base v ps)
    (base2 : Nat) (A : Option Addr) (n c m : Nat) (hx : a.eval x = .slice A n c) (hn : qs.length = n) (hq : OwnP w base2 (.slice A n c) qs) (hm : ps.length + n = m) (h63 : m ≤ maxLen) (hbytes : m * 64 ≤ 140737488355328) (hb : base ≤ w.heap.size)
    (h : ∀ A' c' w', OwnP w' base (.slice A' m c') (ps ++ qs) → Below base w w' → w.grownBy w' v.ownBlock → KeptT 9 w w' → wpList Try.prog ops Q rest (a.put o.dst (.slice A' m c')) w') :
    wpList Try.prog ops Q (o :: rest) a w := by
  obtain ⟨i0, hi, hz0, hz1, hz2⟩ := info_parts info_pol
  obtain ⟨ds, hds, hnews⟩ := news_pols hq hn
  obtain ⟨cs, hcs, hrow⟩ := hown
  subst hn; subst hm
  have key : ∀ v' w', w'.ownsRow base 26 4 v' (ps.length + qs.length) (cs ++ ds) → w.grownBy w' v.ownBlock → wpList Try.prog ops Q rest (a.put o.dst v') w' := by
    intro v' w' r1 r2
    have hk : KeptT 9 w w' := KeptT.row (by decide) hrow r2
    have hown' : OwnP w' base v' (ps ++ qs) := ⟨cs ++ ds, (RowP.app hds hcs).kept hk, by rw [List.length_append]; exact r1⟩
    obtain ⟨A', c', rfl⟩ := hown'.slice
    rw [List.length_append] at hown' ⊢
    exact h A' c' w' hown' ((Below.refl base w).grown r2 hb (fun k hk => (hrow.lt k hk).1)) r2 hk
  rcases hnews with ⟨e, h0, h1⟩ | ⟨ad, c', e, hc⟩
  · refine wpList_append_own_none hgd s x 32 ho base 26 i0 4 Try.underlying32 hi v _ _ hs hrow (hx.trans e) ?_
    exact key v w (by rw [h0, h1, Nat.add_zero, List.append_nil]; exact hrow) ⟨rfl, rfl, rfl, Nat.le_refl _, fun _ _ _ => rfl⟩
  · refine wpList_append_own _ hgd s x 32 ho base 26 i0 _ 4 64 Try.underlying32 hi hz0 hz1 hz2 rfl (by decide) v _ _ hs hrow ad qs.length c' ds (hx.trans e) hds.len hc hds.cells h63 hbytes hb ?_
    intro v' w' r1 r2 _
    exact key v' w' r1 r2
end Go.Proofs.Ytcmbckacbdiebaa
