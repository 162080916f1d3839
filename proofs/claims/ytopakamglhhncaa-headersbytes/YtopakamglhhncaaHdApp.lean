/- Lists of headers laid one behind the other, as steps of a region that draws its order. -/
import Derived.Deep.AppendLies
import Derived.Deep.RegionHeldLaw
import Derived.Laws.AppendOwnNone
import Derived.Test.YtopakamglhhncaaHdAwake
import Derived.Test.YtopakamglhhncaaHdOpen
namespace Go.Proofs.Ytopakamglhhncaa
open Go.RowKit Go.Deep

theorem info_hdr : (Try.prog.info? 34).map (fun i => (i.zero, i.size, i.bytes)) = some (some (.agg #[.string ⟨#[]⟩, .string ⟨#[]⟩]), 2, 32) := by kernel_rfl
/-- 'append(s, x...)', s a row of one's own, x nil or lying somewhere, as one step of a region that draws its order. -/
theorem step_append_own {P : Program} {ops : Array Oper} {o : Oper} {a : Act} {w : World} {K : Act → World → Prop} {Q : Exit → Act → World → Prop} {E : Prop} (hgd : o.guard = none) (s x : Operand) (t : TypeId)
    (ho : o.op = .call { callee := .builtin .append, args := #[s, x], argTypes := #[t, t] })
    (base : Nat) (e : TypeId) (i : TypeInfo) (z : Value) (size bytes : Nat) (ht : P.underlying t = some (.slice e)) (hi : P.info? e = some i) (hz : i.zero = some z)
    (hsize : i.size = size) (hby : i.bytes = bytes) (hzs : z.cells.size = size) (hsz : 0 < size)
    (v : Value) (n : Nat) (xs : List Value) (hs : a.eval s = v) (hown : w.ownsRow base e size v n xs)
    (vx : Value) (hx : a.eval x = vx) (m : Nat) (news : List Value) (hv : (vx = .slice none 0 0 ∧ m = 0 ∧ news = []) ∨ ∃ ad c, vx = .slice (some ad) m c ∧ ∀ j u, news[j]? = some u → w.cell? (ad.add j) = some u)
    (hl : news.length = m * size) (h1 : ∀ u ∈ news, u.oneCell' = true) (h63 : n + m ≤ maxLen) (hbytes : (n + m) * bytes ≤ 140737488355328) (hbase : base ≤ w.heap.size)
    (h : ∀ v' w', w'.ownsRow base e size v' (n + m) (xs ++ news) → w.grownBy w' v.ownBlock → K (a.put o.dst v') w') :
    if Region.wanted o (yielded ops a.tmps) = true then Oper.wp P o a w K Q else E := by
  have hw : Region.wanted o (yielded ops a.tmps) = true := by simp [Region.wanted, hgd]
  rw [if_pos hw]
  rcases hv with ⟨rfl, rfl, rfl⟩ | ⟨ad, c, rfl, hc⟩
  · have hrun := run_append_owned_none (P := P) (w := w) base t o.type e i size ht hi v n xs hown
    unfold Oper.wp
    simp [execOp, ho, resolve, invoke, builtin, hs, hx, hrun, Result.andThen]
    exact h v w (by simpa using hown) ⟨rfl, rfl, rfl, Nat.le_refl _, fun _ _ _ => rfl⟩
  · obtain ⟨v', w', hrun, r1, r2, _⟩ := run_append_own (P := P) w base t o.type e i z size bytes ht hi hz hsize hby hzs hsz v n xs hown ad m c news hl hc h1 h63 hbytes hbase
    unfold Oper.wp
    simp [execOp, ho, resolve, invoke, builtin, hs, hx, hrun, Result.andThen]
    exact h v' w' r1 r2
theorem rowH_app (a b : List Hd.Hdr) : rowH a ++ rowH b = rowH (a ++ b) := by unfold rowH; simp
/-- The cells of a list of headers that lies somewhere, as a row. -/
theorem rowH_cells {w : World} {g o : Nat} : ∀ (l : List Hd.Hdr) (k : Nat), (∀ i (h : i < l.length), Cells2 w g (o + (k + i) * 2) l[i]) → ∀ (j : Nat) (u : Value), (rowH l)[j]? = some u → w.cell? ⟨g, o + k * 2 + j, none⟩ = some u
  | [], k, _, j, u, hu => by simp [rowH] at hu
  | x :: l, k, h, j, u, hu => by
    have h0 := h 0 (by simp)
    have ih := rowH_cells l (k + 1) (fun i hi => by
      have := h (i + 1) (by simpa using hi)
      rw [show k + (i + 1) = k + 1 + i by omega] at this
      exact this)
    have e : rowH (x :: l) = hdC x ++ rowH l := rfl
    rw [e] at hu
    simp only [List.getElem_cons_zero, Nat.add_zero] at h0
    match j with
    | 0 => simp only [hdC, List.cons_append, List.getElem?_cons_zero, Option.some.injEq] at hu; subst hu; exact h0.1
    | 1 => simp only [hdC, List.cons_append, List.getElem?_cons_succ, List.getElem?_cons_zero, Option.some.injEq] at hu; subst hu; exact h0.2
    | j + 2 =>
      have hu' : (rowH l)[j]? = some u := by simpa [hdC] using hu
      have := ih j u hu'
      rw [show o + k * 2 + (j + 2) = o + (k + 1) * 2 + j by omega]
      exact this
/-- What an append wants of a list that lies somewhere. -/
theorem news_heads {w : World} {A : Option Addr} {n c : Nat} {l : List Hd.Hdr} (hn : l.length = n) (hnl : A = none → n = 0 ∧ c = 0) (h : SeenH w A l) : (Value.slice A n c = .slice none 0 0 ∧ n = 0 ∧ rowH l = []) ∨ ∃ ad d, Value.slice A n c = .slice (some ad) n d ∧ ∀ j u, (rowH l)[j]? = some u → w.cell? (ad.add j) = some u := by
  subst hn
  cases A with
  | none =>
    obtain ⟨h0, rfl⟩ := hnl rfl
    have e0 : l = [] := List.length_eq_zero_iff.1 h0
    subst e0
    exact .inl ⟨rfl, rfl, rfl⟩
  | some a =>
    refine .inr ⟨a, c, rfl, fun j u hu => ?_⟩
    by_cases hl : 0 < l.length
    · obtain ⟨g, o, e, hg, hc⟩ := h hl
      cases e
      have := rowH_cells (w := w) (g := g) (o := o) l 0 (fun i hi => by rw [Nat.zero_add]; exact hc i hi) j u hu
      rw [Nat.zero_mul, Nat.add_zero] at this
      have ad : (⟨g, o, none⟩ : Addr).add j = ⟨g, o + j, none⟩ := by simp [Addr.add]
      rw [ad]; exact this
    · have e0 : l = [] := List.length_eq_zero_iff.1 (by omega)
      subst e0
      simp [rowH] at hu
theorem own_none {w : World} {base B : Nat} (hB : w.heap[B]? = some (.cells #[] 34 (0, 0))) (hb : base ≤ B) : OwnH w base (.slice (some ⟨B, 0, none⟩) 0 0) [] :=
  ⟨by simp [rowH], .inr ⟨B, 0, #[], rfl, hb, hB, Nat.le_refl _, by simp [maxLen], by simp, by simp [rowH]⟩⟩
/-- 'append(a, b...)' of lists of headers, a one's own, b lying somewhere or nil. -/
theorem step_app {ops : Array Oper} {o : Oper} {a : Act} {w : World} {K : Act → World → Prop} {Q : Exit → Act → World → Prop} {E : Prop} (hgd : o.guard = none) (s x : Operand)
    (ho : o.op = .call { callee := .builtin .append, args := #[s, x], argTypes := #[23, 23] }) (base : Nat) (v : Value) (la lb : List Hd.Hdr) (hs : a.eval s = v) (hown : OwnH w base v la)
    (A : Option Addr) (n c m : Nat) (hx : a.eval x = .slice A n c) (hn : lb.length = n) (hnl : A = none → n = 0 ∧ c = 0) (hA : SeenH w A lb) (hm : la.length + n = m) (h63 : m ≤ maxLen) (hbytes : m * 32 ≤ 140737488355328) (hb : base ≤ w.heap.size)
    (h : ∀ A' c' w', OwnH w' base (.slice A' m c') (la ++ lb) → w.grownBy w' v.ownBlock → SeenH w' A' (la ++ lb) → Below base w w' → K (a.put o.dst (.slice A' m c')) w') :
    if Region.wanted o (yielded ops a.tmps) = true then Oper.wp Try.prog o a w K Q else E := by
  obtain ⟨i0, hi, hz0, hz1, hz2⟩ := info_parts info_hdr
  subst hn; subst hm
  refine step_append_own hgd s x 23 ho base 34 i0 _ 2 32 Try.underlying23 hi hz0 hz1 hz2 rfl (by decide) v la.length (rowH la) hs hown _ hx lb.length (rowH lb) (news_heads rfl hnl hA) (rowH_len lb) (rowH_one lb) h63 hbytes hb ?_
  intro v' w' r1 r2
  have hown' : OwnH w' base v' (la ++ lb) := by
    unfold OwnH
    rw [rowH_app, ← List.length_append] at r1
    exact r1
  obtain ⟨A', c', rfl, hs', _⟩ := hown'.slice
  rw [List.length_append] at hown' ⊢
  refine h A' c' w' hown' r2 hs' ((Below.refl base w).grown r2 hb (fun k hk => (hown.lt k hk).1))
end Go.Proofs.Ytopakamglhhncaa
