/- How a policy that is handed in is opened; lists of texts laid one behind the other, as steps of a region that draws its order. -/
import Derived.Test.YtnnjfiknfmjliaaPol
import Derived.Test.YtnnjfiknfmjliaaApp
import Derived.Test.YtnnjfiknfmjliaaOctOut
import Derived.Lib.SmallJoins
namespace Go.Proofs.Ytnnjfiknfmjliaa
open Go.ChangeShapes Go.WideShapes Go.ChangeAt Go.RowKit Go.Deep

/-- What a policy that is handed in is known to be. -/
structure WidePol (W : World) (p : Cs.Pol) (A : Option Addr) (c : Nat) (B : Option Addr) (d : Nat) : Prop where
  anc : WideTs W A c p.anc
  box : WideTs W B d p.box
section
variable {H : Type} {enc : TypeId × Value → H} {W : World} {b0 : Nat} {v : Value} {d : DataW H} {ps : List MemPlace}
theorem cellsPol : Try.prog.cellsOf 32 = 4 := by kernel_rfl
set_option maxRecDepth 100000 in
theorem open_pol (hv : Value.okWide Try.prog W .any b0 32 v) (h : DataW.Trod enc Try.prog W 0 (fun _ => true) true 32 v d ps) :
    ∃ (p : Cs.Pol) (A : Option Addr) (c : Nat) (B : Option Addr) (e : Nat), v = .agg (polC p A c B e) ∧ WidePol W p A c B e := by
  obtain ⟨v0, v1, v2, v3, y0, y1, y2, y3, m, rfl, _, _, h0, h1, h2, h3⟩ := Joins.open_agg4 Try.underlying32 (by kernel_rfl) cellsPol hv h
  obtain ⟨a, e0, _⟩ := DataW.trod_bool Try.underlying4 h0
  obtain ⟨b, e2, _⟩ := DataW.trod_bool Try.underlying4 h2
  simp only [List.cons.injEq, and_true] at e0 e2
  subst e0; subst e2
  obtain ⟨A, c, l, rfl, hw1, _⟩ := texts_read h1
  obtain ⟨B, e, m, rfl, hw2, _⟩ := texts_read h3
  exact ⟨⟨a, l, b, m⟩, A, c, B, e, rfl, ⟨hw1, hw2⟩⟩
end
theorem strs_one (l : List (List UInt8)) : ∀ u ∈ l.map Oct.strV, u.oneCell' = true := fun u hu => by
  obtain ⟨s, _, rfl⟩ := List.mem_map.1 hu
  rfl
/-- What an append wants of a list of texts that lies somewhere. -/
theorem news_texts {w : World} {A : Option Addr} {n c : Nat} {l : List (List UInt8)} (hn : l.length = n) (hnl : A = none → n = 0 ∧ c = 0) (h : SeenT w A l) : (Value.slice A n c = .slice none 0 0 ∧ n = 0 ∧ l.map Oct.strV = []) ∨ ∃ ad d, Value.slice A n c = .slice (some ad) n d ∧ ∀ j u, (l.map Oct.strV)[j]? = some u → w.cell? (ad.add j) = some u := by
  subst hn
  cases A with
  | none =>
    obtain ⟨h0, rfl⟩ := hnl rfl
    have e0 : l = [] := List.length_eq_zero_iff.1 h0
    subst e0
    exact .inl ⟨rfl, rfl, rfl⟩
  | some ad =>
    refine .inr ⟨ad, c, rfl, fun j u hu => ?_⟩
    have hj : j < l.length := by
      have := (List.getElem?_eq_some_iff.1 hu).1
      simpa using this
    obtain ⟨g, o, e, hg, hc⟩ := h (by omega)
    cases e
    have e2 : u = Oct.strV l[j] := by
      rw [List.getElem?_map, List.getElem?_eq_getElem hj] at hu
      exact (Option.some.inj hu).symm
    have e3 : ((⟨g, o, none⟩ : Addr).add j) = ⟨g, o + j, none⟩ := by unfold Addr.add; split <;> simp_all
    rw [e2, e3]; exact hc j hj
/-- A list of texts of one's own. -/
def OwnT (w : World) (base : Nat) (v : Value) (l : List (List UInt8)) : Prop := w.ownsRow base 9 1 v l.length (l.map Oct.strV)
theorem OwnT.none {w : World} {base B : Nat} (hB : w.heap[B]? = some (.cells #[] 9 (0, 0))) (hb : base ≤ B) : OwnT w base (.slice (some ⟨B, 0, none⟩) 0 0) [] :=
  ⟨by simp, .inr ⟨B, 0, #[], rfl, hb, hB, Nat.le_refl _, by simp [maxLen], by simp, by simp⟩⟩
/-- 'append(a, b...)' of lists of texts, a one's own, b lying somewhere or nil, in a region that draws. -/
theorem step_appT {ops : Array Oper} {o : Oper} {a : Act} {w : World} {K : Act → World → Prop} {Q : Exit → Act → World → Prop} {E : Prop} (hgd : o.guard = none) (s x : Operand)
    (ho : o.op = .call { callee := .builtin .append, args := #[s, x], argTypes := #[23, 23] }) (base : Nat) (v : Value) (la lb : List (List UInt8)) (hs : a.eval s = v) (hown : OwnT w base v la)
    (A : Option Addr) (n c m : Nat) (hx : a.eval x = .slice A n c) (hn : lb.length = n) (hnl : A = Option.none → n = 0 ∧ c = 0) (hA : SeenT w A lb) (hm : la.length + n = m) (h63 : m ≤ maxLen) (hbytes : m * 16 ≤ 140737488355328) (hb : base ≤ w.heap.size)
    (h : ∀ A' c' w', OwnT w' base (.slice A' m c') (la ++ lb) → Below base w w' → K (a.put o.dst (.slice A' m c')) w') :
    if Region.wanted o (yielded ops a.tmps) = true then Oper.wp Try.prog o a w K Q else E := by
  obtain ⟨i0, hi, hz0, hz1, hz2⟩ := info_parts info_string
  subst hn; subst hm
  refine step_append_own hgd s x 23 ho base 9 i0 _ 1 16 Try.underlying23 hi hz0 hz1 hz2 rfl (by decide) v la.length (la.map Oct.strV) hs hown _ hx lb.length (lb.map Oct.strV) (news_texts rfl hnl hA) (by simp) (strs_one lb) h63 hbytes hb ?_
  intro v' w' r1 r2
  have hown' : OwnT w' base v' (la ++ lb) := by
    unfold OwnT
    rw [← List.map_append, ← List.length_append] at r1
    exact r1
  obtain ⟨A', c', rfl, _⟩ := own_cap hown'
  rw [List.length_append] at hown' ⊢
  exact h A' c' w' hown' ((Below.refl base w).grown r2 hb (fun k hk => (hown.lt k hk).1))
end Go.Proofs.Ytnnjfiknfmjliaa
