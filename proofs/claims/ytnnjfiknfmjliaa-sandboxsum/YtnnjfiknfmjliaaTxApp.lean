/- Lists of texts laid one behind the other, at an operation: nil of any room let in. -/
import Derived.Test.YtnnjfiknfmjliaaTxIn
import Derived.Test.YtnnjfiknfmjliaaOctOut
import Derived.Laws.AppendOwnNone
namespace Go.Proofs.Ytnnjfiknfmjliaa
open Go.RowKit

theorem run_append_empty {P : Program} {w : World} (base : Nat) (t ty e : TypeId) (i : TypeInfo) (size c : Nat) (ht : P.underlying t = some (.slice e)) (hi : P.info? e = some i)
    (v : Value) (n : Nat) (xs : List Value) (hown : w.ownsRow base e size v n xs) :
    (Builtin.append_ #[t, t] ty #[v, .slice none 0 c]).run P w = .ok v w := by
  rcases hown.2 with ⟨rfl, rfl⟩ | ⟨g, cap, cur, rfl, _, _, hnc, _⟩
  · simp [Builtin.append_, run_underlying ht, sizeOf, typeInfo, hi, Builtin.lenOf, Builtin.firstCells]
  · simp [Builtin.append_, run_underlying ht, sizeOf, typeInfo, hi, Builtin.lenOf, Builtin.firstCells, hnc, storeCells]
/-- 'append(a, b...)' of lists of texts, a one's own, b lying somewhere. -/
theorem wp_appT {ops : Array Oper} {rest : List Oper} {o : Oper} {a : Act} {w : World} {Q : Exit → Act → World → Prop} (hgd : o.guard = none) (s x : Operand)
    (ho : o.op = .call { callee := .builtin .append, args := #[s, x], argTypes := #[23, 23] }) (base : Nat) (v : Value) (la lb : List (List UInt8)) (hs : a.eval s = v) (hown : w.ownsRow base 9 1 v la.length (la.map Oct.strV))
    (A : Option Addr) (c : Nat) (hx : a.eval x = .slice A lb.length c) (hA : SeenT w A lb) (h63 : la.length + lb.length ≤ maxLen) (hbytes : (la.length + lb.length) * 16 ≤ 140737488355328) (hb : base ≤ w.heap.size)
    (h : ∀ v' w', w'.ownsRow base 9 1 v' (la ++ lb).length ((la ++ lb).map Oct.strV) → w.grownBy w' v.ownBlock → Below base w w' → wpList Try.prog ops Q rest (a.put o.dst v') w') :
    wpList Try.prog ops Q (o :: rest) a w := by
  obtain ⟨i0, hi, hz0, hz1, hz2⟩ := info_parts info_string
  cases A with
  | none =>
    have h0 : lb.length = 0 := by
      rcases Nat.eq_zero_or_pos lb.length with h | h
      · exact h
      · obtain ⟨g, o, e, _⟩ := hA h; cases e
    have hlb : lb = [] := List.length_eq_zero_iff.1 h0
    subst hlb
    refine wpList_plain hgd fun K hK => ?_
    have hrun := run_append_empty (P := Try.prog) (w := w) base 23 o.type 9 i0 1 c Try.underlying23 hi v _ _ hown
    unfold Oper.wp
    simp only [List.length_nil] at hx
    simp [execOp, ho, resolve, invoke, builtin, hs, hx, hrun, Result.andThen]
    exact hK _ _ (h v w (by rw [List.append_nil]; exact hown) ⟨rfl, rfl, rfl, Nat.le_refl _, fun _ _ _ => rfl⟩ (Below.refl _ _))
  | some ad =>
    refine wpList_append_own _ hgd s x 23 ho base 9 i0 _ 1 16 Try.underlying23 hi hz0 hz1 hz2 rfl (by decide) v _ _ hs hown ad lb.length c (lb.map Oct.strV) hx (by simp) (fun j u hu => ?_) (fun u hu => by obtain ⟨s, _, rfl⟩ := List.mem_map.1 hu; rfl) h63 hbytes hb ?_
    · have hj : j < lb.length := by
        have := (List.getElem?_eq_some_iff.1 hu).1
        simpa using this
      obtain ⟨g, o, e, hg, hc⟩ := hA (by omega)
      cases e
      have e2 : u = Oct.strV lb[j] := by
        rw [List.getElem?_map, List.getElem?_eq_getElem hj] at hu
        exact (Option.some.inj hu).symm
      have e3 : ((⟨g, o, none⟩ : Addr).add j) = ⟨g, o + j, none⟩ := by unfold Addr.add; split <;> simp_all
      rw [e2, e3]; exact hc j hj
    · intro v' w' r1 r2 _
      refine h v' w' (by rw [List.length_append, List.map_append]; exact r1) r2 ((Below.refl base w).grown r2 hb (fun k hk => (hown.lt k hk).1))
end Go.Proofs.Ytnnjfiknfmjliaa
