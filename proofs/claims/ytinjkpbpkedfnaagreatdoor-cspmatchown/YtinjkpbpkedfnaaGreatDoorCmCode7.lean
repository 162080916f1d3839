/- Lists of source expressions in memory; the contract of the program's anyForEach. -/
import Derived.Test.YtinjkpbpkedfnaaGreatDoorCmCode2
import Derived.Test.YtinjkpbpkedfnaaGreatDoorCmCode6
import Derived.Laws.AppendOwnNone
import Derived.Test.YtinjkpbpkedfnaaGreatDoorOctAll
namespace Go.Proofs.YtinjkpbpkedfnaaGreatDoor
open Go.RowKit

theorem info_srcs : (Tryz.prog.info? 24).map (fun i => (i.zero, i.size, i.bytes)) = some (some (.agg #[.int .i64 0, .string ⟨#[]⟩, .string ⟨#[]⟩, .int .i64 0]), 4, 48) := by kernel_rfl
def rowS (l : List Cm.Src) : List Value := l.flatMap fun s => (srcC s).toList
theorem rowS_app (a b : List Cm.Src) : rowS a ++ rowS b = rowS (a ++ b) := by unfold rowS; simp
theorem rowS_one (s : Cm.Src) : rowS [s] = (srcC s).toList := by unfold rowS; simp
theorem rowS_at : ∀ (l : List Cm.Src) (i : Nat) (hi : i < l.length) (j : Nat), j < 4 → (rowS l)[i * 4 + j]? = (srcC l[i])[j]?
  | [], i, hi, _, _ => by simp at hi
  | o :: l, 0, _, j, hj => by
    have e : rowS (o :: l) = (srcC o).toList ++ rowS l := rfl
    rw [e, Nat.zero_mul, Nat.zero_add, List.getElem?_append_left (by simp [srcC]; omega)]
    simp
  | o :: l, i + 1, hi, j, hj => by
    have e : rowS (o :: l) = (srcC o).toList ++ rowS l := rfl
    have ih := rowS_at l i (by simpa using hi) j hj
    rw [e, List.getElem?_append_right (by simp [srcC]; omega)]
    have e2 : (i + 1) * 4 + j - (srcC o).toList.length = i * 4 + j := by simp [srcC]; omega
    rw [e2, ih]; simp
/-- A list of source expressions of one's own. -/
def OwnS (w : World) (base : Nat) (v : Value) (l : List Cm.Src) : Prop := w.ownsRow base 24 4 v l.length (rowS l)
theorem OwnS.nil (w : World) (base : Nat) : OwnS w base (.slice none 0 0) [] := World.ownsRow_nil _ _ _ _
theorem OwnS.below {w w' : World} {base : Nat} {v : Value} {l : List Cm.Src} (h : OwnS w base v l) (hb : Below w.heap.size w w') : OwnS w' base v l := owns_keptT h (KeptT.below hb)
theorem OwnS.slice {w : World} {base : Nat} {v : Value} {l : List Cm.Src} (h : OwnS w base v l) : ∃ A c, v = .slice A l.length c := by
  obtain ⟨_, ⟨h1, h2⟩ | ⟨g, cap, cur, h1, _⟩⟩ := h
  · exact ⟨none, 0, by rw [h1, h2]⟩
  · exact ⟨_, _, h1⟩
/-- A list of source expressions that lies somewhere. -/
def SeenSs (w : World) (A : Option Addr) (l : List Cm.Src) : Prop := 0 < l.length → ∃ g, A = some ⟨g, 0, none⟩ ∧ g < w.heap.size ∧ ∀ i (h : i < l.length), ∀ j, j < 4 → w.cell? ⟨g, i * 4 + j, none⟩ = (srcC l[i])[j]?
theorem SeenSs.below {w w' : World} {A : Option Addr} {l : List Cm.Src} (h : SeenSs w A l) (hb : Below w.heap.size w w') : SeenSs w' A l := fun hn => by
  obtain ⟨g, e, hg, hc⟩ := h hn
  exact ⟨g, e, Nat.lt_of_lt_of_le hg hb.size, fun i hi j hj => (hb.cell (p := ⟨g, i * 4 + j, none⟩) hg).trans (hc i hi j hj)⟩
theorem SeenSs.at {w : World} {g : Nat} {l : List Cm.Src} (h : SeenSs w (some ⟨g, 0, none⟩) l) (i : Nat) (hi : i < l.length) {s : Cm.Src} (hs : l[i] = s) :
    w.cell? ⟨g, i * 4, none⟩ = some (.int .i64 s.kind) ∧ w.cell? ⟨g, i * 4 + 1, none⟩ = some (.string (bA s.scheme)) ∧ w.cell? ⟨g, i * 4 + 2, none⟩ = some (.string (bA s.host)) ∧ w.cell? ⟨g, i * 4 + 3, none⟩ = some (.int .i64 s.port) := by
  subst hs
  obtain ⟨g', e, _, hc⟩ := h (by omega)
  cases e
  exact ⟨hc i hi 0 (by omega), hc i hi 1 (by omega), hc i hi 2 (by omega), hc i hi 3 (by omega)⟩
theorem OwnS.seen {w : World} {base n c : Nat} {A : Option Addr} {l : List Cm.Src} (h : OwnS w base (.slice A n c) l) : SeenSs w A l := fun hn => by
  have hrow := h
  obtain ⟨_, ⟨h1, h2⟩ | ⟨g, cap, cur, h1, hb, hg, _⟩⟩ := h
  · omega
  · cases h1
    refine ⟨g, rfl, (Array.getElem?_eq_some_iff.1 hg).1, fun i hi j hj => ?_⟩
    have hr := rowS_at l i hi j hj
    have hsz : j < (srcC l[i]).size := hj
    obtain ⟨u, hu⟩ : ∃ u, (srcC l[i])[j]? = some u := ⟨_, Array.getElem?_eq_getElem hsz⟩
    rw [hu] at hr ⊢
    have := World.ownsRow.cells hrow (g := g) rfl (i * 4 + j) u hr
    have ea : ((⟨g, 0, Option.none⟩ : Addr).add (i * 4 + j)) = ⟨g, i * 4 + j, Option.none⟩ := by unfold Addr.add; split <;> simp_all
    rw [ea] at this
    exact this
/-- 'append(a, s)' of a list of one's own, the expression laid in a block of its own. -/
theorem wp_appS {ops : Array Oper} {rest : List Oper} {o : Oper} {a : Act} {w : World} {Q : Exit → Act → World → Prop} (hgd : o.guard = none) (s x : Operand)
    (ho : o.op = .call { callee := .builtin .append, args := #[s, x], argTypes := #[87, 87] }) (base : Nat) (v : Value) (l : List Cm.Src) (y : Cm.Src) (hs : a.eval s = v) (hown : OwnS w base v l)
    (g c : Nat) (hx : a.eval x = .slice (some ⟨g, 0, none⟩) 1 c) (hB : CBox w g 24 (srcC y)) (m : Nat) (hm : l.length + 1 = m) (h63 : m ≤ maxLen) (hbytes : m * 48 ≤ 140737488355328) (hb : base ≤ w.heap.size)
    (h : ∀ A' c' w', OwnS w' base (.slice A' m c') (l ++ [y]) → Below base w w' → wpList Tryz.prog ops Q rest (a.put o.dst (.slice A' m c')) w') :
    wpList Tryz.prog ops Q (o :: rest) a w := by
  obtain ⟨i0, hi, hz0, hz1, hz2⟩ := info_parts info_srcs
  subst hm
  refine wpList_append_own _ hgd s x 87 ho base 24 i0 _ 4 48 Tryz.underlying87 hi hz0 hz1 hz2 rfl (by decide) v l.length (rowS l) hs hown ⟨g, 0, none⟩ 1 c (rowS [y]) hx (by rw [rowS_one]; rfl) (fun j u hu => ?_) (fun u hu => ?_) h63 hbytes hb ?_
  · have e : (⟨g, 0, none⟩ : Addr).add j = ⟨g, j, none⟩ := by simp [Addr.add]; omega
    rw [e, hB.c j]
    rw [rowS_one] at hu
    simpa using hu
  · rw [rowS_one] at hu
    simp only [srcC, List.mem_cons, List.not_mem_nil, or_false] at hu
    rcases hu with rfl | rfl | rfl | rfl <;> rfl
  · intro v' w' r1 r2 _
    have hown' : OwnS w' base v' (l ++ [y]) := by
      unfold OwnS
      rw [rowS_app] at r1
      rw [List.length_append]
      exact r1
    obtain ⟨A', c', rfl⟩ := hown'.slice
    rw [List.length_append] at hown' ⊢
    exact h A' c' w' hown' ((Below.refl base w).grown r2 hb (fun k hk => (hown.lt k hk).1))
namespace Cm
theorem parse_sch (t : List UInt8) : (parse t).scheme.length ≤ t.length := by
  have hl : (Oct.lower t).length = t.length := Oct.lower_length t
  have hh : ∀ sch r, (hostS sch r).scheme.length ≤ sch.length := fun sch r => by
    unfold hostS
    simp only []
    split
    · split
      · split
        · exact Nat.le_refl _
        · split
          · exact Nat.le_refl _
          · exact Nat.zero_le _
      · exact Nat.le_refl _
    · exact Nat.zero_le _
  unfold parse parseN
  split
  · simp
  · split
    · simp
    · split
      · show (List.take _ _).length ≤ _
        rw [List.length_take]; omega
      · refine Nat.le_trans (hh _ _) ?_
        split
        · rw [List.length_take]; omega
        · simp
end Cm
theorem fit_parse {t : List UInt8} (h : t.length ≤ 10000) : FitS (Cm.parse t) := ⟨Nat.le_trans (Cm.parse_len t) h, Nat.le_trans (Cm.parse_sch t) (by unfold maxLen; omega)⟩
end Go.Proofs.YtinjkpbpkedfnaaGreatDoor
