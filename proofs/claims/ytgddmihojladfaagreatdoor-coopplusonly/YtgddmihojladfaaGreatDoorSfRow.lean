/- Lists of parameters in memory, and the map of their places: laws of worlds and lists. -/
import Derived.Test.YtgddmihojladfaaGreatDoorSfParam
import Derived.Maps.OwnSet
import Derived.Maps.OwnOps
import Derived.Maps.AppendAt
import Derived.Deep.LoopGhost
namespace Go.Proofs.YtgddmihojladfaaGreatDoor
open Go.RowKit Go.Shelf Go.Maps Go.Deep

def parsRow (l : List Sf.Par) : List Value := l.flatMap fun p => (pC p).toList
theorem parsRow_nil : parsRow [] = [] := rfl
theorem parsRow_cons (p : Sf.Par) (l : List Sf.Par) : parsRow (p :: l) = [.string (bA p.key), .int .i64 p.kind, .int .i64 p.n, .string (bA p.text)] ++ parsRow l := rfl
theorem parsRow_snoc (l : List Sf.Par) (p : Sf.Par) : parsRow (l ++ [p]) = parsRow l ++ (pC p).toList := by simp [parsRow]
theorem parsRow_len (l : List Sf.Par) : (parsRow l).length = l.length * 4 := by
  induction l with
  | nil => rfl
  | cons p l ih => rw [parsRow_cons]; simp [ih]; omega
theorem parsRow_at : ∀ (l : List Sf.Par) (i : Nat) (h : i < l.length), (parsRow l)[i * 4]? = some (.string (bA l[i].key)) ∧ (parsRow l)[i * 4 + 1]? = some (.int .i64 l[i].kind) ∧ (parsRow l)[i * 4 + 2]? = some (.int .i64 l[i].n) ∧ (parsRow l)[i * 4 + 3]? = some (.string (bA l[i].text))
  | p :: l, 0, _ => by rw [parsRow_cons]; exact ⟨rfl, rfl, rfl, rfl⟩
  | p :: l, i + 1, h => by
    have ih := parsRow_at l i (by simpa using h)
    rw [parsRow_cons]
    have e0 : (i + 1) * 4 = i * 4 + 4 := by omega
    rw [e0]
    simp only [List.getElem_cons_succ]
    exact ⟨by rw [List.getElem?_append_right (by simp)]; simpa using ih.1, by rw [List.getElem?_append_right (by simp)]; simpa using ih.2.1, by rw [List.getElem?_append_right (by simp)]; simpa using ih.2.2.1, by rw [List.getElem?_append_right (by simp)]; simpa using ih.2.2.2⟩
theorem parsRow_set : ∀ (l : List Sf.Par) (i : Nat) (_ : i < l.length) (p : Sf.Par), ((((parsRow l).set (i * 4) (.string (bA p.key))).set (i * 4 + 1) (.int .i64 p.kind)).set (i * 4 + 2) (.int .i64 p.n)).set (i * 4 + 3) (.string (bA p.text)) = parsRow (l.set i p)
  | q :: l, 0, _, p => by rw [parsRow_cons, List.set_cons_zero, parsRow_cons]; rfl
  | q :: l, i + 1, h, p => by
    have ih := parsRow_set l i (by simpa using h) p
    rw [parsRow_cons, List.set_cons_succ, parsRow_cons, ← ih]
    have e0 : (i + 1) * 4 = i * 4 + 4 := by omega
    rw [e0]
    rfl
theorem own_set {w : World} {base : Nat} {e : TypeId} {size g cap n i : Nat} {xs : List Value} (h : w.ownsRow base e size (.slice (some ⟨g, 0, none⟩) n cap) n xs) (u : Value) :
    (w.setCell ⟨g, i, none⟩ u).ownsRow base e size (.slice (some ⟨g, 0, none⟩) n cap) n (xs.set i u) ∧ w.grownBy (w.setCell ⟨g, i, none⟩ u) (some g) := by
  obtain ⟨h0, ⟨h1, _⟩ | ⟨g', cap', cur, hv, hb, hg, h3, h4, h5, h6⟩⟩ := h
  · cases h1
  · cases hv
    refine ⟨⟨by rw [List.length_set]; exact h0, .inr ⟨g, cap, cur.setIfInBounds i u, rfl, hb, ?_, h3, h4, by rw [Array.size_setIfInBounds]; exact h5, ?_⟩⟩, g_set (g_refl _ _) u (.inr rfl)⟩
    · simp [World.setCell, Array.getElem?_modify, hg]
    · rw [Array.toList_setIfInBounds, List.take_set, h6]
theorem own_cell {w : World} {base : Nat} {e : TypeId} {size g cap n i : Nat} {xs : List Value} (h : w.ownsRow base e size (.slice (some ⟨g, 0, none⟩) n cap) n xs) {u : Value} (hi : xs[i]? = some u) : w.cell? ⟨g, i, none⟩ = some u ∧ w.frozen? ⟨g, i, none⟩ = false := by
  have hc := World.ownsRow.cells h (g := g) rfl i u hi
  refine ⟨by rw [← hc]; congr 1; simp [Addr.add], ?_⟩
  obtain ⟨h0, ⟨h1, _⟩ | ⟨g', cap', cur, hv, hb, hg, h3, h4, h5, h6⟩⟩ := h
  · cases h1
  · cases hv
    simp [World.frozen?, hg]
theorem cells_new (w : World) (cs : Array Value) (t : TypeId) : ∀ j u, cs.toList[j]? = some u → (w.alloc (.cells cs t)).cell? ((⟨w.heap.size, 0, none⟩ : Addr).add j) = some u := by
  intro j u hu
  have hb := CBox.new w t cs
  have : ((⟨w.heap.size, 0, none⟩ : Addr).add j) = ⟨w.heap.size, j, none⟩ := by simp [Addr.add]; omega
  rw [this, hb.c j]
  simpa using hu
theorem info_par : (Tryz.prog.info? 72).map (fun i => (i.zero, i.size, i.bytes)) = some (some (.agg zP), 4, 48) := by kernel_rfl
theorem law_str : Keyed Tryz.prog 9 := string_keyed Tryz.underlying9
theorem zero_int (w : World) : (zeroValue 3).run Tryz.prog w = .ok (.int .i64 0) w := by kernel_rfl
theorem key_str (k : List UInt8) (h : k.length ≤ maxLen) : keyOf Tryz.prog 9 (.string (bA k)) = some (.string k) := by
  have := Go.WideMaps.keyOf_string_mk (P := Tryz.prog) Tryz.underlying9 (s := bA k) h
  simpa using this

/-- The map tells each key's place. -/
structure Places (D : DataW Unit) (ks : List (List UInt8)) : Prop where
  isMap : IsMap D
  yes : ∀ i (h : i < ks.length), Maps.has D (.string ks[i]) = true ∧ D.atKey (.string ks[i]) (.lit (.int .i64 0)) = .lit (.int .i64 i)
  no : ∀ k, k ∉ ks → Maps.has D (.string k) = false
theorem Places.nil : Places (.map []) [] := ⟨isMap_empty, fun i h => by simp at h, fun k _ => rfl⟩
theorem Places.put {D : DataW Unit} {ks : List (List UInt8)} (h : Places D ks) {k : List UInt8} (hk : k ∉ ks) : Places (D.put (.string k) (.lit (.int .i64 ks.length))) (ks ++ [k]) := by
  have hl : WideAt.IsKeyLit (.string k) := by trivial
  refine ⟨h.isMap.put _ _, fun i hi => ?_, fun k' hk' => ?_⟩
  · by_cases he : i < ks.length
    · have e : (ks ++ [k])[i] = ks[i] := List.getElem_append_left he
      have hne : (Lit.string ks[i]) ≠ .string k := by intro e; cases e; exact hk (List.getElem_mem he)
      rw [e, has_put_other hne, atKey_put_other hne]
      exact h.yes i he
    · have e1 : i = ks.length := by simp at hi; omega
      subst e1
      have e : (ks ++ [k])[ks.length]'hi = k := by simp
      rw [e, has_put_same h.isMap hl, atKey_put_same h.isMap hl]
      exact ⟨rfl, rfl⟩
  · simp only [List.mem_append, List.mem_singleton, not_or] at hk'
    rw [has_put_other (by intro e; cases e; exact hk'.2 rfl)]
    exact h.no k' hk'.1
theorem nodup_inj {ks : List (List UInt8)} (hn : ks.Nodup) {i j : Nat} (hi : i < ks.length) (hj : j < ks.length) (h : ks[i] = ks[j]) : i = j := by
  have hn := List.pairwise_iff_getElem.1 hn
  rcases Nat.lt_trichotomy i j with h1 | h1 | h1
  · exact absurd h (hn i j hi hj h1)
  · exact h1
  · exact absurd h.symm (hn j i hj hi h1)
theorem rep_set {l : List Sf.Par} {p : Sf.Par} (hn : (Sf.keys l).Nodup) {i : Nat} (hi : i < l.length) (hk : l[i].key = p.key) : l.map (Sf.rep p) = l.set i p := by
  apply List.ext_getElem (by simp)
  intro j h1 h2
  simp only [List.getElem_map, List.getElem_set]
  have hj : j < l.length := by simpa using h1
  by_cases e : i = j
  · subst e
    rw [if_pos rfl, Sf.rep, if_pos (by rw [hk]; simp)]
  · rw [if_neg e, Sf.rep, if_neg]
    intro he
    have he' : l[j].key = p.key := by simpa using he
    have h3 : (Sf.keys l)[i]'(by simpa [Sf.keys] using hi) = (Sf.keys l)[j]'(by simpa [Sf.keys] using hj) := by simp [Sf.keys, hk, he']
    exact e (nodup_inj hn _ _ h3)
theorem blk_dw (s : List UInt8) : Sf.dw (fun c => c == 32) s = Sf.blk s := by
  unfold Sf.dw Sf.blk
  congr 1
  funext b
  exact beqT (k := 32)
end Go.Proofs.YtgddmihojladfaaGreatDoor
