/- Texts of one layer, joined. -/
import Derived.Test.YtogjekjklknfeaaGreatDoorPkVal
import Derived.Maps.OwnSet
import Derived.Maps.OwnOps
import Derived.Maps.AppendAt
import Derived.Deep.LoopGhost
import Derived.Deep.RegionHeld3
import Derived.RegionDies

/- The contract of a reader's param. -/

namespace Go.Proofs.YtogjekjklknfeaaGreatDoor
open Go.RowKit Go.Shelf

/-- One parameter, behind the blanks. -/
def parOf (s : List UInt8) : Option (Sf.Par × List UInt8) :=
  match Sf.keyOf s with
  | none => none
  | some (k, r) =>
    if r.headD 0 = 61 then
      (match Sf.value (r.drop 1) with
       | none => none
       | some (v, r') => some (⟨k, v.kind, v.n, v.text⟩, r'))
    else some (⟨k, 6, 1, []⟩, r)
theorem one_par (s : List UInt8) : Sf.one s = parOf (Sf.blk s) := rfl
def mapP (o : Option (Sf.Par × List UInt8)) : Option (Value × List UInt8) := o.map fun x => (parV x.1, x.2)
def zP : Array Value := #[.string ⟨#[]⟩, .int .i64 0, .int .i64 0, .string ⟨#[]⟩]
theorem par_no {s : List UInt8} (h : mapK (Sf.keyOf s) = none) : parOf s = none := by
  cases hk : Sf.keyOf s with
  | none => unfold parOf; rw [hk]
  | some x => rw [hk] at h; cases h
theorem key_split {s : List UInt8} {v : Value} {r : List UInt8} (h : mapK (Sf.keyOf s) = some (v, r)) : ∃ k, v = .string (bA k) ∧ Sf.keyOf s = some (k, r) := by
  cases hk : Sf.keyOf s with
  | none => rw [hk] at h; cases h
  | some x => rw [hk] at h; simp only [mapK, Option.map_some, Option.some.injEq, Prod.mk.injEq] at h; exact ⟨x.1, h.1.symm, by rw [← h.2]⟩
theorem val_split {o : Option (Sf.Par × List UInt8)} {v : Value} {r : List UInt8} (h : mapV o = some (v, r)) : ∃ x, v = valV x ∧ o = some (x, r) := by
  cases o with
  | none => cases h
  | some x => simp only [mapV, Option.map_some, Option.some.injEq, Prod.mk.injEq] at h; exact ⟨x.1, h.1.symm, by rw [← h.2]⟩
theorem map_no {o : Option (Sf.Par × List UInt8)} (h : mapV o = none) : o = none := by cases o; rfl; cases h
theorem parOf_plain {s k r : List UInt8} (h : Sf.keyOf s = some (k, r)) (hr : r.head? ≠ some 61) : parOf s = some (⟨k, 6, 1, []⟩, r) := by
  unfold parOf; rw [h]
  have : r.headD 0 ≠ 61 := by cases r <;> simp_all
  simp only [if_neg this]
theorem parOf_val {s k r : List UInt8} (h : Sf.keyOf s = some (k, 61 :: r)) : parOf s = match Sf.value r with | none => none | some (v, r') => some (⟨k, v.kind, v.n, v.text⟩, r') := by
  unfold parOf; rw [h]
  simp only [List.headD_cons, if_true]
  rfl
theorem keyOf_len {s k r : List UInt8} (h : Sf.keyOf s = some (k, r)) : r.length < s.length := by
  obtain ⟨h1, h2, _⟩ := Sf.keyOf_ways h
  have h3 := (Sf.keyB_all h2).2
  have : 0 < k.length := List.length_pos_iff.2 h3
  rw [h1]; simp; omega
theorem below_g {a b : World} (h : Below a.heap.size a b) (row : Option Nat) : a.grownBy b row := ⟨h.os, h.tape, h.output, h.size, fun k hk _ => h.block k hk⟩

set_option maxHeartbeats 1000000 in
theorem param_any (b : Nat) (s : List UInt8) (w : World) (hR : Rd b s w) (hs : s.length ≤ 140737488355300) : Calls Tryz.prog 111 #[.pointer (some ⟨b, 0, none⟩)] w (Got b w (mapP (parOf s))) := by
  have hlt := hR.lt
  have hR0 := hR.alloc (.cells zP 53)
  have H1 := Lib.hid (key_any b s _ hR0 (by omega))
  have hb := Lib.hid (CBox.new w 53 zP)
  obtain ⟨o, ho⟩ : ∃ o, mapP (parOf s) = o := ⟨_, rfl⟩
  rw [ho]
  have HO := Lib.hid ho
  clear hR hR0 ho
  go_enter Tryz.func111, Tryz.ntmps111
  go_wp2_with fail
  refine H1.out.mono ?_
  rintro e w1 ⟨hg1, ⟨v, r, hk, rfl, hr1⟩ | ⟨hk, rfl⟩⟩
  · obtain ⟨k, rfl, hk'⟩ := key_split hk
    have hrl := keyOf_len hk'
    have HK := Lib.hid hk'
    clear hk hk' H1
    go_wp2_with fail
    refine (truthV_any 1 w1).mono ?_
    rintro e w2 ⟨rfl, hb2⟩
    have hg2 := g_trans (World.grownBy_alloc w _ _) (g_trans hg1 (below_g hb2 _))
    have hr2 := hr1.kept (below_g hb2 none) (by simp)
    have hbx := (hb.out.kept hg1 (by simp; omega)).keep hb2
    have hv2 := CBox.new w2 65 (vC (Sf.kv 6 1 []))
    have H2 := Lib.hid (skip_all b 61 61 rfl r _ (hr2.alloc (.cells (vC (Sf.kv 6 1 [])) 65)))
    have hsz : w.heap.size < w2.heap.size := hbx.lt
    have HB := Lib.hid (hbx.alloc (.cells (vC (Sf.kv 6 1 [])) 65))
    have HV := Lib.hid hv2
    have HG := Lib.hid (g_alloc hg2 (.cells (vC (Sf.kv 6 1 [])) 65))
    clear hr2 hg2 hbx hv2 hb2 hg1 hr1 hb
    unfold valV vC
    go_wp2_with fail
    refine H2.out.mono ?_
    rintro e w3 ⟨g, r', rfl, hr3, hg3, hs3⟩
    have HB3 := Lib.hid (HB.out.kept hg3 (by simp; omega))
    have HV3 := Lib.hid (HV.out.kept hg3 (by simp; omega))
    have HG3 := Lib.hid (g_trans HG.out hg3)
    clear hg3 HB HV HG H2
    cases g with
    | false =>
      have hx : r' = r ∧ r.head? ≠ some 61 := by
        rcases hs3.out with ⟨h, _⟩ | ⟨_, h1, h2⟩
        · cases h
        · exact ⟨h1, h2⟩
      obtain ⟨rfl, hx2⟩ := hx
      have hn : o = some (parV ⟨k, 6, 1, []⟩, r') := by rw [← HO.out, parOf_plain HK.out hx2]; rfl
      have HN := Lib.hid hn
      obtain ⟨c0, c1, c2, c3, f0, f1, f2, f3⟩ := HB3.out.all4
      obtain ⟨d0, d1, d2, _, _, _⟩ := HV3.out.all3
      clear hn hx2 hs3
      go_wp2_with fail
      rw [HN.out]
      refine bodyPost_ret (results_par (x := ⟨k, 6, 1, []⟩) rfl _ _ rfl (HB3.out.set4 _ _ _ _)) rfl (Got.ok ?_ ?_)
      · exact g_set4 HG3.out _ _ _ _ (.inl (Nat.le_refl _))
      · exact hr3.other4 (by omega) _ _ _ _
    | true =>
      have hx : r = 61 :: r' := by
        rcases hs3.out with ⟨_, h⟩ | ⟨h, _⟩
        · exact h
        · cases h
      subst hx
      have H4 := Lib.hid (value_any b r' w3 hr3 (by simp at hrl; omega))
      clear hs3 hr3
      go_wp2_with fail
      refine H4.out.mono ?_
      rintro e w4 ⟨hg4, ⟨v, r2, hv, rfl, hr4⟩ | ⟨hv, rfl⟩⟩
      · obtain ⟨x, rfl, hv'⟩ := val_split hv
        have hn : o = some (parV ⟨k, x.kind, x.n, x.text⟩, r2) := by rw [← HO.out, parOf_val HK.out, hv']; rfl
        have HN := Lib.hid hn
        have HB4 := Lib.hid (HB3.out.kept hg4 (by simp; omega))
        have HV4 := Lib.hid (HV3.out.kept hg4 (by simp; omega))
        have HG4 := Lib.hid (g_trans HG3.out hg4)
        obtain ⟨c0, c1, c2, c3, f0, f1, f2, f3⟩ := HB4.out.all4
        obtain ⟨d0, d1, d2, e0, e1, e2⟩ := HV4.out.all3
        have hne : ¬ w2.heap.size = w.heap.size := by omega
        have hne' : ¬ w.heap.size = w2.heap.size := by omega
        clear hn hv hv' hg4 HB3 HV3 HG3 H4
        unfold valV vC
        go_wp2_with fail
        rw [HN.out]
        refine bodyPost_ret (results_par (x := ⟨k, x.kind, x.n, x.text⟩) rfl _ _ rfl ((HB4.out.other3 hne _ _ _).set4 _ _ _ _)) rfl (Got.ok ?_ ?_)
        · exact g_set4 (g_set3 HG4.out _ _ _ (.inl (by omega))) _ _ _ _ (.inl (Nat.le_refl _))
        · exact (hr4.other3 (by omega) _ _ _).other4 (by omega) _ _ _ _
      · have hn : o = none := by rw [← HO.out, parOf_val HK.out, map_no hv]; rfl
        have HN := Lib.hid hn
        clear hn hv
        go_wp2_with fail
        refine ⟨rfl, ?_⟩
        rw [HN.out]
        exact Got.no (g_trans HG3.out hg4)
  · have hn : o = none := by rw [← HO.out, par_no hk]; rfl
    have HN := Lib.hid hn
    clear hn hk
    go_wp2_with fail
    refine ⟨rfl, ?_⟩
    rw [HN.out]
    exact Got.no (g_trans (World.grownBy_alloc w _ _) hg1)
end Go.Proofs.YtogjekjklknfeaaGreatDoor

/- Lists of parameters in memory, and the map of their places: laws of worlds and lists. -/

namespace Go.Proofs.YtogjekjklknfeaaGreatDoor
open Go.RowKit Go.Shelf Go.Maps Go.Deep

def parsRow (l : List Sf.Par) : List Value := l.flatMap fun p => (pC p).toList
theorem parsRow_nil : parsRow [] = [] := rfl
theorem parsRow_cons (p : Sf.Par) (l : List Sf.Par) : parsRow (p :: l) = [.string (bA p.key), .int .i64 p.kind, .int .i64 p.n, .string (bA p.text)] ++ parsRow l := rfl
theorem parsRow_snoc (l : List Sf.Par) (p : Sf.Par) : parsRow (l ++ [p]) = parsRow l ++ (pC p).toList := by simp [parsRow]
theorem parsRow_len (l : List Sf.Par) : (parsRow l).length = l.length * 4 := by
  induction l with
  | nil => rfl
  | cons p l ih => rw [parsRow_cons]; simp [ih]; omega
theorem parsRow_at : ∀ (l : List Sf.Par) (i : Nat) (h : i < l.length), (parsRow l)[i * 4]? = some (.string (bA l[i].key)) ∧ (parsRow l)[i * 4 + 1]? = some (.int .i64 l[i].kind) ∧ (parsRow l)[i * 4 + 2]? = some (.int .i64 l[i].n) ∧ (parsRow l)[i * 4 + 3]? = some (.string (bA l[i].text))
  | p :: l, 0, _ => by rw [parsRow_cons]; exact ⟨rfl, rfl, rfl, rfl⟩
  | p :: l, i + 1, h => by
    have ih := parsRow_at l i (by simpa using h)
    rw [parsRow_cons]
    have e0 : (i + 1) * 4 = i * 4 + 4 := by omega
    rw [e0]
    simp only [List.getElem_cons_succ]
    exact ⟨by rw [List.getElem?_append_right (by simp)]; simpa using ih.1, by rw [List.getElem?_append_right (by simp)]; simpa using ih.2.1, by rw [List.getElem?_append_right (by simp)]; simpa using ih.2.2.1, by rw [List.getElem?_append_right (by simp)]; simpa using ih.2.2.2⟩
theorem parsRow_set : ∀ (l : List Sf.Par) (i : Nat) (_ : i < l.length) (p : Sf.Par), ((((parsRow l).set (i * 4) (.string (bA p.key))).set (i * 4 + 1) (.int .i64 p.kind)).set (i * 4 + 2) (.int .i64 p.n)).set (i * 4 + 3) (.string (bA p.text)) = parsRow (l.set i p)
  | q :: l, 0, _, p => by rw [parsRow_cons, List.set_cons_zero, parsRow_cons]; rfl
  | q :: l, i + 1, h, p => by
    have ih := parsRow_set l i (by simpa using h) p
    rw [parsRow_cons, List.set_cons_succ, parsRow_cons, ← ih]
    have e0 : (i + 1) * 4 = i * 4 + 4 := by omega
    rw [e0]
    rfl
theorem own_set {w : World} {base : Nat} {e : TypeId} {size g cap n i : Nat} {xs : List Value} (h : w.ownsRow base e size (.slice (some ⟨g, 0, none⟩) n cap) n xs) (u : Value) :
    (w.setCell ⟨g, i, none⟩ u).ownsRow base e size (.slice (some ⟨g, 0, none⟩) n cap) n (xs.set i u) ∧ w.grownBy (w.setCell ⟨g, i, none⟩ u) (some g) := by
  obtain ⟨h0, ⟨h1, _⟩ | ⟨g', cap', cur, hv, hb, hg, h3, h4, h5, h6⟩⟩ := h
  · cases h1
  · cases hv
    refine ⟨⟨by rw [List.length_set]; exact h0, .inr ⟨g, cap, cur.setIfInBounds i u, rfl, hb, ?_, h3, h4, by rw [Array.size_setIfInBounds]; exact h5, ?_⟩⟩, g_set (g_refl _ _) u (.inr rfl)⟩
    · simp [World.setCell, Array.getElem?_modify, hg]
    · rw [Array.toList_setIfInBounds, List.take_set, h6]
theorem own_cell {w : World} {base : Nat} {e : TypeId} {size g cap n i : Nat} {xs : List Value} (h : w.ownsRow base e size (.slice (some ⟨g, 0, none⟩) n cap) n xs) {u : Value} (hi : xs[i]? = some u) : w.cell? ⟨g, i, none⟩ = some u ∧ w.frozen? ⟨g, i, none⟩ = false := by
  have hc := World.ownsRow.cells h (g := g) rfl i u hi
  refine ⟨by rw [← hc]; congr 1; simp [Addr.add], ?_⟩
  obtain ⟨h0, ⟨h1, _⟩ | ⟨g', cap', cur, hv, hb, hg, h3, h4, h5, h6⟩⟩ := h
  · cases h1
  · cases hv
    simp [World.frozen?, hg]
theorem cells_new (w : World) (cs : Array Value) (t : TypeId) : ∀ j u, cs.toList[j]? = some u → (w.alloc (.cells cs t)).cell? ((⟨w.heap.size, 0, none⟩ : Addr).add j) = some u := by
  intro j u hu
  have hb := CBox.new w t cs
  have : ((⟨w.heap.size, 0, none⟩ : Addr).add j) = ⟨w.heap.size, j, none⟩ := by simp [Addr.add]; omega
  rw [this, hb.c j]
  simpa using hu
theorem info_par : (Tryz.prog.info? 53).map (fun i => (i.zero, i.size, i.bytes)) = some (some (.agg zP), 4, 48) := by kernel_rfl
theorem law_str : Keyed Tryz.prog 9 := string_keyed Tryz.underlying9
theorem zero_int (w : World) : (zeroValue 3).run Tryz.prog w = .ok (.int .i64 0) w := by kernel_rfl
theorem key_str (k : List UInt8) (h : k.length ≤ maxLen) : keyOf Tryz.prog 9 (.string (bA k)) = some (.string k) := by
  have := Go.WideMaps.keyOf_string_mk (P := Tryz.prog) Tryz.underlying9 (s := bA k) h
  simpa using this

/-- The map tells each key's place. -/
structure Places (D : DataW Unit) (ks : List (List UInt8)) : Prop where
  isMap : IsMap D
  yes : ∀ i (h : i < ks.length), Maps.has D (.string ks[i]) = true ∧ D.atKey (.string ks[i]) (.lit (.int .i64 0)) = .lit (.int .i64 i)
  no : ∀ k, k ∉ ks → Maps.has D (.string k) = false
theorem Places.nil : Places (.map []) [] := ⟨isMap_empty, fun i h => by simp at h, fun k _ => rfl⟩
theorem Places.put {D : DataW Unit} {ks : List (List UInt8)} (h : Places D ks) {k : List UInt8} (hk : k ∉ ks) : Places (D.put (.string k) (.lit (.int .i64 ks.length))) (ks ++ [k]) := by
  have hl : WideAt.IsKeyLit (.string k) := by trivial
  refine ⟨h.isMap.put _ _, fun i hi => ?_, fun k' hk' => ?_⟩
  · by_cases he : i < ks.length
    · have e : (ks ++ [k])[i] = ks[i] := List.getElem_append_left he
      have hne : (Lit.string ks[i]) ≠ .string k := by intro e; cases e; exact hk (List.getElem_mem he)
      rw [e, has_put_other hne, atKey_put_other hne]
      exact h.yes i he
    · have e1 : i = ks.length := by simp at hi; omega
      subst e1
      have e : (ks ++ [k])[ks.length]'hi = k := by simp
      rw [e, has_put_same h.isMap hl, atKey_put_same h.isMap hl]
      exact ⟨rfl, rfl⟩
  · simp only [List.mem_append, List.mem_singleton, not_or] at hk'
    rw [has_put_other (by intro e; cases e; exact hk'.2 rfl)]
    exact h.no k' hk'.1
theorem nodup_inj {ks : List (List UInt8)} (hn : ks.Nodup) {i j : Nat} (hi : i < ks.length) (hj : j < ks.length) (h : ks[i] = ks[j]) : i = j := by
  have hn := List.pairwise_iff_getElem.1 hn
  rcases Nat.lt_trichotomy i j with h1 | h1 | h1
  · exact absurd h (hn i j hi hj h1)
  · exact h1
  · exact absurd h.symm (hn j i hj hi h1)
theorem rep_set {l : List Sf.Par} {p : Sf.Par} (hn : (Sf.keys l).Nodup) {i : Nat} (hi : i < l.length) (hk : l[i].key = p.key) : l.map (Sf.rep p) = l.set i p := by
  apply List.ext_getElem (by simp)
  intro j h1 h2
  simp only [List.getElem_map, List.getElem_set]
  have hj : j < l.length := by simpa using h1
  by_cases e : i = j
  · subst e
    rw [if_pos rfl, Sf.rep, if_pos (by rw [hk]; simp)]
  · rw [if_neg e, Sf.rep, if_neg]
    intro he
    have he' : l[j].key = p.key := by simpa using he
    have h3 : (Sf.keys l)[i]'(by simpa [Sf.keys] using hi) = (Sf.keys l)[j]'(by simpa [Sf.keys] using hj) := by simp [Sf.keys, hk, he']
    exact e (nodup_inj hn _ _ h3)
theorem blk_dw (s : List UInt8) : Sf.dw (fun c => c == 32) s = Sf.blk s := by
  unfold Sf.dw Sf.blk
  congr 1
  funext b
  exact beqT (k := 32)
end Go.Proofs.YtogjekjklknfeaaGreatDoor

/- The contract of a reader's params. -/

namespace Go.Proofs.YtogjekjklknfeaaGreatDoor
open Go.RowKit Go.Shelf Go.Maps Go.Deep

/-- What reading parameters comes to. -/
def GotL (b : Nat) (w : World) (o : Option (List Sf.Par × List UInt8)) (e : Ending) (w' : World) : Prop :=
  w.grownBy w' (some b) ∧ ((∃ l r v, o = some (l, r) ∧ e = .returned v ∧ Rd b r w' ∧ w'.ownsRow w.heap.size 53 4 v l.length (parsRow l)) ∨ (o = none ∧ e = .panicked [fault]))
theorem GotL.no {b : Nat} {w w' : World} (hg : w.grownBy w' (some b)) : GotL b w none (.panicked [fault]) w' := ⟨hg, .inr ⟨rfl, rfl⟩⟩

structure PInv (w : World) (b : Nat) (s : List UInt8) (k : Nat) (v : Value) (wr : World) (acc : List Sf.Par) (rest : List UInt8) (D : DataW Unit) : Prop where
  k : rest.length = k
  len : acc.length + rest.length ≤ s.length
  row : wr.ownsRow (w.heap.size + 1) 53 4 v acc.length (parsRow acc)
  map : wr.ownsMap Tryz.prog 9 (plainElem Tryz.prog 3) w.heap.size acc.length D
  places : Places D (Sf.keys acc)
  rd : Rd b rest wr
  g : w.grownBy wr (some b)
  sz : w.heap.size + 1 ≤ wr.heap.size
  nodup : (Sf.keys acc).Nodup
  eq : Sf.parsF (rest.length + 1) acc rest = Sf.pars s
theorem slice4 {w : World} {base : Nat} {e : TypeId} {v : Value} {n : Nat} {xs : List Value} (h : w.ownsRow base e 4 v n xs) : ∃ a cap, v = .slice a n cap := by
  obtain ⟨_, ⟨h1, h2⟩ | ⟨g, cap, _, hv, _⟩⟩ := h
  · exact ⟨none, 0, by rw [h1, h2]⟩
  · exact ⟨_, _, hv⟩
theorem not_own4 {w : World} {base : Nat} {e : TypeId} {v : Value} {n b : Nat} {xs : List Value} (h : w.ownsRow base e 4 v n xs) (hb : b < base) : v.ownBlock = none ∨ v.ownBlock ≠ some b := by
  cases hv : v.ownBlock with
  | none => exact .inl rfl
  | some k => exact .inr (by intro e; have := (h.lt k hv).1; cases e; omega)
theorem own_ne4 {w : World} {base : Nat} {e : TypeId} {v : Value} {n b : Nat} {xs : List Value} (h : w.ownsRow base e 4 v n xs) (hb : b < base) : some b ≠ v.ownBlock := by
  intro e; have := (h.lt b e.symm).1; omega
theorem owns_base4 {w : World} {base base' : Nat} {e : TypeId} {size : Nat} {v : Value} {n : Nat} {xs : List Value} (h : w.ownsRow base e size v n xs) (hb : base' ≤ base) : w.ownsRow base' e size v n xs := by
  obtain ⟨h1, h2 | ⟨g, cap, cur, a, b, c⟩⟩ := h
  · exact ⟨h1, .inl h2⟩
  · exact ⟨h1, .inr ⟨g, cap, cur, a, by omega, c⟩⟩
theorem keys_set {l : List Sf.Par} {p : Sf.Par} {i : Nat} (hi : i < l.length) (hk : l[i].key = p.key) : Sf.keys (l.set i p) = Sf.keys l := by
  unfold Sf.keys
  apply List.ext_getElem (by simp)
  intro j h1 h2
  simp only [List.getElem_map, List.getElem_set]
  split
  · rename_i e; subst e; exact hk.symm
  · rfl
theorem put_is {l : List Sf.Par} {p : Sf.Par} (hn : (Sf.keys l).Nodup) {i : Nat} (hi : i < l.length) (hk : l[i].key = p.key) : Sf.put l p = l.set i p := by
  rw [Sf.put_old (by rw [← hk]; exact List.mem_map_of_mem (List.getElem_mem hi)), rep_set hn hi hk]
theorem pars_stop {acc : List Sf.Par} {rest : List UInt8} (f : Nat) (h : rest.head? ≠ some 59) : Sf.parsF (f + 1) acc rest = some (acc, rest) := by
  rw [Sf.parsF_succ, if_neg]
  cases rest <;> simp_all
theorem pars_step {acc : List Sf.Par} {t r : List UInt8} {p : Sf.Par} (h : parOf (Sf.blk t) = some (p, r)) : Sf.parsF ((59 :: t).length + 1) acc (59 :: t) = Sf.parsF (r.length + 1) (Sf.put acc p) r := by
  have h' : Sf.one t = some (p, r) := h
  have hl := Sf.one_len h'
  rw [Sf.parsF_succ, if_pos (show (59 :: t).headD 0 = 59 from rfl)]
  simp only [List.drop_succ_cons, List.drop_zero, h']
  exact Sf.parsF_fuel _ _ _ _ (by simp; omega) (by omega)
theorem pars_none {acc : List Sf.Par} {t : List UInt8} (h : parOf (Sf.blk t) = none) : Sf.parsF ((59 :: t).length + 1) acc (59 :: t) = none := by
  have h' : Sf.one t = none := h
  rw [Sf.parsF_succ, if_pos (show (59 :: t).headD 0 = 59 from rfl)]
  simp only [List.drop_succ_cons, List.drop_zero, h']
theorem par_split {o : Option (Sf.Par × List UInt8)} {v : Value} {r : List UInt8} (h : mapP o = some (v, r)) : ∃ x, v = parV x ∧ o = some (x, r) := by
  cases o with
  | none => cases h
  | some x => simp only [mapP, Option.map_some, Option.some.injEq, Prod.mk.injEq] at h; exact ⟨x.1, h.1.symm, by rw [← h.2]⟩
theorem mapP_no {o : Option (Sf.Par × List UInt8)} (h : mapP o = none) : o = none := by cases o; rfl; cases h
theorem blk_len (s : List UInt8) : (Sf.blk s).length ≤ s.length := by
  obtain ⟨z, hz, _⟩ := Sf.blk_cut s
  have := congrArg List.length hz
  simp at this; omega
theorem par_key_len {s r : List UInt8} {p : Sf.Par} (h : parOf s = some (p, r)) : p.key.length ≤ s.length := by
  unfold parOf at h
  cases hk : Sf.keyOf s with
  | none => rw [hk] at h; cases h
  | some x =>
    obtain ⟨k, r0⟩ := x
    have hw := (Sf.keyOf_ways hk).1
    have hl : k.length ≤ s.length := by rw [hw]; simp
    rw [hk] at h
    simp only at h
    split at h
    · split at h
      · cases h
      · simp only [Option.some.injEq, Prod.mk.injEq] at h; rw [← h.1]; exact hl
    · simp only [Option.some.injEq, Prod.mk.injEq] at h; rw [← h.1]; exact hl

set_option maxHeartbeats 4000000 in
set_option maxRecDepth 100000 in
theorem params_any (b : Nat) (s : List UInt8) (w : World) (hR : Rd b s w) (hs : s.length ≤ 1000000) : Calls Tryz.prog 82 #[.pointer (some ⟨b, 0, none⟩)] w (GotL b w (Sf.pars s)) := by
  have hlt := hR.lt
  have hmm := @run_makeMap Tryz.prog
  have hst : PInv w b s s.length (.slice none 0 0) (w.alloc (.map #[] 0)) [] s (.map []) :=
    ⟨rfl, by simp, World.ownsRow_nil _ _ _ _, World.ownsMap_made _ _ _ _, Places.nil, hR.alloc _, World.grownBy_alloc _ _ _, by simp, List.nodup_nil, rfl⟩
  have HS := Lib.hid hst
  obtain ⟨o, ho⟩ : ∃ o, Sf.pars s = o := ⟨_, rfl⟩
  rw [ho]
  have HO := Lib.hid ho
  obtain ⟨i0, hi, hz0, hz1, hz2⟩ := info_parts info_par
  have HI := Lib.hid hi; have HZ0 := Lib.hid hz0; have HZ1 := Lib.hid hz1; have HZ2 := Lib.hid hz2
  clear hi hz0 hz1 hz2 ho hst hR
  go_enter Tryz.func82, Tryz.ntmps82
  go_wp2_with fail
  go_loopg [3] s.length (fun k v wr => ∃ acc rest D, PInv w b s k v wr acc rest D)
  case atStart => exact ⟨_, _, _, HS.out⟩
  case round =>
    obtain ⟨acc, rest, D, hI⟩ := hrel
    obtain ⟨va, vc, rfl⟩ := slice4 hI.row
    have hlen := hI.len
    have hsz := hI.sz
    have HV := Lib.hid hI
    clear hI HS hmm
    by_cases h59 : rest.head? = some 59
    · obtain ⟨t, rfl⟩ : ∃ t, rest = 59 :: t := by
        cases rest with
        | nil => cases h59
        | cons c t => simp at h59; exact ⟨t, by rw [h59]⟩
      clear h59
      have H1 := Lib.hid (skip_yes b 59 59 rfl t wr HV.out.rd)
      go_wp2_with fail
      refine H1.out.mono ?_
      rintro e w1 ⟨rfl, hR1, hg1⟩
      have H2 := Lib.hid (take_any _ _ tellsSpace b t w1 hR1 (by simp at hlen; omega))
      clear H1 hR1
      go_wp2_with fail
      refine H2.out.mono ?_
      rintro e w2 ⟨rfl, hR2, hg2⟩
      rw [blk_dw] at hR2
      have hbl := blk_len t
      have H3 := Lib.hid (param_any b (Sf.blk t) w2 hR2 (by simp at hlen; omega))
      have HG2 := Lib.hid (g_trans hg1 hg2)
      clear H2 hR2 hg1 hg2
      go_wp2_with fail
      refine H3.out.mono ?_
      rintro e w3 ⟨hg3, ⟨v, r, hv, rfl, hr3⟩ | ⟨hv, rfl⟩⟩
      · obtain ⟨p, rfl, hp⟩ := par_split hv
        have hkl := par_key_len hp
        have hrl : r.length < (59 :: t).length := by have := Sf.one_len (show Sf.one t = some (p, r) from hp); simp; omega
        have HE := Lib.hid (pars_step (acc := acc) hp)
        have hg := g_trans HG2.out hg3
        have HB := Lib.hid (CBox.new w3 53 (pC p))
        have HR3 := Lib.hid (hr3.alloc (.cells (pC p) 53))
        have HG3 := Lib.hid (g_alloc (g_trans HV.out.g hg) (.cells (pC p) 53))
        have HW3 := Lib.hid ((HV.out.row.kept hg (not_own4 HV.out.row (by omega))).alloc (.cells (pC p) 53))
        have hsz3 := Nat.le_trans hsz hg.size
        have hmap : (w3.alloc (.cells (pC p) 53)).ownsMap Tryz.prog 9 (plainElem Tryz.prog 3) w.heap.size acc.length D := (HV.out.map.kept hg (by simp; omega)).alloc _
        have HM := Lib.hid hmap
        have HKL := Lib.hid (key_str p.key (by unfold maxLen; simp at hlen; omega))
        clear hg hg3 hr3 hv hp H3 HG2 hmap
        by_cases hmem : p.key ∈ Sf.keys acc
        · obtain ⟨i, hi, hik⟩ := List.getElem_of_mem hmem
          have hpl := HV.out.places.yes i hi
          rw [hik] at hpl
          have HPL := Lib.hid hpl
          have hia : i < acc.length := by simpa [Sf.keys] using hi
          have HIK : Hid (acc[i].key = p.key) := Lib.hid (by simpa [Sf.keys] using hik)
          obtain ⟨g, rfl⟩ : ∃ g, va = some ⟨g, 0, none⟩ := by
            obtain ⟨_, ⟨h1, h2⟩ | ⟨g, cap, _, h1, _⟩⟩ := HW3.out
            · omega
            · cases h1; exact ⟨g, rfl⟩
          clear hpl hi hik hmem
          unfold parV pC
          go_wp2_with (at_lookup; refine wpList_lookup_own_ok_int _ rfl _ _ 79 rfl 9 3 .i64 law_str Tryz.underlying79 Tryz.underlying3 (zero_int _) w.heap.size acc.length D rfl HM.out _ _ rfl HKL.out ?_)
          intro c hat _
          rw [HPL.out.1]
          obtain rfl : c = (i : Int) := by have := HPL.out.2.symm.trans hat; injection this with h; injection h with _ h; exact h.symm
          clear hat
          obtain ⟨w5, hw5⟩ : ∃ w5, w3.alloc (.cells (pC p) 53) = w5 := ⟨_, rfl⟩
          rw [hw5] at HB HR3 HG3 HW3 HM
          have hw5' : w3.alloc (.cells #[.string (bA p.key), .int .i64 p.kind, .int .i64 p.n, .string (bA p.text)] 53) = w5 := hw5
          rw [hw5']
          clear hw5 hw5'
          obtain ⟨c0, c1, c2, c3, _, _, _, _⟩ := HB.out.all4
          have hrow := parsRow_at acc i hia
          obtain ⟨d0, f0⟩ := own_cell HW3.out hrow.1
          obtain ⟨d1, f1⟩ := own_cell HW3.out hrow.2.1
          obtain ⟨d2, f2⟩ := own_cell HW3.out hrow.2.2.1
          obtain ⟨d3, f3⟩ := own_cell HW3.out hrow.2.2.2
          have hcap : acc.length ≤ vc := by
            obtain ⟨_, ⟨h1, h2⟩ | ⟨g', cap, _, h1, _, _, h2, _⟩⟩ := HW3.out
            · cases h1
            · cases h1; exact h2
          clear hrow
          go_wp2_with fail
          go_roundg r.length
          case measure => have := HV.out.k; omega
          case rel =>
            obtain ⟨r0, g0⟩ := own_set HW3.out (i := i * 4) (.string (bA p.key))
            obtain ⟨r1, g1⟩ := own_set r0 (i := i * 4 + 1) (.int .i64 p.kind)
            obtain ⟨r2, g2⟩ := own_set r1 (i := i * 4 + 2) (.int .i64 p.n)
            obtain ⟨r3, g3⟩ := own_set r2 (i := i * 4 + 3) (.string (bA p.text))
            have hg := g_trans g0 (g_trans g1 (g_trans g2 g3))
            rw [parsRow_set acc i hia p] at r3
            have hgb : w.heap.size + 1 ≤ g := (HW3.out.lt g rfl).1
            have hkeys := keys_set hia HIK.out
            have hsz5 : w.heap.size + 1 ≤ w5.heap.size := by have := (HW3.out.lt g rfl).2; omega
            have hl : (acc.set i p).length = acc.length := List.length_set
            refine ⟨acc.set i p, r, D, ?_⟩
            exact { k := rfl
                    len := by rw [hl]; simp at hrl hlen; omega
                    row := by rw [hl]; exact r3
                    map := by rw [hl]; exact HM.out.kept hg (by simp; omega)
                    places := by rw [hkeys]; exact HV.out.places
                    rd := HR3.out.kept hg (by simp; omega)
                    g := g_row HG3.out hg (fun j hj => by cases hj; omega)
                    sz := Nat.le_trans hsz5 hg.size
                    nodup := by rw [hkeys]; exact HV.out.nodup
                    eq := by rw [← put_is HV.out.nodup hia HIK.out, ← HE.out]; exact HV.out.eq }
        · have hpl := HV.out.places.no p.key hmem
          have HPL := Lib.hid hpl
          have HMEM := Lib.hid hmem
          clear hpl hmem
          unfold parV pC
          go_wp2_with (at_lookup; refine wpList_lookup_own_ok_int _ rfl _ _ 79 rfl 9 3 .i64 law_str Tryz.underlying79 Tryz.underlying3 (zero_int _) w.heap.size acc.length D rfl HM.out _ _ rfl HKL.out ?_)
          intro c hat _
          rw [HPL.out]
          clear hat
          obtain ⟨w5, hw5⟩ : ∃ w5, w3.alloc (.cells (pC p) 53) = w5 := ⟨_, rfl⟩
          have hsz5 : w3.heap.size < w5.heap.size := by rw [← hw5]; simp
          rw [hw5] at HB HR3 HG3 HW3 HM
          have hw5' : w3.alloc (.cells #[.string (bA p.key), .int .i64 p.kind, .int .i64 p.n, .string (bA p.text)] 53) = w5 := hw5
          rw [hw5']
          clear hw5 hw5'
          obtain ⟨c0, c1, c2, c3, _, _, _, _⟩ := HB.out.all4
          go_wp2_with (at_mapUpdate; refine wpList_mapUpdate_own _ rfl _ _ _ 79 rfl 9 3 law_str Tryz.underlying79 _ w.heap.size acc.length D rfl HM.out ?_ _ _ _ rfl rfl HKL.out _ [] (plainElem_int Tryz.underlying3 (WalkArith.wf_i64 (by omega))) ?_)
          · unfold maxLen; omega
          intro w6 hown6 hg6
          have HB6 := Lib.hid (HB.out.kept hg6 (by simp; omega))
          have HR6 := Lib.hid (HR3.out.kept hg6 (by simp; omega))
          have HG6 := Lib.hid (g_row HG3.out hg6 (fun j hj => by cases hj; omega))
          have HW6 := Lib.hid (HW3.out.kept hg6 (not_own4 HW3.out (by omega)))
          have HM6 := Lib.hid hown6
          have hsz6 := Nat.le_trans hsz5 hg6.size
          clear hown6 hg6 c0 c1 c2 c3 HB HR3 HG3 HW3 HM
          obtain ⟨c0, c1, c2, c3, _, _, _, _⟩ := HB6.out.all4
          go_wp2_with (at_builtin; refine wpList_append_own _ rfl _ _ 33 rfl (w.heap.size + 1) 53 i0 (.agg zP) 4 48 Tryz.underlying33 HI.out HZ0.out HZ1.out HZ2.out rfl (by decide) _ _ _ rfl (HW6.out.alloc _) ⟨w6.heap.size, 0, none⟩ 1 1 [.string (bA p.key), .int .i64 p.kind, .int .i64 p.n, .string (bA p.text)] rfl rfl (cells_new _ #[.string (bA p.key), .int .i64 p.kind, .int .i64 p.n, .string (bA p.text)] _) ?_ ?_ ?_ ?_ ?_)
          · intro u hu; simp at hu; rcases hu with rfl | rfl | rfl | rfl <;> rfl
          · unfold maxLen; omega
          · omega
          · simp; omega
          intro v' w7 hown7 hg7 _
          obtain ⟨va7, vc7, rfl⟩ := slice4 hown7
          go_wp2_with fail
          go_roundg r.length
          case measure => have := HV.out.k; omega
          case rel =>
            have hl : (acc ++ [p]).length = acc.length + 1 := by simp
            have hkk : Sf.keys (acc ++ [p]) = Sf.keys acc ++ [p.key] := by simp [Sf.keys]
            have hkl2 : (Sf.keys acc).length = acc.length := by simp [Sf.keys]
            refine ⟨acc ++ [p], r, D.put (.string p.key) (.lit (.int .i64 acc.length)), ?_⟩
            exact { k := rfl
                    len := by rw [hl]; simp at hrl hlen; omega
                    row := by rw [hl, parsRow_snoc]; exact hown7
                    map := by rw [hl]; exact (HM6.out.alloc _).kept hg7 (own_ne4 HW6.out (by omega))
                    places := by rw [hkk, ← hkl2]; exact HV.out.places.put HMEM.out
                    rd := (HR6.out.alloc _).kept hg7 (own_ne4 HW6.out (by omega))
                    g := g_row (g_alloc HG6.out _) hg7 (fun j hj => by have := (HW6.out.lt j hj).1; omega)
                    sz := by have := hg7.size; simp at this; omega
                    nodup := by rw [hkk, List.nodup_append]; exact ⟨HV.out.nodup, by simp, by intro a ha b hb; simp at hb; subst hb; intro e; subst e; exact HMEM.out ha⟩
                    eq := by rw [← Sf.put_new HMEM.out, ← HE.out]; exact HV.out.eq }
      · have hn : o = none := by rw [← HO.out, ← HV.out.eq, pars_none (mapP_no hv)]
        have HN := Lib.hid hn
        clear hn hv
        go_wp2_with fail
        refine ⟨rfl, ?_⟩
        rw [HN.out]
        exact GotL.no (g_trans HV.out.g (g_trans HG2.out hg3))
    · have hn : o = some (acc, rest) := by rw [← HO.out, ← HV.out.eq, pars_stop _ h59]
      have HN := Lib.hid hn
      have H1 : Hid (Calls Tryz.prog 109 #[.pointer (some ⟨b, 0, none⟩), .int .u8 59] wr fun e w' => e = .returned (.bool false) ∧ wr = w') := by
        cases rest with
        | nil => exact skip_nil b 59 wr HV.out.rd
        | cons c t => exact skip_off b 59 c (byte_ne (c := 59) (by simpa using h59)) t wr HV.out.rd
      clear hn h59
      go_wp2_with fail
      refine H1.out.mono ?_
      rintro e w2 ⟨rfl, rfl⟩
      go_wp2_with fail
      go_ret
      rw [HN.out]
      exact ⟨HV.out.g, .inl ⟨acc, rest, _, rfl, rfl, HV.out.rd, owns_base4 HV.out.row (by omega)⟩⟩
end Go.Proofs.YtogjekjklknfeaaGreatDoor

/- The contract of a reader's item. -/

namespace Go.Proofs.YtogjekjklknfeaaGreatDoor
open Go.RowKit Go.Shelf Go.Maps Go.Deep

/-- What reading an item comes to. -/
def GotI (b : Nat) (w : World) (o : Option (Sf.Itm × List UInt8)) (e : Ending) (w' : World) : Prop :=
  w.grownBy w' (some b) ∧ ((∃ x r v, o = some (x, r) ∧ e = .returned (itmV x.kind x.n x.text v) ∧ Rd b r w' ∧ w'.ownsRow w.heap.size 53 4 v x.params.length (parsRow x.params)) ∨ (o = none ∧ e = .panicked [fault]))
theorem GotI.no {b : Nat} {w w' : World} (hg : w.grownBy w' (some b)) : GotI b w none (.panicked [fault]) w' := ⟨hg, .inr ⟨rfl, rfl⟩⟩
def zI : Array Value := #[.int .i64 0, .int .i64 0, .string ⟨#[]⟩, .slice none 0 0]
theorem params_ok (b : Nat) (s : List UInt8) (l : List Sf.Par) (r : List UInt8) (w : World) (hR : Rd b s w) (hs : s.length ≤ 1000000) (h : Sf.pars s = some (l, r)) : Calls Tryz.prog 82 #[.pointer (some ⟨b, 0, none⟩)] w fun e w' => ∃ a c, e = .returned (.slice a l.length c) ∧ Rd b r w' ∧ w.grownBy w' (some b) ∧ w'.ownsRow w.heap.size 53 4 (.slice a l.length c) l.length (parsRow l) := by
  refine (params_any b s w hR hs).mono ?_
  rintro e w' ⟨hg, ⟨l', r', v, ho, rfl, hr, hw⟩ | ⟨ho, _⟩⟩
  · rw [h] at ho
    cases ho
    obtain ⟨a, c, rfl⟩ := slice4 hw
    exact ⟨a, c, rfl, hr, hg, hw⟩
  · rw [h] at ho; cases ho
theorem params_no (b : Nat) (s : List UInt8) (w : World) (hR : Rd b s w) (hs : s.length ≤ 1000000) (h : Sf.pars s = none) : Calls Tryz.prog 82 #[.pointer (some ⟨b, 0, none⟩)] w fun e w' => e = .panicked [fault] ∧ w.grownBy w' (some b) := by
  refine (params_any b s w hR hs).mono ?_
  rintro e w' ⟨hg, ⟨l', r', v, ho, rfl, hr, hw⟩ | ⟨_, rfl⟩⟩
  · rw [h] at ho; cases ho
  · exact ⟨rfl, hg⟩
/-- What the item's last statement asks of the world. -/
structure RdyI (w : World) (b : Nat) (x : Sf.Par) (Bv : Nat) (W : World) : Prop where
  g : w.grownBy W (some b)
  vbox : CBox W Bv 65 (vC x)
theorem RdyI.all {w : World} {b : Nat} {x : Sf.Par} {Bv : Nat} {W : World} (h : RdyI w b x Bv W) : W.cell? ⟨Bv, 0, none⟩ = some (.int .i64 x.kind) ∧ W.cell? ⟨Bv, 1, none⟩ = some (.int .i64 x.n) ∧ W.cell? ⟨Bv, 2, none⟩ = some (.string (bA x.text)) ∧ RdyI w b x Bv W := ⟨h.vbox.c 0, h.vbox.c 1, h.vbox.c 2, h⟩
theorem RdyI.drew {w : World} {b : Nat} {x : Sf.Par} {Bv : Nat} {W : World} (h : RdyI w b x Bv W) : RdyI w b x Bv W.drew := ⟨⟨h.g.os, h.g.tape, h.g.output, h.g.size, h.g.block⟩, h.vbox⟩
theorem RdyI.on {w : World} {b : Nat} {x : Sf.Par} {Bv : Nat} {W W' : World} (h : RdyI w b x Bv W) (hg : W.grownBy W' (some b)) (h2 : b ≠ Bv) : RdyI w b x Bv W' := ⟨g_trans h.g hg, h.vbox.kept hg (by simpa using h2.symm)⟩
theorem RdyI.set {w : World} {b : Nat} {x : Sf.Par} {Bv : Nat} {W : World} (h : RdyI w b x Bv W) (hne : w.heap.size ≠ Bv) (p q r s : Value) : RdyI w b x Bv (set4 W w.heap.size p q r s) := ⟨g_set4 h.g _ _ _ _ (.inl (Nat.le_refl _)), h.vbox.other4 hne _ _ _ _⟩
theorem value_len {s r : List UInt8} {x : Sf.Par} (h : Sf.value s = some (x, r)) : r.length ≤ s.length := by
  obtain ⟨a, t, hr⟩ := Sf.value_reads h
  rw [hr.eq]; simp
theorem Rd.drew {b : Nat} {s : List UInt8} {w : World} (h : Rd b s w) : Rd b s w.drew := h

set_option maxHeartbeats 4000000 in
set_option maxRecDepth 100000 in
theorem item_any (b : Nat) (s : List UInt8) (w : World) (hR : Rd b s w) (hs : s.length ≤ 1000000) : Calls Tryz.prog 58 #[.pointer (some ⟨b, 0, none⟩)] w (GotI b w (Sf.next s)) := by
  have hlt := hR.lt
  have hR0 := hR.alloc (.cells zI 35)
  have H1 := Lib.hid (value_any b s _ hR0 (by omega))
  have hb := Lib.hid (CBox.new w 35 zI)
  obtain ⟨o, ho⟩ : ∃ o, Sf.next s = o := ⟨_, rfl⟩
  rw [ho]
  have HO := Lib.hid ho
  clear hR hR0 ho
  go_enter Tryz.func58, Tryz.ntmps58
  go_wp2_with fail
  refine H1.out.mono ?_
  rintro e w1 ⟨hg1, ⟨v, r, hk, rfl, hr1⟩ | ⟨hk, rfl⟩⟩
  · obtain ⟨x, rfl, hv⟩ := val_split hk
    have hrl := value_len hv
    have hb1 := hb.out.kept hg1 (by simp; omega)
    have hsz : w.heap.size < w1.heap.size := hb1.lt
    obtain ⟨w2, hw2⟩ : ∃ w2, w1.alloc (.cells (vC x) 65) = w2 := ⟨_, rfl⟩
    have hrd : RdyI w b x w1.heap.size w2 := by
      rw [← hw2]
      exact ⟨g_alloc (g_trans (World.grownBy_alloc w _ _) hg1) _, CBox.new _ _ _⟩
    have hbx : CBox w2 w.heap.size 35 zI := by rw [← hw2]; exact hb1.alloc _
    have hR2 : Rd b r w2 := by rw [← hw2]; exact hr1.alloc _
    have hw2' : w1.alloc (.cells #[.int .i64 x.kind, .int .i64 x.n, .string (bA x.text)] 65) = w2 := hw2
    have HW2 := Lib.hid hw2'
    clear hk hb hb1 hg1 hr1 hw2 hw2' H1
    unfold valV vC
    go_wp2_with fail
    rw [HW2.out]
    clear HW2
    cases hp : Sf.pars r with
    | none =>
      have hn : o = none := by rw [← HO.out]; unfold Sf.next; rw [hv]; simp only [hp]
      have HN := Lib.hid hn
      have H2 := Lib.hid (fun W (h : Rd b r W) => params_no b r W h (by omega) hp)
      have c0 := hrd.vbox.c 0
      have c1 := hrd.vbox.c 1
      have c2 := hrd.vbox.c 2
      simp only [vC] at c0 c1 c2
      have HG := Lib.hid hrd.drew.g
      have HR2 := Lib.hid hR2.drew
      clear hn hv hp hrd hR2
      go_region_dies
      all_goals (refine (H2.out _ HR2.out).mono ?_; rintro e w3 ⟨rfl, hg3⟩; exact ⟨rfl, by rw [HN.out]; exact GotI.no (g_trans HG.out hg3)⟩)
    | some y =>
      obtain ⟨l, r'⟩ := y
      have hn : o = some (⟨x.kind, x.n, x.text, l⟩, r') := by rw [← HO.out]; unfold Sf.next; rw [hv]; simp only [hp]
      have HN := Lib.hid hn
      have H2 := Lib.hid (fun W (h : Rd b r W) => params_ok b r l r' W h (by omega) hp)
      clear hn hv hp
      have hne1 : some w.heap.size ≠ some b := by simp; omega
      have hne2 : b ≠ w1.heap.size := by omega
      go_region_held3 (fun w' => w'.cell? ⟨w1.heap.size, 0, none⟩ = some (.int .i64 x.kind) ∧ w'.cell? ⟨w1.heap.size, 1, none⟩ = some (.int .i64 x.n) ∧ w'.cell? ⟨w1.heap.size, 2, none⟩ = some (.string (bA x.text)) ∧ RdyI w b x w1.heap.size w')
        (first
          | exact hrd.all
          | exact hrd.drew.all
          | exact hrd3.all
          | exact (hrd3.set (by omega) _ _ _ _).all)
        (first
          | (go_at_call 82; refine (H2.out _ hR2.drew).mono ?_; rintro e w3 ⟨pa, pc, rfl, hR3, hg3, hw3⟩; have hrd3 := hrd.drew.on hg3 hne2; have hbx3 := CBox.kept (W := w2.drew) hbx hg3 hne1; obtain ⟨c0, c1, c2, c3, f0, f1, f2, f3⟩ := hbx3.all4))
      have hvl := hrd.vbox.lt
      have hg4 : w3.grownBy (set4 w3 w.heap.size (.int .i64 x.kind) (.int .i64 x.n) (.string (bA x.text)) (.slice pa l.length pc)) (some w.heap.size) := g_set4 (g_refl _ _) _ _ _ _ (.inr rfl)
      have hw4 := owns_base4 (hw3.kept hg4 (not_own4 hw3 (by show w.heap.size < w2.heap.size; omega))) (show w.heap.size ≤ w2.heap.size by omega)
      have HW4 := Lib.hid hw4; have HRD3 := Lib.hid hrd3; have HBX3 := Lib.hid hbx3; have HR3 := Lib.hid hR3
      rename_i hHeld
      clear hHeld hw4 hg4 hrd hbx hR2 H2 hg3 hw3 hrd3 hbx3 hR3 c0 c1 c2 c3 f0 f1 f2 f3
      go_wp2_with fail
      rw [HN.out]
      refine bodyPost_ret (results_itm rfl _ _ rfl (HBX3.out.set4 _ _ _ _)) rfl ⟨?_, .inl ⟨_, r', .slice pa l.length pc, rfl, rfl, ?_, HW4.out⟩⟩
      · exact g_set4 HRD3.out.g _ _ _ _ (.inl (Nat.le_refl _))
      · exact HR3.out.other4 (by omega) _ _ _ _
  · have hn : o = none := by rw [← HO.out]; unfold Sf.next; rw [map_no hk]
    have HN := Lib.hid hn
    clear hn hk
    go_wp2_with fail
    refine ⟨rfl, ?_⟩
    rw [HN.out]
    exact GotI.no (g_trans (World.grownBy_alloc w _ _) hg1)
end Go.Proofs.YtogjekjklknfeaaGreatDoor
