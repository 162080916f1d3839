/- The contract of a reader's params. -/
import Derived.Test.YtgddmihojladfaaGreatDoorSfRow
namespace Go.Proofs.YtgddmihojladfaaGreatDoor
open Go.RowKit Go.Shelf Go.Maps Go.Deep

/-- What reading parameters comes to. -/
def GotL (b : Nat) (w : World) (o : Option (List Sf.Par × List UInt8)) (e : Ending) (w' : World) : Prop :=
  w.grownBy w' (some b) ∧ ((∃ l r v, o = some (l, r) ∧ e = .returned v ∧ Rd b r w' ∧ w'.ownsRow w.heap.size 72 4 v l.length (parsRow l)) ∨ (o = none ∧ e = .panicked [fault]))
theorem GotL.no {b : Nat} {w w' : World} (hg : w.grownBy w' (some b)) : GotL b w none (.panicked [fault]) w' := ⟨hg, .inr ⟨rfl, rfl⟩⟩

structure PInv (w : World) (b : Nat) (s : List UInt8) (k : Nat) (v : Value) (wr : World) (acc : List Sf.Par) (rest : List UInt8) (D : DataW Unit) : Prop where
  k : rest.length = k
  len : acc.length + rest.length ≤ s.length
  row : wr.ownsRow (w.heap.size + 1) 72 4 v acc.length (parsRow acc)
  map : wr.ownsMap Tryz.prog 9 (plainElem Tryz.prog 3) w.heap.size acc.length D
  places : Places D (Sf.keys acc)
  rd : Rd b rest wr
  g : w.grownBy wr (some b)
  sz : w.heap.size + 1 ≤ wr.heap.size
  nodup : (Sf.keys acc).Nodup
  eq : Sf.parsF (rest.length + 1) acc rest = Sf.pars s
theorem slice4 {w : World} {base : Nat} {e : TypeId} {v : Value} {n : Nat} {xs : List Value} (h : w.ownsRow base e 4 v n xs) : ∃ a cap, v = .slice a n cap := by
  obtain ⟨_, ⟨h1, h2⟩ | ⟨g, cap, _, hv, _⟩⟩ := h
  · exact ⟨none, 0, by rw [h1, h2]⟩
  · exact ⟨_, _, hv⟩
theorem not_own4 {w : World} {base : Nat} {e : TypeId} {v : Value} {n b : Nat} {xs : List Value} (h : w.ownsRow base e 4 v n xs) (hb : b < base) : v.ownBlock = none ∨ v.ownBlock ≠ some b := by
  cases hv : v.ownBlock with
  | none => exact .inl rfl
  | some k => exact .inr (by intro e; have := (h.lt k hv).1; cases e; omega)
theorem own_ne4 {w : World} {base : Nat} {e : TypeId} {v : Value} {n b : Nat} {xs : List Value} (h : w.ownsRow base e 4 v n xs) (hb : b < base) : some b ≠ v.ownBlock := by
  intro e; have := (h.lt b e.symm).1; omega
theorem owns_base4 {w : World} {base base' : Nat} {e : TypeId} {size : Nat} {v : Value} {n : Nat} {xs : List Value} (h : w.ownsRow base e size v n xs) (hb : base' ≤ base) : w.ownsRow base' e size v n xs := by
  obtain ⟨h1, h2 | ⟨g, cap, cur, a, b, c⟩⟩ := h
  · exact ⟨h1, .inl h2⟩
  · exact ⟨h1, .inr ⟨g, cap, cur, a, by omega, c⟩⟩
theorem keys_set {l : List Sf.Par} {p : Sf.Par} {i : Nat} (hi : i < l.length) (hk : l[i].key = p.key) : Sf.keys (l.set i p) = Sf.keys l := by
  unfold Sf.keys
  apply List.ext_getElem (by simp)
  intro j h1 h2
  simp only [List.getElem_map, List.getElem_set]
  split
  · rename_i e; subst e; exact hk.symm
  · rfl
theorem put_is {l : List Sf.Par} {p : Sf.Par} (hn : (Sf.keys l).Nodup) {i : Nat} (hi : i < l.length) (hk : l[i].key = p.key) : Sf.put l p = l.set i p := by
  rw [Sf.put_old (by rw [← hk]; exact List.mem_map_of_mem (List.getElem_mem hi)), rep_set hn hi hk]
theorem pars_stop {acc : List Sf.Par} {rest : List UInt8} (f : Nat) (h : rest.head? ≠ some 59) : Sf.parsF (f + 1) acc rest = some (acc, rest) := by
  rw [Sf.parsF_succ, if_neg]
  cases rest <;> simp_all
theorem pars_step {acc : List Sf.Par} {t r : List UInt8} {p : Sf.Par} (h : parOf (Sf.blk t) = some (p, r)) : Sf.parsF ((59 :: t).length + 1) acc (59 :: t) = Sf.parsF (r.length + 1) (Sf.put acc p) r := by
  have h' : Sf.one t = some (p, r) := h
  have hl := Sf.one_len h'
  rw [Sf.parsF_succ, if_pos (show (59 :: t).headD 0 = 59 from rfl)]
  simp only [List.drop_succ_cons, List.drop_zero, h']
  exact Sf.parsF_fuel _ _ _ _ (by simp; omega) (by omega)
theorem pars_none {acc : List Sf.Par} {t : List UInt8} (h : parOf (Sf.blk t) = none) : Sf.parsF ((59 :: t).length + 1) acc (59 :: t) = none := by
  have h' : Sf.one t = none := h
  rw [Sf.parsF_succ, if_pos (show (59 :: t).headD 0 = 59 from rfl)]
  simp only [List.drop_succ_cons, List.drop_zero, h']
theorem par_split {o : Option (Sf.Par × List UInt8)} {v : Value} {r : List UInt8} (h : mapP o = some (v, r)) : ∃ x, v = parV x ∧ o = some (x, r) := by
  cases o with
  | none => cases h
  | some x => simp only [mapP, Option.map_some, Option.some.injEq, Prod.mk.injEq] at h; exact ⟨x.1, h.1.symm, by rw [← h.2]⟩
theorem mapP_no {o : Option (Sf.Par × List UInt8)} (h : mapP o = none) : o = none := by cases o; rfl; cases h
theorem blk_len (s : List UInt8) : (Sf.blk s).length ≤ s.length := by
  obtain ⟨z, hz, _⟩ := Sf.blk_cut s
  have := congrArg List.length hz
  simp at this; omega
theorem par_key_len {s r : List UInt8} {p : Sf.Par} (h : parOf s = some (p, r)) : p.key.length ≤ s.length := by
  unfold parOf at h
  cases hk : Sf.keyOf s with
  | none => rw [hk] at h; cases h
  | some x =>
    obtain ⟨k, r0⟩ := x
    have hw := (Sf.keyOf_ways hk).1
    have hl : k.length ≤ s.length := by rw [hw]; simp
    rw [hk] at h
    simp only at h
    split at h
    · split at h
      · cases h
      · simp only [Option.some.injEq, Prod.mk.injEq] at h; rw [← h.1]; exact hl
    · simp only [Option.some.injEq, Prod.mk.injEq] at h; rw [← h.1]; exact hl

set_option maxHeartbeats 4000000 in
set_option maxRecDepth 100000 in
theorem params_any (b : Nat) (s : List UInt8) (w : World) (hR : Rd b s w) (hs : s.length ≤ 1000000) : Calls Tryz.prog 80 #[.pointer (some ⟨b, 0, none⟩)] w (GotL b w (Sf.pars s)) := by
  have hlt := hR.lt
  have hmm := @run_makeMap Tryz.prog
  have hst : PInv w b s s.length (.slice none 0 0) (w.alloc (.map #[] 0)) [] s (.map []) :=
    ⟨rfl, by simp, World.ownsRow_nil _ _ _ _, World.ownsMap_made _ _ _ _, Places.nil, hR.alloc _, World.grownBy_alloc _ _ _, by simp, List.nodup_nil, rfl⟩
  have HS := Lib.hid hst
  obtain ⟨o, ho⟩ : ∃ o, Sf.pars s = o := ⟨_, rfl⟩
  rw [ho]
  have HO := Lib.hid ho
  obtain ⟨i0, hi, hz0, hz1, hz2⟩ := info_parts info_par
  have HI := Lib.hid hi; have HZ0 := Lib.hid hz0; have HZ1 := Lib.hid hz1; have HZ2 := Lib.hid hz2
  clear hi hz0 hz1 hz2 ho hst hR
  go_enter Tryz.func80, Tryz.ntmps80
  go_wp2_with fail
  go_loopg [3] s.length (fun k v wr => ∃ acc rest D, PInv w b s k v wr acc rest D)
  case atStart => exact ⟨_, _, _, HS.out⟩
  case round =>
    obtain ⟨acc, rest, D, hI⟩ := hrel
    obtain ⟨va, vc, rfl⟩ := slice4 hI.row
    have hlen := hI.len
    have hsz := hI.sz
    have HV := Lib.hid hI
    clear hI HS hmm
    by_cases h59 : rest.head? = some 59
    · obtain ⟨t, rfl⟩ : ∃ t, rest = 59 :: t := by
        cases rest with
        | nil => cases h59
        | cons c t => simp at h59; exact ⟨t, by rw [h59]⟩
      clear h59
      have H1 := Lib.hid (skip_yes b 59 59 rfl t wr HV.out.rd)
      go_wp2_with fail
      refine H1.out.mono ?_
      rintro e w1 ⟨rfl, hR1, hg1⟩
      have H2 := Lib.hid (take_any _ _ tellsSpace b t w1 hR1 (by simp at hlen; omega))
      clear H1 hR1
      go_wp2_with fail
      refine H2.out.mono ?_
      rintro e w2 ⟨rfl, hR2, hg2⟩
      rw [blk_dw] at hR2
      have hbl := blk_len t
      have H3 := Lib.hid (param_any b (Sf.blk t) w2 hR2 (by simp at hlen; omega))
      have HG2 := Lib.hid (g_trans hg1 hg2)
      clear H2 hR2 hg1 hg2
      go_wp2_with fail
      refine H3.out.mono ?_
      rintro e w3 ⟨hg3, ⟨v, r, hv, rfl, hr3⟩ | ⟨hv, rfl⟩⟩
      · obtain ⟨p, rfl, hp⟩ := par_split hv
        have hkl := par_key_len hp
        have hrl : r.length < (59 :: t).length := by have := Sf.one_len (show Sf.one t = some (p, r) from hp); simp; omega
        have HE := Lib.hid (pars_step (acc := acc) hp)
        have hg := g_trans HG2.out hg3
        have HB := Lib.hid (CBox.new w3 72 (pC p))
        have HR3 := Lib.hid (hr3.alloc (.cells (pC p) 72))
        have HG3 := Lib.hid (g_alloc (g_trans HV.out.g hg) (.cells (pC p) 72))
        have HW3 := Lib.hid ((HV.out.row.kept hg (not_own4 HV.out.row (by omega))).alloc (.cells (pC p) 72))
        have hsz3 := Nat.le_trans hsz hg.size
        have hmap : (w3.alloc (.cells (pC p) 72)).ownsMap Tryz.prog 9 (plainElem Tryz.prog 3) w.heap.size acc.length D := (HV.out.map.kept hg (by simp; omega)).alloc _
        have HM := Lib.hid hmap
        have HKL := Lib.hid (key_str p.key (by unfold maxLen; simp at hlen; omega))
        clear hg hg3 hr3 hv hp H3 HG2 hmap
        by_cases hmem : p.key ∈ Sf.keys acc
        · obtain ⟨i, hi, hik⟩ := List.getElem_of_mem hmem
          have hpl := HV.out.places.yes i hi
          rw [hik] at hpl
          have HPL := Lib.hid hpl
          have hia : i < acc.length := by simpa [Sf.keys] using hi
          have HIK : Hid (acc[i].key = p.key) := Lib.hid (by simpa [Sf.keys] using hik)
          obtain ⟨g, rfl⟩ : ∃ g, va = some ⟨g, 0, none⟩ := by
            obtain ⟨_, ⟨h1, h2⟩ | ⟨g, cap, _, h1, _⟩⟩ := HW3.out
            · omega
            · cases h1; exact ⟨g, rfl⟩
          clear hpl hi hik hmem
          unfold parV pC
          go_wp2_with (at_lookup; refine wpList_lookup_own_ok_int _ rfl _ _ 47 rfl 9 3 .i64 law_str Tryz.underlying47 Tryz.underlying3 (zero_int _) w.heap.size acc.length D rfl HM.out _ _ rfl HKL.out ?_)
          intro c hat _
          rw [HPL.out.1]
          obtain rfl : c = (i : Int) := by have := HPL.out.2.symm.trans hat; injection this with h; injection h with _ h; exact h.symm
          clear hat
          obtain ⟨w5, hw5⟩ : ∃ w5, w3.alloc (.cells (pC p) 72) = w5 := ⟨_, rfl⟩
          rw [hw5] at HB HR3 HG3 HW3 HM
          have hw5' : w3.alloc (.cells #[.string (bA p.key), .int .i64 p.kind, .int .i64 p.n, .string (bA p.text)] 72) = w5 := hw5
          rw [hw5']
          clear hw5 hw5'
          obtain ⟨c0, c1, c2, c3, _, _, _, _⟩ := HB.out.all4
          have hrow := parsRow_at acc i hia
          obtain ⟨d0, f0⟩ := own_cell HW3.out hrow.1
          obtain ⟨d1, f1⟩ := own_cell HW3.out hrow.2.1
          obtain ⟨d2, f2⟩ := own_cell HW3.out hrow.2.2.1
          obtain ⟨d3, f3⟩ := own_cell HW3.out hrow.2.2.2
          have hcap : acc.length ≤ vc := by
            obtain ⟨_, ⟨h1, h2⟩ | ⟨g', cap, _, h1, _, _, h2, _⟩⟩ := HW3.out
            · cases h1
            · cases h1; exact h2
          clear hrow
          go_wp2_with fail
          go_roundg r.length
          case measure => have := HV.out.k; omega
          case rel =>
            obtain ⟨r0, g0⟩ := own_set HW3.out (i := i * 4) (.string (bA p.key))
            obtain ⟨r1, g1⟩ := own_set r0 (i := i * 4 + 1) (.int .i64 p.kind)
            obtain ⟨r2, g2⟩ := own_set r1 (i := i * 4 + 2) (.int .i64 p.n)
            obtain ⟨r3, g3⟩ := own_set r2 (i := i * 4 + 3) (.string (bA p.text))
            have hg := g_trans g0 (g_trans g1 (g_trans g2 g3))
            rw [parsRow_set acc i hia p] at r3
            have hgb : w.heap.size + 1 ≤ g := (HW3.out.lt g rfl).1
            have hkeys := keys_set hia HIK.out
            have hsz5 : w.heap.size + 1 ≤ w5.heap.size := by have := (HW3.out.lt g rfl).2; omega
            have hl : (acc.set i p).length = acc.length := List.length_set
            refine ⟨acc.set i p, r, D, ?_⟩
            exact { k := rfl
                    len := by rw [hl]; simp at hrl hlen; omega
                    row := by rw [hl]; exact r3
                    map := by rw [hl]; exact HM.out.kept hg (by simp; omega)
                    places := by rw [hkeys]; exact HV.out.places
                    rd := HR3.out.kept hg (by simp; omega)
                    g := g_row HG3.out hg (fun j hj => by cases hj; omega)
                    sz := Nat.le_trans hsz5 hg.size
                    nodup := by rw [hkeys]; exact HV.out.nodup
                    eq := by rw [← put_is HV.out.nodup hia HIK.out, ← HE.out]; exact HV.out.eq }
        · have hpl := HV.out.places.no p.key hmem
          have HPL := Lib.hid hpl
          have HMEM := Lib.hid hmem
          clear hpl hmem
          unfold parV pC
          go_wp2_with (at_lookup; refine wpList_lookup_own_ok_int _ rfl _ _ 47 rfl 9 3 .i64 law_str Tryz.underlying47 Tryz.underlying3 (zero_int _) w.heap.size acc.length D rfl HM.out _ _ rfl HKL.out ?_)
          intro c hat _
          rw [HPL.out]
          clear hat
          obtain ⟨w5, hw5⟩ : ∃ w5, w3.alloc (.cells (pC p) 72) = w5 := ⟨_, rfl⟩
          have hsz5 : w3.heap.size < w5.heap.size := by rw [← hw5]; simp
          rw [hw5] at HB HR3 HG3 HW3 HM
          have hw5' : w3.alloc (.cells #[.string (bA p.key), .int .i64 p.kind, .int .i64 p.n, .string (bA p.text)] 72) = w5 := hw5
          rw [hw5']
          clear hw5 hw5'
          obtain ⟨c0, c1, c2, c3, _, _, _, _⟩ := HB.out.all4
          go_wp2_with (at_mapUpdate; refine wpList_mapUpdate_own _ rfl _ _ _ 47 rfl 9 3 law_str Tryz.underlying47 _ w.heap.size acc.length D rfl HM.out ?_ _ _ _ rfl rfl HKL.out _ [] (plainElem_int Tryz.underlying3 (WalkArith.wf_i64 (by omega))) ?_)
          · unfold maxLen; omega
          intro w6 hown6 hg6
          have HB6 := Lib.hid (HB.out.kept hg6 (by simp; omega))
          have HR6 := Lib.hid (HR3.out.kept hg6 (by simp; omega))
          have HG6 := Lib.hid (g_row HG3.out hg6 (fun j hj => by cases hj; omega))
          have HW6 := Lib.hid (HW3.out.kept hg6 (not_own4 HW3.out (by omega)))
          have HM6 := Lib.hid hown6
          have hsz6 := Nat.le_trans hsz5 hg6.size
          clear hown6 hg6 c0 c1 c2 c3 HB HR3 HG3 HW3 HM
          obtain ⟨c0, c1, c2, c3, _, _, _, _⟩ := HB6.out.all4
          go_wp2_with (at_builtin; refine wpList_append_own _ rfl _ _ 64 rfl (w.heap.size + 1) 72 i0 (.agg zP) 4 48 Tryz.underlying64 HI.out HZ0.out HZ1.out HZ2.out rfl (by decide) _ _ _ rfl (HW6.out.alloc _) ⟨w6.heap.size, 0, none⟩ 1 1 [.string (bA p.key), .int .i64 p.kind, .int .i64 p.n, .string (bA p.text)] rfl rfl (cells_new _ #[.string (bA p.key), .int .i64 p.kind, .int .i64 p.n, .string (bA p.text)] _) ?_ ?_ ?_ ?_ ?_)
          · intro u hu; simp at hu; rcases hu with rfl | rfl | rfl | rfl <;> rfl
          · unfold maxLen; omega
          · omega
          · simp; omega
          intro v' w7 hown7 hg7 _
          obtain ⟨va7, vc7, rfl⟩ := slice4 hown7
          go_wp2_with fail
          go_roundg r.length
          case measure => have := HV.out.k; omega
          case rel =>
            have hl : (acc ++ [p]).length = acc.length + 1 := by simp
            have hkk : Sf.keys (acc ++ [p]) = Sf.keys acc ++ [p.key] := by simp [Sf.keys]
            have hkl2 : (Sf.keys acc).length = acc.length := by simp [Sf.keys]
            refine ⟨acc ++ [p], r, D.put (.string p.key) (.lit (.int .i64 acc.length)), ?_⟩
            exact { k := rfl
                    len := by rw [hl]; simp at hrl hlen; omega
                    row := by rw [hl, parsRow_snoc]; exact hown7
                    map := by rw [hl]; exact (HM6.out.alloc _).kept hg7 (own_ne4 HW6.out (by omega))
                    places := by rw [hkk, ← hkl2]; exact HV.out.places.put HMEM.out
                    rd := (HR6.out.alloc _).kept hg7 (own_ne4 HW6.out (by omega))
                    g := g_row (g_alloc HG6.out _) hg7 (fun j hj => by have := (HW6.out.lt j hj).1; omega)
                    sz := by have := hg7.size; simp at this; omega
                    nodup := by rw [hkk, List.nodup_append]; exact ⟨HV.out.nodup, by simp, by intro a ha b hb; simp at hb; subst hb; intro e; subst e; exact HMEM.out ha⟩
                    eq := by rw [← Sf.put_new HMEM.out, ← HE.out]; exact HV.out.eq }
      · have hn : o = none := by rw [← HO.out, ← HV.out.eq, pars_none (mapP_no hv)]
        have HN := Lib.hid hn
        clear hn hv
        go_wp2_with fail
        refine ⟨rfl, ?_⟩
        rw [HN.out]
        exact GotL.no (g_trans HV.out.g (g_trans HG2.out hg3))
    · have hn : o = some (acc, rest) := by rw [← HO.out, ← HV.out.eq, pars_stop _ h59]
      have HN := Lib.hid hn
      have H1 : Hid (Calls Tryz.prog 97 #[.pointer (some ⟨b, 0, none⟩), .int .u8 59] wr fun e w' => e = .returned (.bool false) ∧ wr = w') := by
        cases rest with
        | nil => exact skip_nil b 59 wr HV.out.rd
        | cons c t => exact skip_off b 59 c (byte_ne (c := 59) (by simpa using h59)) t wr HV.out.rd
      clear hn h59
      go_wp2_with fail
      refine H1.out.mono ?_
      rintro e w2 ⟨rfl, rfl⟩
      go_wp2_with fail
      go_ret
      rw [HN.out]
      exact ⟨HV.out.g, .inl ⟨acc, rest, _, rfl, rfl, HV.out.rd, owns_base4 HV.out.row (by omega)⟩⟩
end Go.Proofs.YtgddmihojladfaaGreatDoor
