/- The contract of sfitem.Tail. -/
import Derived.Test.YtilclhhpmenjaaaGreatDoorSfPtext
import Derived.Shelf.Strings.BuilderK
namespace Go.Proofs.YtilclhhpmenjaaaGreatDoor
open Go.RowKit Go.Shelf Go.Maps Go.Deep

/-- Parameters that lie somewhere, nil let in. -/
def SeenP (w : World) (A : Option Addr) (l : List Sf.Par) : Prop := 0 < l.length → ∃ g o, A = some ⟨g, o, none⟩ ∧ g < w.heap.size ∧ ∀ i (h : i < l.length), w.cell? ⟨g, o + i * 4, none⟩ = some (.string (bA l[i].key)) ∧ w.cell? ⟨g, o + i * 4 + 1, none⟩ = some (.int .i64 l[i].kind) ∧ w.cell? ⟨g, o + i * 4 + 2, none⟩ = some (.int .i64 l[i].n) ∧ w.cell? ⟨g, o + i * 4 + 3, none⟩ = some (.string (bA l[i].text))
theorem SeenP.below {w w' : World} {A : Option Addr} {l : List Sf.Par} (h : SeenP w A l) (hb : Below w.heap.size w w') : SeenP w' A l := fun hn => by
  obtain ⟨g, o, rfl, hlt, hc⟩ := h hn
  refine ⟨g, o, rfl, Nat.lt_of_lt_of_le hlt hb.size, fun i hi => ?_⟩
  obtain ⟨h0, h1, h2, h3⟩ := hc i hi
  exact ⟨by rw [hb.cell hlt]; exact h0, by rw [hb.cell hlt]; exact h1, by rw [hb.cell hlt]; exact h2, by rw [hb.cell hlt]; exact h3⟩
/-- A list of one's own is seen. -/
theorem SeenP.own {w : World} {base : Nat} {A : Option Addr} {n c : Nat} {l : List Sf.Par} (h : w.ownsRow base 44 4 (.slice A n c) l.length (parsRow l)) : SeenP w A l := fun hn => by
  have hc := h
  obtain ⟨_, ⟨h1, h2⟩ | ⟨g, cap, cur, h1, hb, hg, _⟩⟩ := h
  · omega
  · cases h1
    refine ⟨g, 0, rfl, (Array.getElem?_eq_some_iff.1 hg).1, fun i hi => ?_⟩
    have hr := parsRow_at l i hi
    simp only [Nat.zero_add]
    exact ⟨(own_cell hc hr.1).1, (own_cell hc hr.2.1).1, (own_cell hc hr.2.2.1).1, (own_cell hc hr.2.2.2).1⟩

theorem bldr_kept {T e : TypeId} {B b : Nat} {bs : List Value} {w w' : World} {row : Option Nat} (h : Lib.IsBuilderF T e B b bs w) (hg : w.grownBy w' row) (h1 : some b ≠ row) (h2 : ∀ g c fz, row = some g → w.heap[g]? ≠ some (.cells c e fz)) : Lib.IsBuilderF T e B b bs w' := by
  have one : ∀ p, Lib.BuilderAtF T e B b p bs w → Lib.BuilderAtF T e B b p bs w' := by
    rintro p ⟨hB, v, hb, hown, hne⟩
    have hlt : b < w.heap.size := (Array.getElem?_eq_some_iff.1 hb).1
    refine ⟨hB, v, by rw [hg.block b hlt h1]; exact hb, hown.kept hg ?_, hne⟩
    rcases hown.2 with ⟨rfl, _⟩ | ⟨g, cap, cur, fz, rfl, _, hgg, _⟩
    · exact .inl rfl
    · refine .inr (fun e => ?_)
      exact h2 g cur fz e.symm hgg
  exact h.elim (fun x => .inl (one _ x)) (fun x => .inr (one _ x))
theorem bldr_below {T e : TypeId} {B b : Nat} {bs : List Value} {w w' : World} (h : Lib.IsBuilderF T e B b bs w) (hb : Below w.heap.size w w') : Lib.IsBuilderF T e B b bs w' := bldr_kept h (below_g hb none) (by simp) (by simp)
theorem map_others {D : DataW Unit} {b m n : Nat} {R : Value → Option (DataW Unit × List MemPlace)} {w w' : World} (h : w.ownsMap Tryz.prog 9 R m n D) (hk : Lib.OthersKept 5 (some b) w w') (hne : m ≠ b) : w'.ownsMap Tryz.prog 9 R m n D := by
  obtain ⟨es, clock, h1, h2⟩ := h
  exact ⟨es, clock, hk m _ h1 (by simpa using hne) (fun c fz e => by cases e), h2⟩
theorem map_not {D : DataW Unit} {m n : Nat} {R : Value → Option (DataW Unit × List MemPlace)} {w : World} (h : w.ownsMap Tryz.prog 9 R m n D) : ∀ g c fz, some m = some g → w.heap[g]? ≠ some (.cells c 5 fz) := by
  rintro g c fz hg he
  cases hg
  obtain ⟨es, clock, h1, _⟩ := h
  rw [h1] at he; cases he
theorem writeS_any (b : Nat) (l s : List UInt8) (w : World) (h : Lib.IsBuilderF 70 5 b b (Lib.byteCells l) w) (hlen : l.length + s.length ≤ 140737488355328) :
    Calls Tryz.prog 43 #[.pointer (some ⟨b, 0, none⟩), .string (bA s)] w fun e w' => e = .returned (.tuple #[.int .i64 s.length, .nilIface]) ∧ Lib.IsBuilderF 70 5 b b (Lib.byteCells (l ++ s)) w' ∧ Below b w w' ∧ Lib.OthersKept 5 (some b) w w' := by
  have hb : b ≤ w.heap.size := by
    rcases h with ⟨_, v, hb, _⟩ | ⟨_, v, hb, _⟩ <;> exact Nat.le_of_lt (Array.getElem?_eq_some_iff.1 hb).1
  refine (Any.Builder_WriteString_k { Tryz.lays105 with } Tryz.Builder_Extra_105 b b (Lib.byteCells l) (bA s) w h (by rw [Lib.byteCells_length, bA_size]; exact hlen) hb).mono ?_
  rintro e w' ⟨rfl, h1, h2, h3⟩
  refine ⟨rfl, .inr ?_, h2, h3⟩
  have : Lib.byteCells l ++ Lib.strCells (bA s) = Lib.byteCells (l ++ s) := by simp [Lib.byteCells, Lib.strCells]
  rw [← this]; exact h1
theorem string_any (b : Nat) (l : List UInt8) (w : World) (h : Lib.IsBuilderF 70 5 b b (Lib.byteCells l) w) :
    Calls Tryz.prog 44 #[.pointer (some ⟨b, 0, none⟩)] w fun e w' => e = .returned (.string (bA l)) ∧ Below b w w' := by
  have hb : b ≤ w.heap.size := by
    rcases h with ⟨_, v, hb, _⟩ | ⟨_, v, hb, _⟩ <;> exact Nat.le_of_lt (Array.getElem?_eq_some_iff.1 hb).1
  refine (Any.Builder_String_any_k Tryz.lays169 Tryz.Builder_Extra_169 b b l w h hb).mono ?_
  rintro e w' ⟨rfl, _, h2, _⟩
  exact ⟨rfl, h2⟩

/-- The set of the keys that have come. -/
structure KeySet (D : DataW Unit) (ks : List (List UInt8)) : Prop where
  isMap : IsMap D
  has : ∀ k, Maps.has D (.string k) = decide (k ∈ ks)
theorem KeySet.nil : KeySet (.map []) [] := ⟨isMap_empty, fun k => by simp [Maps.has]⟩
theorem KeySet.put {D : DataW Unit} {ks : List (List UInt8)} (h : KeySet D ks) (k : List UInt8) : KeySet (D.put (.string k) (.agg [])) (ks ++ [k]) := by
  refine ⟨h.isMap.put _ _, fun k' => ?_⟩
  by_cases e : k' = k
  · subst e
    rw [has_put_same h.isMap (by trivial)]; simp
  · rw [has_put_other (by intro x; cases x; exact e rfl), h.has]; simp [e]
structure SmallL (l : List Sf.Par) : Prop where
  len : l.length ≤ 10000
  each : ∀ p ∈ l, SmallP p
/-- What Tail and Text answer. -/
def textV (o : Option (List UInt8)) : Value := .tuple #[.string (bA (o.getD [])), .int .i64 (if o.isSome then 0 else 50)]
structure TInv (w : World) (l : List Sf.Par) (j : Nat) (wr : World) (t : List UInt8) (D : DataW Unit) : Prop where
  jl : j ≤ l.length
  b : Lib.IsBuilderF 70 5 w.heap.size w.heap.size (Lib.byteCells t) wr
  map : wr.ownsMap Tryz.prog 9 (unitElem (H := Unit)) (w.heap.size + 1) j D
  set : KeySet D (Sf.keys (l.take j))
  below : Below w.heap.size w wr
  sz : w.heap.size + 2 ≤ wr.heap.size
  len : t.length ≤ j * 60000
  eq : Sf.tailF [] l = (Sf.tailF (Sf.keys (l.take j)) (l.drop j)).map fun x => t ++ x
theorem ptext_len {p : Sf.Par} {t : List UInt8} (h : Sf.ptext p = some t) (hp : SmallP p) : t.length ≤ 60000 := by
  unfold Sf.ptext at h
  split at h
  · cases hv : Sf.vtext p.kind p.n p.text with
    | none => rw [hv] at h; cases h
    | some v =>
      rw [hv] at h
      simp only [Option.map_some, Option.some.injEq] at h
      have h1 := vtext_len hv hp.text
      have h2 := hp.key
      rw [← h]
      simp only [List.length_cons, List.length_append]
      split
      · simp; omega
      · simp only [List.length_cons]; omega
  · cases h
theorem tail_step {l : List Sf.Par} {j : Nat} (hj : j < l.length) (seen : List (List UInt8)) : Sf.tailF seen (l.drop j) = if l[j].key ∈ seen then none else match Sf.ptext l[j] with | none => none | some a => (Sf.tailF (seen ++ [l[j].key]) (l.drop (j + 1))).map fun b => a ++ b := by
  rw [List.drop_eq_getElem_cons hj, Sf.tailF]; rfl
theorem keys_take {l : List Sf.Par} {j : Nat} (hj : j < l.length) : Sf.keys (l.take (j + 1)) = Sf.keys (l.take j) ++ [l[j].key] := by
  rw [List.take_succ_eq_append_getElem hj]; unfold Sf.keys; rw [List.map_append]; rfl
theorem zero_unit (w : World) : (zeroValue 73).run Tryz.prog w = .ok (.agg #[]) w := by kernel_rfl

set_option maxHeartbeats 4000000 in
set_option maxRecDepth 100000 in
theorem tail_any (A : Option Addr) (cp : Nat) (l : List Sf.Par) (w : World) (hA : SeenP w A l) (hS : SmallL l) (hT : Tab w) (hM : TabM w) :
    Calls Tryz.prog 26 #[.slice A l.length cp] w fun e w' => e = .returned (textV (Sf.tailF [] l)) ∧ Below w.heap.size w w' := by
  have hmm := @run_makeMap Tryz.prog
  have hsz : (w.alloc (.cells #[.pointer none, .slice none 0 0] 70)).heap.size = w.heap.size + 1 := by simp
  have hst : TInv w l 0 ((w.alloc (.cells #[.pointer none, .slice none 0 0] 70)).alloc (.map #[] 0)) [] (.map []) :=
    ⟨Nat.zero_le _, bldr_below (Lib.IsBuilderF.of (Lib.fresh_isBuilder _ _ w)) ((Below.refl _ _).alloc (Nat.le_refl _) _), by rw [← hsz]; exact World.ownsMap_made _ _ _ _, KeySet.nil, below_al ((Below.refl _ _).alloc (Nat.le_refl _) _) _, by simp, by simp, by simp [Sf.keys]⟩
  have HS := Lib.hid hst
  have hlen := hS.len
  have HE := Lib.hid hS.each
  have HA := Lib.hid hA; have HT := Lib.hid hT; have HM := Lib.hid hM
  obtain ⟨o, ho⟩ : ∃ o, Sf.tailF [] l = o := ⟨_, rfl⟩
  rw [ho]
  have HO := Lib.hid ho
  clear hst hsz hS hA hT hM ho
  go_enter Tryz.func26, Tryz.ntmps26
  go_wp2_with fail
  go_loopg [15] l.length (fun k i wr => ∃ j t D, l.length - j = k ∧ i = .int .i64 ((j : Nat) : Int) ∧ TInv w l j wr t D)
  case atStart => exact ⟨0, [], .map [], rfl, rfl, HS.out⟩
  case round =>
    obtain ⟨j, t, D, hk, rfl, hI⟩ := hrel
    have HI := Lib.hid hI
    have hjl := hI.jl
    have hsz := hI.sz
    clear hI HS hmm
    by_cases hj : j < l.length
    · obtain ⟨g, of, rfl, hab, hcell⟩ := HA.out.below HI.out.below (by omega)
      obtain ⟨c0, c1, c2, c3⟩ := hcell j hj
      obtain ⟨p, hp⟩ : ∃ p, l[j] = p := ⟨_, rfl⟩
      rw [hp] at c0 c1 c2 c3
      have hsp : SmallP p := by rw [← hp]; exact HE.out _ (List.getElem_mem hj)
      have HP := Lib.hid hp
      have HSP := Lib.hid hsp
      have hkl := hsp.key
      clear hp hcell hsp
      have hbp : Below wr.heap.size wr (wr.alloc (.cells (pC p) 44)) := (Below.refl _ _).alloc (Nat.le_refl _) _
      have hbw : Below w.heap.size w (wr.alloc (.cells (pC p) 44)) := below_al HI.out.below _
      have H1 := Lib.hid (paramText_any p _ HSP.out (HT.out.below hbw) (HM.out.below hbw))
      have HBP := Lib.hid hbp
      have HBX := Lib.hid (CBox.new wr 44 (pC p))
      clear hbp hbw
      go_wp2_with fail
      refine H1.out.mono ?_
      rintro e w1 ⟨rfl, hb1⟩
      have hB := HBP.out.trans (hb1.mono HBP.out.size)
      have hx1 := HBX.out.keep hb1
      have hsz1 := hB.size
      have HB1 := Lib.hid (bldr_below HI.out.b hB)
      have HM1 := Lib.hid (HI.out.map.kept (below_g hB none) (by simp))
      have HW1 := Lib.hid (HI.out.below.trans (hB.mono (by omega)))
      have d0 : w1.cell? ⟨wr.heap.size, 0, none⟩ = some (.string (bA p.key)) := hx1.c 0
      have HX1 := Lib.hid hx1
      have hlt1 := hx1.lt
      have HKL := Lib.hid (key_str p.key (by unfold maxLen; omega))
      have HST := Lib.hid (tail_step hj (Sf.keys (l.take j)))
      have HKT := Lib.hid (keys_take hj)
      rw [HP.out] at HST HKT
      clear hB hb1 hx1 H1 HBP HBX c0 c1 c2 c3 hab
      unfold writV
      cases hpt : Sf.ptext p with
      | none =>
        have hn : o = none := by
          rw [← HO.out, HI.out.eq, HST.out, hpt]
          split <;> rfl
        subst hn
        clear hpt
        go_wp2_with (at_lookup; refine wpList_lookup_own_unit _ rfl _ _ 71 rfl 9 73 law_str Tryz.underlying71 (zero_unit _) (w.heap.size + 1) j D rfl HM1.out _ _ rfl HKL.out ?_)
        go_ret2
        exact ⟨rfl, below_al HW1.out _⟩
      | some tx =>
        have htl := ptext_len hpt HSP.out
        by_cases hmem : p.key ∈ Sf.keys (l.take j)
        · have hn : o = none := by rw [← HO.out, HI.out.eq, HST.out, if_pos hmem]; rfl
          subst hn
          have hh : Maps.has D (.string p.key) = true := by rw [HI.out.set.has]; simpa using hmem
          clear hpt hmem
          go_wp2_with (at_lookup; refine wpList_lookup_own_unit _ rfl _ _ 71 rfl 9 73 law_str Tryz.underlying71 (zero_unit _) (w.heap.size + 1) j D rfl HM1.out _ _ rfl HKL.out ?_)
          go_ret2
          exact ⟨rfl, below_al HW1.out _⟩
        · have hh : Maps.has D (.string p.key) = false := by rw [HI.out.set.has]; simpa using hmem
          have HE2 : Hid (Sf.tailF [] l = (Sf.tailF (Sf.keys (l.take (j + 1))) (l.drop (j + 1))).map fun x => (t ++ tx) ++ x) := by
            rw [Hid, HI.out.eq, HST.out, if_neg hmem, hpt, HKT.out]
            simp only [Option.map_map]
            congr 1
            funext x
            simp
          have htt := HI.out.len
          clear hpt hmem HST
          go_wp2_with (first
            | (at_lookup; refine wpList_lookup_own_unit _ rfl _ _ 71 rfl 9 73 law_str Tryz.underlying71 (zero_unit _) (w.heap.size + 1) j D rfl HM1.out _ _ rfl HKL.out ?_)
            | (at_mapUpdate; refine wpList_mapUpdate_own _ rfl _ _ _ 71 rfl 9 73 law_str Tryz.underlying71 (unitElem (H := Unit)) (w.heap.size + 1) j D rfl (HM1.out.alloc _) ?_ _ _ _ rfl rfl HKL.out _ [] unitElem_mk ?_))
          · unfold maxLen; omega
          intro w2 hm2 hg2
          have HB2 := Lib.hid (bldr_kept (bldr_below HB1.out ((Below.refl _ _).alloc (Nat.le_refl _) (.cells #[] 73))) hg2 (by simp) (map_not (HM1.out.alloc _)))
          have HW2 := Lib.hid ((below_al HW1.out (.cells #[] 73)).grown hg2 (by have := HW1.out.size; simp; omega) (fun k hk => by cases hk; omega))
          have HM2 := Lib.hid hm2
          have hsz2 := hg2.size
          have H3 := Lib.hid (writeS_any w.heap.size t tx w2 HB2.out (by omega))
          clear hm2 hg2 HB1 HM1 HW1 hh d0 HX1
          go_wp2_with fail
          refine H3.out.mono ?_
          rintro e w3 ⟨rfl, hb3, hw3, hk3⟩
          have HB3 := Lib.hid hb3
          have HW3 := Lib.hid (HW2.out.trans hw3)
          have HM3 := Lib.hid (map_others HM2.out hk3 (by omega))
          have hsz3 := hw3.size
          clear hb3 hw3 hk3 H3
          go_wp2_with fail
          go_roundg (l.length - (j + 1))
          case measure => omega
          case rel =>
            refine ⟨j + 1, t ++ tx, D.put (.string p.key) (.agg []), rfl, by go_num, ?_⟩
            exact { jl := by omega
                    b := HB3.out
                    map := HM3.out
                    set := by rw [HKT.out]; exact HI.out.set.put p.key
                    below := HW3.out
                    sz := by simp at hsz2; omega
                    len := by rw [List.length_append]; omega
                    eq := HE2.out }
    · have hjj : j = l.length := by omega
      subst hjj
      have hn : o = some t := by
        rw [← HO.out, HI.out.eq, List.drop_length, Sf.tailF]; simp
      subst hn
      have H1 := Lib.hid (string_any w.heap.size t wr HI.out.b)
      go_wp2_with fail
      refine H1.out.mono ?_
      rintro e w1 ⟨rfl, hb1⟩
      have HW := Lib.hid (HI.out.below.trans hb1)
      clear hb1 H1
      go_wp2_with fail
      go_ret2
      exact ⟨rfl, HW.out⟩
end Go.Proofs.YtilclhhpmenjaaaGreatDoor
