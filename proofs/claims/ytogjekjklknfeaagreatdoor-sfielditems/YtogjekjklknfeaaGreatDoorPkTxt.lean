/- Texts of one layer, joined. -/
import Derived.Test.YtogjekjklknfeaaGreatDoorPkMem
import Derived.Test.YtogjekjklknfeaaGreatDoorPkSdm
import Derived.Maps.Views

/- The contracts of sfield's isEmpty, innerText, memberText, listedText, entryText. -/

namespace Go.Proofs.YtogjekjklknfeaaGreatDoor
open Go.RowKit Go.Shelf Go.Maps Go.Deep

theorem jn_lib (sep : List UInt8) (ts : List (List UInt8)) : Lib.join ts sep = Sf.jn sep ts := by
  cases ts with
  | nil => rfl
  | cons a l => rw [Lib.join_cons, Lib.joinTail, Sf.jn]; congr 1
theorem jn_ge (sep : List UInt8) (ts : List (List UInt8)) (h : 0 < sep.length) : ts.length ≤ (Sf.jn sep ts).length + 1 := by
  cases ts with
  | nil => simp
  | cons a l =>
    have : l.length ≤ (l.flatMap fun b => sep ++ b).length := by
      induction l with
      | nil => simp
      | cons b l ih => simp only [List.flatMap_cons, List.length_append, List.length_cons]; omega
    simp only [Sf.jn, List.length_append, List.length_cons]; omega
def strV (l : List UInt8) : Value := .string (bA l)
/-- strings.Join of texts of one's own. -/
theorem joinT_any (sep : List UInt8) (hs : 0 < sep.length) (v : Value) (ts : List (List UInt8)) (base n : Nat) (w : World) (h : w.ownsRow base 9 1 v n (ts.map strV)) (hn : n = ts.length) (hlen : (Sf.jn sep ts).length ≤ 140737488355327) :
    Calls Tryz.prog 51 #[v, .string (bA sep)] w fun e w' => e = .returned (.string (bA (Sf.jn sep ts))) ∧ Below w.heap.size w w' := by
  subst hn
  have hc := h
  obtain ⟨_, ⟨h1, h2⟩ | ⟨g, cap, cur, h1, hb, hg, h3, h4, h5, h6⟩⟩ := h
  · have e0 : ts = [] := List.length_eq_zero_iff.1 h2
    subst e0; subst h1
    refine (Tryz.strings_Join_none none 0 (bA sep) w).mono ?_
    rintro e w' ⟨rfl, rfl⟩
    exact ⟨rfl, Below.refl _ _⟩
  · subst h1
    have hm : (ts.map bA).map (·.data.toList) = ts := by rw [List.map_map]; exact List.map_id' ts
    have hl : (ts.map bA).length = ts.length := List.length_map _
    have hge := jn_ge sep ts hs
    have := Tryz.strings_Join g 0 cap (ts.map bA) (bA sep) w (fun j x hx => by
      rw [List.getElem?_map] at hx
      have := (own_cell hc (i := j) (u := .string x) (by rw [List.getElem?_map]; cases ht : ts[j]? with | none => rw [ht] at hx; cases hx | some t => rw [ht] at hx; cases hx; rfl)).1
      rw [Nat.zero_add]; exact this) (Array.getElem?_eq_some_iff.1 hg).1 (by rw [hl]; omega) (by rw [hl]; exact h3) (by rw [hm, show (bA sep).data.toList = sep from rfl, jn_lib]; omega)
    rw [hl] at this
    refine this.mono ?_
    rintro e w' ⟨rfl, hw⟩
    exact ⟨by rw [hm, show (bA sep).data.toList = sep from rfl, jn_lib], hw⟩

/-- A text, or that there is none, as the program tells it. -/
def mtV (o : Option (List UInt8)) : Value := .tuple #[.string (bA (o.getD [])), .bool o.isSome]
def mtx (m : Sf.Mem) : Option (List UInt8) := if Sf.okM m then some (Sf.mt m) else none
/-- A member that is not too great. -/
structure SmallM (m : Sf.Mem) : Prop where
  key : m.key.length ≤ 10000
  item : SmallI m.item.kind m.item.n m.item.text m.item.params
  len : m.items.length ≤ 4000
  each : ∀ x ∈ m.items, SmallI x.kind x.n x.text x.params
  params : SmallL m.params
theorem text_size {x : Sf.Itm} {t : List UInt8} (h : Sf.text x = some t) (hs : SmallI x.kind x.n x.text x.params) : t.length ≤ 700000000 := by
  obtain ⟨v, hv, hl, rfl⟩ := Sf.text_ways h
  have h1 := vtext_len hv hs.text
  have h2 := tail_len (Sf.tail_vld hl) hs.params.each
  have h3 : x.params.length * 60000 ≤ 10000 * 60000 := Nat.mul_le_mul hs.params.len (Nat.le_refl _)
  rw [List.length_append]; omega
theorem itxt_size {x : Sf.Itm} (hs : SmallI x.kind x.n x.text x.params) : (Sf.itxt x).length ≤ 700000000 := by
  unfold Sf.itxt
  cases h : Sf.text x with
  | none => simp
  | some t => exact text_size h hs
theorem T_size {l : List Sf.Par} (hv : (Sf.tailF [] l).isSome = true) (hs : SmallL l) : (Sf.T l).length ≤ 600000000 := by
  have h2 := tail_len (Sf.tail_vld (Sf.tail_some hv)) hs.each
  have h3 : l.length * 60000 ≤ 10000 * 60000 := Nat.mul_le_mul hs.len (Nat.le_refl _)
  omega
theorem jn_size (sep : List UInt8) (k : Nat) : ∀ (ts : List (List UInt8)), (∀ t ∈ ts, t.length ≤ k) → (Sf.jn sep ts).length ≤ ts.length * (k + sep.length)
  | [], _ => by simp [Sf.jn]
  | a :: l, h => by
    have : ∀ (l : List (List UInt8)), (∀ t ∈ l, t.length ≤ k) → (l.flatMap fun b => sep ++ b).length ≤ l.length * (k + sep.length) := by
      intro l
      induction l with
      | nil => simp
      | cons b l ih =>
        intro h
        have h1 := h b (by simp)
        have h2 := ih (fun t ht => h t (by simp [ht]))
        simp only [List.flatMap_cons, List.length_append, List.length_cons, Nat.succ_mul]; omega
    have h1 := h a (by simp)
    have h2 := this l (fun t ht => h t (by simp [ht]))
    simp only [Sf.jn, List.length_append, List.length_cons, Nat.succ_mul]; omega
theorem mt_size {m : Sf.Mem} (h : Sf.okM m = true) (hs : SmallM m) : (Sf.mt m).length ≤ 3000000000000 := by
  unfold Sf.mt
  split
  · rename_i hi
    unfold Sf.okM at h
    rw [if_pos hi, Bool.and_eq_true, Bool.and_eq_true] at h
    have h1 := jn_size [32] 700000000 (m.items.map Sf.itxt) (fun t ht => by obtain ⟨x, hx, rfl⟩ := List.mem_map.1 ht; exact itxt_size (hs.each x hx))
    have h2 := T_size h.2.2 hs.params
    rw [List.length_map] at h1
    have h3 : m.items.length * (700000000 + [(32 : UInt8)].length) ≤ 4000 * (700000000 + [(32 : UInt8)].length) := Nat.mul_le_mul hs.len (Nat.le_refl _)
    simp only [List.length_cons, List.length_append, List.length_nil] at h1 h3 ⊢
    omega
  · exact Nat.le_trans (itxt_size hs.item) (by omega)

theorem len0 {α : Type} (l : List α) : ((l.length : Int) == 0) = l.isEmpty := by
  cases l with
  | nil => rfl
  | cons a l => rw [List.length_cons, List.isEmpty_cons, beq_eq_false_iff_ne]; omega
set_option maxHeartbeats 1000000 in
theorem isEmpty_any (k n : Int) (t : List UInt8) (A : Option Addr) (c : Nat) (l : List Sf.Par) (w : World) : Calls Tryz.prog 113 #[.agg #[.int .i64 k, .int .i64 n, .string (bA t), .slice A l.length c]] w fun e w' => e = .returned (.bool (Sf.bareB ⟨k, n, t, l⟩)) ∧ Below w.heap.size w w' := by
  unfold Sf.bareB
  have h0 := len0 l
  go_enter Tryz.func113, Tryz.ntmps113
  go_wp2_with fail
  all_goals (go_ret; refine ⟨Oct.ret_bool ?_, below_one _ _⟩; simp_all)
end Go.Proofs.YtogjekjklknfeaaGreatDoor

/- The contracts of sfield's innerText and memberText. -/

namespace Go.Proofs.YtogjekjklknfeaaGreatDoor
open Go.RowKit Go.Shelf Go.Maps Go.Deep

theorem info_str : (Tryz.prog.info? 9).map (fun i => (i.zero, i.size, i.bytes)) = some (some (.string ⟨#[]⟩), 1, 16) := by kernel_rfl
theorem slice1 {w : World} {base : Nat} {e : TypeId} {size : Nat} {v : Value} {n : Nat} {xs : List Value} (h : w.ownsRow base e size v n xs) : ∃ a cap, v = .slice a n cap := by
  obtain ⟨_, ⟨h1, h2⟩ | ⟨g, cap, _, hv, _⟩⟩ := h
  · exact ⟨none, 0, by rw [h1, h2]⟩
  · exact ⟨_, _, hv⟩
theorem own_neE {w : World} {base : Nat} {e : TypeId} {size : Nat} {v : Value} {n b : Nat} {xs : List Value} (h : w.ownsRow base e size v n xs) (hb : b < base) : some b ≠ v.ownBlock := by
  intro e; have := (h.lt b e.symm).1; omega
def itRow (m : Sf.Mem) (j : Nat) : List Value := ((m.items.take j).map Sf.itxt).map strV
theorem itRow_next {m : Sf.Mem} {j : Nat} (hj : j < m.items.length) {t : List UInt8} (ht : Sf.itxt m.items[j] = t) : itRow m (j + 1) = itRow m j ++ [.string (bA t)] := by
  unfold itRow
  rw [List.take_succ_eq_append_getElem hj, List.map_append, List.map_append, List.map_singleton, List.map_singleton, ht]; rfl
structure InT (w : World) (m : Sf.Mem) (v1 v2 v3 : Value) (j : Nat) (wr : World) (v : Value) : Prop where
  jl : j ≤ m.items.length
  box : CBox wr w.heap.size 40 (mC m v1 v2 v3)
  row : wr.ownsRow (w.heap.size + 1) 9 1 v j (itRow m j)
  below : Below w.heap.size w wr
  sz : w.heap.size + 1 ≤ wr.heap.size
  all : ∀ x ∈ m.items.take j, (Sf.text x).isSome = true
theorem InT.bad {m : Sf.Mem} (hi : m.inner = true) {j : Nat} (hj : j < m.items.length) (h : Sf.text m.items[j] = none) : mtx m = none := by
  unfold mtx Sf.okM
  rw [hi]
  simp only [if_true]
  rw [if_neg]
  simp only [Bool.and_eq_true, List.all_eq_true, not_and]
  intro _ h2
  have := h2 _ (List.getElem_mem hj)
  rw [h] at this; cases this
theorem InT.next {w wr w7 : World} {m : Sf.Mem} {v1 v2 v3 v v7 : Value} {j : Nat} {t : List UInt8} (h : InT w m v1 v2 v3 j wr v) (hj : j < m.items.length) (ht : Sf.text m.items[j] = some t) {w5 : World} (hb : Below wr.heap.size wr w5) (o : Obj) (hown : w7.ownsRow (w.heap.size + 1) 9 1 v7 (j + 1) (itRow m j ++ [.string (bA t)])) (hg : (w5.alloc o).grownBy w7 v.ownBlock) : InT w m v1 v2 v3 (j + 1) w7 v7 := by
  have hsz := h.sz
  have hs5 := hb.size
  have hs7 := hg.size
  simp at hs7
  have hit : Sf.itxt m.items[j] = t := by unfold Sf.itxt; rw [ht]; rfl
  refine ⟨hj, ((h.box.keep hb).alloc o).kept hg (own_neE h.row (by omega)), ?_, (below_al (onto h.below hb) o).grown hg (by simp; omega) (fun k hk => by have := (h.row.lt k hk).1; omega), by omega, ?_⟩
  · rw [itRow_next hj hit]; exact hown
  · intro x hx
    rw [List.take_succ_eq_append_getElem hj] at hx
    rcases List.mem_append.1 hx with hx | hx
    · exact h.all x hx
    · simp at hx; subst hx; rw [ht]; rfl
theorem mtx_tail {m : Sf.Mem} (hi : m.inner = true) (h : Sf.tailF [] m.params = none) : mtx m = none := by
  unfold mtx Sf.okM
  rw [hi, h]; simp
theorem mtx_bare {m : Sf.Mem} (hi : m.inner = true) (h : Sf.bareB m.item = false) : mtx m = none := by
  unfold mtx Sf.okM
  rw [hi, h]; simp
theorem okM_yes {m : Sf.Mem} (hi : m.inner = true) (hb : Sf.bareB m.item = true) (ha : ∀ x ∈ m.items, (Sf.text x).isSome = true) {t : List UInt8} (ht : Sf.tailF [] m.params = some t) : Sf.okM m = true := by
  unfold Sf.okM
  rw [hi, hb, ht, List.all_eq_true.2 ha]; rfl
theorem mt_yes {m : Sf.Mem} (hi : m.inner = true) {t : List UInt8} (ht : Sf.tailF [] m.params = some t) : Sf.mt m = 40 :: (Sf.jn [32] (m.items.map Sf.itxt) ++ 41 :: t) := by
  have hv := Sf.tail_vld (Sf.tail_some (by rw [ht]; rfl))
  rw [ht] at hv
  cases hv
  unfold Sf.mt
  rw [hi]; rfl
set_option maxHeartbeats 4000000 in
set_option maxRecDepth 100000 in
theorem innerText_any (m : Sf.Mem) (v1 v2 v3 : Value) (w : World) (hi : m.inner = true) (hM : SM w m v1 v2 v3) (hS : SmallM m) (hT : Tab w) (hTM : TabM w) :
    Calls Tryz.prog 84 #[.agg (mC m v1 v2 v3)] w fun e w' => e = .returned (mtV (mtx m)) ∧ Below w.heap.size w w' := by
  obtain ⟨i0, hi0, hz0, hz1, hz2⟩ := info_parts info_str
  have HI0 := Lib.hid hi0; have HZ0 := Lib.hid hz0; have HZ1 := Lib.hid hz1; have HZ2 := Lib.hid hz2
  obtain ⟨A1, p1, rfl, hs1⟩ := hM.item.is
  obtain ⟨A2, p2, rfl, hs2⟩ := hM.items.is
  obtain ⟨A3, p3, rfl, hs3⟩ := hM.params.is
  obtain ⟨v1, hv1⟩ : ∃ v1, v1 = Value.slice A1 m.item.params.length p1 := ⟨_, rfl⟩
  obtain ⟨v3, hv3⟩ : ∃ v3, v3 = Value.slice A3 m.params.length p3 := ⟨_, rfl⟩
  have HV1 := Lib.hid hv1; have HV3 := Lib.hid hv3
  rw [← hv1, ← hv3]
  have hst : InT w m v1 (.slice A2 m.items.length p2) v3 0 (w.alloc (.cells (mC m v1 (.slice A2 m.items.length p2) v3) 40)) (.slice none 0 0) :=
    ⟨Nat.zero_le _, CBox.new _ _ _, World.ownsRow_nil _ _ _ _, below_one _ _, by simp, by simp⟩
  have HS0 := Lib.hid hst
  have HA2 := Lib.hid hs2; have HA1 := Lib.hid hs1; have HA3 := Lib.hid hs3
  have HS := Lib.hid hS; have HT := Lib.hid hT; have HTM := Lib.hid hTM
  have HI := Lib.hid hi
  have hlen := hS.len
  obtain ⟨o, ho⟩ : ∃ o, mtx m = o := ⟨_, rfl⟩
  rw [ho]
  have HO := Lib.hid ho
  obtain ⟨c0, c1, c2, c3, c4, c5, c6, c7⟩ := hst.box.all8.1
  clear hi0 hz0 hz1 hz2 hst hs1 hs2 hs3 hS hT hTM hi ho hM hv1 hv3
  unfold mC
  go_enter Tryz.func84, Tryz.ntmps84
  go_wp2_with fail
  clear c0 c1 c2 c3 c4 c5 c6 c7
  go_loopg [4, 14] m.items.length (fun k v i wr => ∃ j : Nat, m.items.length - j = k ∧ i = .int .i64 j ∧ InT w m v1 (.slice A2 m.items.length p2) v3 j wr v)
  case atStart => exact ⟨0, rfl, rfl, HS0.out⟩
  case round =>
    obtain ⟨j, hk, rfl, hI⟩ := hrel
    obtain ⟨va, vc, rfl⟩ := slice1 hI.row
    have HV := Lib.hid hI
    have hjl := hI.jl
    have hsz := hI.sz
    clear hI HS0
    by_cases hj : j < m.items.length
    · obtain ⟨g, of, rfl, hab, hcell⟩ := HA2.out.below HV.out.below (by omega)
      obtain ⟨vx, hvx, d0, d1, d2, d3⟩ := hcell j hj
      obtain ⟨x, hx⟩ : ∃ x, m.items[j] = x := ⟨_, rfl⟩
      have hsx : SmallI x.kind x.n x.text x.params := by rw [← hx]; exact HS.out.each _ (List.getElem_mem hj)
      rw [hx] at hvx d0 d1 d2
      obtain ⟨B, pB, rfl, hsB⟩ := hvx.is
      have HX := Lib.hid hx
      have hb0 := below_one wr (.cells (iC x.kind x.n x.text (.slice B x.params.length pB)) 35)
      have H1 := Lib.hid (text_any x.kind x.n x.text B pB x.params _ hsx (hsB.below hb0) (HT.out.below (onto HV.out.below hb0)) (HTM.out.below (onto HV.out.below hb0)))
      have HB0 := Lib.hid hb0
      clear hx hsx hcell hvx hsB hb0
      go_wp2_with fail
      refine H1.out.mono ?_
      rintro e w1 ⟨rfl, hb1⟩
      have HB1 := Lib.hid (onto HB0.out hb1)
      have hs1 := HB1.out.size
      clear hb1 H1 HB0 d0 d1 d2 d3
      unfold textV
      cases ht : Sf.text ⟨x.kind, x.n, x.text, x.params⟩ with
      | none =>
        have hn : o = none := by rw [← HO.out]; exact InT.bad HI.out hj (by rw [HX.out]; exact ht)
        subst hn
        clear ht
        simp only [Option.isSome_none, Option.getD_none]
        go_wp2_with fail
        go_ret2
        exact ⟨rfl, onto HV.out.below HB1.out⟩
      | some t =>
        have HTX : Hid (Sf.text m.items[j] = some t) := Lib.hid (by rw [HX.out]; exact ht)
        clear ht
        simp only [Option.isSome_some, Option.getD_some]
        go_wp2_with (at_builtin; refine wpList_append_own _ rfl _ _ 92 rfl (w.heap.size + 1) 9 i0 (.string ⟨#[]⟩) 1 16 Tryz.underlying92 HI0.out HZ0.out HZ1.out HZ2.out rfl (by decide) _ _ _ rfl ((owns_keptT HV.out.row (.below HB1.out)).alloc _) ⟨w1.heap.size, 0, none⟩ 1 1 [.string (bA t)] rfl rfl (cells_new _ #[.string (bA t)] _) ?_ ?_ ?_ ?_ ?_)
        · intro u hu; simp at hu; subst hu; rfl
        · unfold maxLen; omega
        · omega
        · simp; omega
        intro v' w7 hown7 hg7 _
        have HN := Lib.hid (HV.out.next hj HTX.out HB1.out _ hown7 hg7)
        obtain ⟨va7, vc7, rfl⟩ := slice1 hown7
        clear hown7 hg7
        go_wp2_with fail
        go_roundg (m.items.length - (j + 1))
        case measure => omega
        case rel => exact ⟨j + 1, rfl, by go_num, HN.out⟩
    · have hjj : j = m.items.length := by omega
      subst hjj
      have hv1 := HV1.out
      have hv3 := HV3.out
      subst hv1
      subst hv3
      obtain ⟨c0, c1, c2, c3, c4, c5, c6, c7⟩ := HV.out.box.all8.1
      have H1 := Lib.hid (tail_any A3 p3 m.params wr (HA3.out.below HV.out.below) HS.out.params (HT.out.below HV.out.below) (HTM.out.below HV.out.below))
      go_wp2_with fail
      refine H1.out.mono ?_
      rintro e w1 ⟨rfl, hb1⟩
      have HB1 := Lib.hid hb1
      have HCB := Lib.hid (HV.out.box.keep hb1)
      clear hb1 H1 c0 c1 c2 c3 c4 c5 c6 c7
      unfold textV
      cases ht : Sf.tailF [] m.params with
      | none =>
        have hn : o = none := by rw [← HO.out]; exact mtx_tail HI.out ht
        subst hn
        clear ht
        simp only [Option.isSome_none, Option.getD_none]
        go_wp2_with fail
        go_ret2
        exact ⟨rfl, onto HV.out.below HB1.out⟩
      | some tl =>
        simp only [Option.isSome_some, Option.getD_some]
        obtain ⟨c0, c1, c2, c3, c4, c5, c6, c7⟩ := HCB.out.all8.1
        have H2 := Lib.hid (isEmpty_any m.item.kind m.item.n m.item.text A1 p1 m.item.params w1)
        obtain ⟨b, hb⟩ : ∃ b, Sf.bareB ⟨m.item.kind, m.item.n, m.item.text, m.item.params⟩ = b := ⟨_, rfl⟩
        rw [hb] at H2
        have hb' : Sf.bareB m.item = b := hb
        have HT2 := Lib.hid ht
        clear ht hb
        go_wp2_with fail
        refine H2.out.mono ?_
        rintro e w2 ⟨rfl, hb2⟩
        have HB2 := Lib.hid (onto HB1.out hb2)
        clear hb2 H2 c0 c1 c2 c3 c4 c5 c6 c7
        cases b with
        | false =>
          have hn : o = none := by rw [← HO.out]; exact mtx_bare HI.out hb'
          subst hn
          clear hb'
          go_wp2_with fail
          go_ret2
          exact ⟨rfl, onto HV.out.below HB2.out⟩
        | true =>
          have hok := okM_yes HI.out hb' (fun x hx => HV.out.all x (by rw [List.take_length]; exact hx)) HT2.out
          have hsz2 := mt_size hok HS.out
          have hmt := mt_yes HI.out HT2.out
          have hn : o = some (40 :: (Sf.jn [32] (m.items.map Sf.itxt) ++ 41 :: tl)) := by rw [← HO.out]; unfold mtx; rw [if_pos hok, hmt]
          subst hn
          rw [hmt] at hsz2
          simp only [List.length_cons, List.length_append] at hsz2
          have hrow : w2.ownsRow (w.heap.size + 1) 9 1 (.slice va m.items.length vc) m.items.length ((m.items.map Sf.itxt).map strV) := by
            have := owns_keptT HV.out.row (.below HB2.out)
            unfold itRow at this
            rwa [List.take_length] at this
          have H3 := Lib.hid (joinT_any [32] (by decide) (.slice va m.items.length vc) (m.items.map Sf.itxt) _ _ w2 hrow (by rw [List.length_map]) (by omega))
          obtain ⟨q, hq⟩ : ∃ q, Sf.jn [32] (m.items.map Sf.itxt) = q := ⟨_, rfl⟩
          rw [hq] at H3 hsz2
          have HQ := Lib.hid hq
          have z1 : ∀ W : World, (Op.stringOp .add ⟨#[40]⟩ (bA q)).run Tryz.prog W = .ok (.string (bA ([40] ++ q))) W := fun W => by
            rw [run_string_add_sum W (bA [40]) (bA q) (by simp only [bA_size, List.length_cons, List.length_nil]; omega), bA_app]
          have z2 : ∀ W : World, (Op.stringOp .add (bA ([40] ++ q)) ⟨#[41]⟩).run Tryz.prog W = .ok (.string (bA ([40] ++ q ++ [41]))) W := fun W => by
            rw [run_string_add_sum W (bA ([40] ++ q)) (bA [41]) (by simp only [bA_size, List.length_append, List.length_cons, List.length_nil]; omega), bA_app]
          have z3 : ∀ W : World, (Op.stringOp .add (bA ([40] ++ q ++ [41])) (bA tl)).run Tryz.prog W = .ok (.string (bA ([40] ++ q ++ [41] ++ tl))) W := fun W => by
            rw [run_string_add_sum W (bA ([40] ++ q ++ [41])) (bA tl) (by simp only [bA_size, List.length_append, List.length_cons, List.length_nil]; omega), bA_app]
          clear hok hmt hq hrow hb'
          go_wp2_with fail
          refine H3.out.mono ?_
          rintro e w3 ⟨rfl, hb3⟩
          have HB3 := Lib.hid (onto HB2.out hb3)
          clear hb3 H3
          go_wp2_with fail
          go_ret2
          refine ⟨?_, onto HV.out.below HB3.out⟩
          rw [HQ.out]
          unfold mtV
          simp only [Option.getD_some, Option.isSome_some]
          show Ending.returned (.tuple #[.string (bA ([40] ++ q) ++ bA [41] ++ bA tl), .bool true]) = _
          rw [bA_app, bA_app]
          simp
end Go.Proofs.YtogjekjklknfeaaGreatDoor

/- The contracts of sfield's memberText, listedText, entryText. -/

namespace Go.Proofs.YtogjekjklknfeaaGreatDoor
open Go.RowKit Go.Shelf Go.Maps Go.Deep

theorem mtx_item {m : Sf.Mem} (hi : m.inner = false) : mtx m = if m.items = [] ∧ m.params = [] then Sf.text m.item else none := by
  unfold mtx Sf.okM Sf.mt
  rw [hi]
  simp only [Bool.false_eq_true, if_false]
  cases ht : Sf.text m.item with
  | none => simp
  | some t =>
    have : Sf.itxt m.item = t := by unfold Sf.itxt; rw [ht]; rfl
    rw [this]
    simp
set_option maxHeartbeats 2000000 in
set_option maxRecDepth 20000 in
theorem memberText_any (m : Sf.Mem) (v1 v2 v3 : Value) (w : World) (hM : SM w m v1 v2 v3) (hS : SmallM m) (hT : Tab w) (hTM : TabM w) :
    Calls Tryz.prog 52 #[.agg (mC m v1 v2 v3)] w fun e w' => e = .returned (mtV (mtx m)) ∧ Below w.heap.size w w' := by
  obtain ⟨A1, p1, rfl, hs1⟩ := hM.item.is
  obtain ⟨A2, p2, rfl, hs2⟩ := hM.items.is
  obtain ⟨A3, p3, rfl, hs3⟩ := hM.params.is
  have hb0 := below_one w (.cells (mC m (.slice A1 m.item.params.length p1) (.slice A2 m.items.length p2) (.slice A3 m.params.length p3)) 40)
  have HB0 := Lib.hid hb0
  obtain ⟨o, ho⟩ : ∃ o, mtx m = o := ⟨_, rfl⟩
  have HO := Lib.hid ho
  cases hi : m.inner with
  | true =>
    have h1 := innerText_any m _ _ _ _ hi (hM.below hb0) hS (hT.below hb0) (hTM.below hb0)
    unfold mC at h1 ⊢
    rw [ho] at h1 ⊢
    rw [hi] at h1 ⊢
    have H1 := Lib.hid h1
    clear h1 hb0 ho hi hM hS hT hTM hs1 hs2 hs3
    go_enter Tryz.func52, Tryz.ntmps52
    go_wp2_with fail
    refine H1.out.mono ?_
    rintro e w1 ⟨rfl, hb1⟩
    have HB1 : Hid (Below w.heap.size w w1) := Lib.hid (onto (below_one _ _) hb1)
    clear hb1 H1
    unfold mtV
    go_wp2_with fail
    go_ret2
    exact ⟨rfl, HB1.out⟩
  | false =>
    have h1 := text_any m.item.kind m.item.n m.item.text A1 p1 m.item.params _ hS.item (hs1.below hb0) (hT.below hb0) (hTM.below hb0)
    have hx := mtx_item hi
    rw [ho] at hx ⊢
    unfold mC at h1 ⊢
    rw [hi] at h1 ⊢
    have H1 := Lib.hid h1
    have HX := Lib.hid hx
    have hl2 := hM.items.len
    have hl3 := hM.params.len
    unfold maxLen at hl2 hl3
    clear h1 hb0 ho hx hi hM hS hT hTM hs1 hs2 hs3 HO
    go_enter Tryz.func52, Tryz.ntmps52
    go_wp2_with fail
    refine H1.out.mono ?_
    rintro e w1 ⟨rfl, hb1⟩
    have HB1 : Hid (Below w.heap.size w w1) := Lib.hid (onto (below_one _ _) hb1)
    have HCB : Hid (CBox w1 w.heap.size 40 #[.string (bA m.key), .bool false, .int .i64 m.item.kind, .int .i64 m.item.n, .string (bA m.item.text), .slice A1 m.item.params.length p1, .slice A2 m.items.length p2, .slice A3 m.params.length p3]) := Lib.hid ((CBox.new _ _ _).keep hb1)
    obtain ⟨c0, c1, c2, c3, c4, c5, c6, c7⟩ := HCB.out.all8.1
    clear hb1 H1
    unfold textV
    cases ht : Sf.text ⟨m.item.kind, m.item.n, m.item.text, m.item.params⟩ with
    | none =>
      have hn : o = none := by
        have ht' : Sf.text m.item = none := ht
        rw [HX.out, ht']; split <;> rfl
      subst hn
      clear ht
      simp only [Option.isSome_none, Option.getD_none]
      go_wp2_with fail
      go_ret2
      exact ⟨rfl, HB1.out⟩
    | some t =>
      have ht' : Sf.text m.item = some t := ht
      rw [ht'] at HX
      clear ht ht'
      simp only [Option.isSome_some, Option.getD_some]
      by_cases hit : m.items = []
      · have q2 : m.items.length = 0 := by rw [hit]; rfl
        by_cases hpt : m.params = []
        · have q3 : m.params.length = 0 := by rw [hpt]; rfl
          have hn : o = some t := by rw [HX.out, if_pos ⟨hit, hpt⟩]
          subst hn
          rw [q2] at c6 ⊢
          rw [q3] at c7 ⊢
          clear hit hpt q2 q3 hl2 hl3
          go_wp2_with fail
          go_ret2
          exact ⟨rfl, HB1.out⟩
        · obtain ⟨k, q3⟩ : ∃ k, m.params.length = k + 1 := ⟨m.params.length - 1, by have := List.length_pos_iff.2 hpt; omega⟩
          have hn : o = none := by rw [HX.out, if_neg (fun h => hpt h.2)]
          subst hn
          rw [q2] at c6 ⊢
          rw [q3] at c7 hl3 ⊢
          clear hit hpt q2 q3 hl2
          go_wp2_with fail
          go_ret2
          exact ⟨rfl, HB1.out⟩
      · obtain ⟨k, q2⟩ : ∃ k, m.items.length = k + 1 := ⟨m.items.length - 1, by have := List.length_pos_iff.2 hit; omega⟩
        have hn : o = none := by rw [HX.out, if_neg (fun h => hit h.1)]
        subst hn
        rw [q2] at c6 hl2 ⊢
        clear hit q2 hl3
        go_wp2_with fail
        go_ret2
        exact ⟨rfl, HB1.out⟩

/-- A member's text in a list, in a dictionary, if it may be. -/
def etx (d : Bool) (m : Sf.Mem) : Option (List UInt8) := if Sf.okE d m then some (Sf.tx d m) else none
theorem etx_list (m : Sf.Mem) : etx false m = if m.key.isEmpty then mtx m else none := by
  unfold etx mtx Sf.okE Sf.tx
  cases Sf.okM m <;> cases m.key.isEmpty <;> rfl
set_option maxHeartbeats 2000000 in
set_option maxRecDepth 20000 in
theorem listedText_any (m : Sf.Mem) (v1 v2 v3 : Value) (w : World) (hM : SM w m v1 v2 v3) (hS : SmallM m) (hT : Tab w) (hTM : TabM w) :
    Calls Tryz.prog 31 #[.agg (mC m v1 v2 v3)] w fun e w' => e = .returned (mtV (etx false m)) ∧ Below w.heap.size w w' := by
  obtain ⟨A1, p1, rfl, hs1⟩ := hM.item.is
  obtain ⟨A2, p2, rfl, hs2⟩ := hM.items.is
  obtain ⟨A3, p3, rfl, hs3⟩ := hM.params.is
  have hb0 := below_one w (.cells (mC m (.slice A1 m.item.params.length p1) (.slice A2 m.items.length p2) (.slice A3 m.params.length p3)) 40)
  have h1 := memberText_any m _ _ _ _ (hM.below hb0) hS (hT.below hb0) (hTM.below hb0)
  rw [etx_list]
  obtain ⟨o, ho⟩ : ∃ o, mtx m = o := ⟨_, rfl⟩
  rw [ho] at h1 ⊢
  obtain ⟨p, hp⟩ : ∃ p, (if m.key.isEmpty then o else none) = p := ⟨_, rfl⟩
  rw [hp]
  have HP := Lib.hid hp
  unfold mC at h1 ⊢
  have H1 := Lib.hid h1
  clear h1 hb0 ho hM hS hT hTM hs1 hs2 hs3 hp
  go_enter Tryz.func31, Tryz.ntmps31
  go_wp2_with fail
  refine H1.out.mono ?_
  rintro e w1 ⟨rfl, hb1⟩
  have HB1 : Hid (Below w.heap.size w w1) := Lib.hid (onto (below_one _ _) hb1)
  have c0 : w1.cell? ⟨w.heap.size, 0, none⟩ = some (.string (bA m.key)) := ((CBox.new w 40 #[.string (bA m.key), .bool m.inner, .int .i64 m.item.kind, .int .i64 m.item.n, .string (bA m.item.text), .slice A1 m.item.params.length p1, .slice A2 m.items.length p2, .slice A3 m.params.length p3]).keep hb1).c 0
  clear hb1 H1
  unfold mtV
  cases o with
  | none =>
    have hn : p = none := by rw [← HP.out]; split <;> rfl
    subst hn
    simp only [Option.isSome_none, Option.getD_none]
    go_wp2_with fail
    go_ret2
    exact ⟨rfl, HB1.out⟩
  | some t =>
    simp only [Option.isSome_some, Option.getD_some]
    cases hk : m.key.isEmpty with
    | true =>
      have hn : p = some t := by rw [← HP.out, hk]; rfl
      subst hn
      go_wp2_with fail
      go_ret2
      exact ⟨rfl, HB1.out⟩
    | false =>
      have hn : p = none := by rw [← HP.out, hk]; rfl
      subst hn
      go_wp2_with fail
      go_ret2
      exact ⟨rfl, HB1.out⟩
end Go.Proofs.YtogjekjklknfeaaGreatDoor

/- The contracts of sfield's entryText and join. -/

namespace Go.Proofs.YtogjekjklknfeaaGreatDoor
open Go.RowKit Go.Shelf Go.Maps Go.Deep

theorem key_whole {k : List UInt8} (h : Sf.keyB k = true) : Sf.keyOf k = some (k, []) := by
  have := Sf.keyOf_back (r := []) h (.inl rfl)
  simpa using this
theorem key_cases (k : List UInt8) : (Sf.keyOf k = none ∧ Sf.keyB k = false) ∨ (∃ k' c r, Sf.keyOf k = some (k', c :: r) ∧ Sf.keyB k = false) ∨ (Sf.keyOf k = some (k, []) ∧ Sf.keyB k = true) := by
  cases hb : Sf.keyB k with
  | true => exact .inr (.inr ⟨key_whole hb, rfl⟩)
  | false =>
    cases hk : Sf.keyOf k with
    | none => exact .inl ⟨rfl, rfl⟩
    | some y =>
      obtain ⟨k', r⟩ := y
      cases r with
      | nil =>
        obtain ⟨e1, e2, _⟩ := Sf.keyOf_ways hk
        rw [List.append_nil] at e1
        rw [e1, e2] at hb; cases hb
      | cons c r => exact .inr (.inl ⟨k', c, r, rfl, rfl⟩)
theorem mtx_some {m : Sf.Mem} {t : List UInt8} (h : mtx m = some t) : Sf.okM m = true ∧ t = Sf.mt m := by
  unfold mtx at h
  split at h
  · rename_i hk; cases h; exact ⟨hk, rfl⟩
  · cases h
theorem etx_one {m : Sf.Mem} {t : List UInt8} (h : mtx m = some t) (hk : Sf.keyB m.key = true) (h6 : m.item.kind = 6) (h1 : m.item.n = 1) : Sf.tailF [] m.item.params = some (Sf.T m.item.params) ∧ etx true m = some (m.key ++ Sf.T m.item.params) := by
  obtain ⟨hok, _⟩ := mtx_some h
  have hi : m.inner = false := by
    cases hi : m.inner with
    | false => rfl
    | true =>
      unfold Sf.okM at hok
      rw [hi, if_pos rfl, Bool.and_eq_true] at hok
      have := Sf.bare_iff.1 hok.1
      rw [this] at h6; cases h6
  have ht : (Sf.text m.item).isSome = true := by
    unfold Sf.okM at hok
    rw [hi] at hok
    simp only [Bool.false_eq_true, if_false, Bool.and_eq_true] at hok
    exact hok.1
  obtain ⟨v, _, hl, _⟩ := Sf.text_ways (Sf.itxt_is ht)
  refine ⟨Sf.tail_vld hl, ?_⟩
  unfold etx Sf.okE Sf.tx Sf.dt Sf.oneB
  rw [hok, hk, hi, h6, h1]; rfl
theorem etx_val {m : Sf.Mem} {t : List UInt8} (h : mtx m = some t) (hk : Sf.keyB m.key = true) (hn : ¬ (m.item.kind = 6 ∧ m.item.n = 1)) : etx true m = some (m.key ++ 61 :: t) := by
  obtain ⟨hok, rfl⟩ := mtx_some h
  unfold etx Sf.okE Sf.tx Sf.dt Sf.oneB
  rw [hok, hk]
  have : (m.item.kind == 6 && m.item.n == 1) = false := by
    rw [Bool.and_eq_false_iff, beq_eq_false_iff_ne, beq_eq_false_iff_ne]
    by_cases h6 : m.item.kind = 6
    · exact .inr (fun h1 => hn ⟨h6, h1⟩)
    · exact .inl h6
  rw [this]
  simp
theorem etx_nokey {m : Sf.Mem} (hk : Sf.keyB m.key = false) : etx true m = none := by
  unfold etx Sf.okE; rw [hk]; simp
theorem etx_notext {m : Sf.Mem} (h : mtx m = none) : etx true m = none := by
  unfold mtx at h
  split at h
  · cases h
  · rename_i hk
    unfold etx Sf.okE
    rw [show Sf.okM m = false by simpa using hk]; simp
set_option maxHeartbeats 4000000 in
set_option maxRecDepth 20000 in
theorem entryText_any (m : Sf.Mem) (v1 v2 v3 : Value) (w : World) (hM : SM w m v1 v2 v3) (hS : SmallM m) (hT : Tab w) (hTM : TabM w) :
    Calls Tryz.prog 33 #[.agg (mC m v1 v2 v3)] w fun e w' => e = .returned (mtV (etx true m)) ∧ Below w.heap.size w w' := by
  obtain ⟨A1, p1, rfl, hs1⟩ := hM.item.is
  obtain ⟨A2, p2, rfl, hs2⟩ := hM.items.is
  obtain ⟨A3, p3, rfl, hs3⟩ := hM.params.is
  have hb0 := below_one w (.cells (mC m (.slice A1 m.item.params.length p1) (.slice A2 m.items.length p2) (.slice A3 m.params.length p3)) 40)
  have h1 := memberText_any m _ _ _ _ (hM.below hb0) hS (hT.below hb0) (hTM.below hb0)
  obtain ⟨o, ho⟩ : ∃ o, mtx m = o := ⟨_, rfl⟩
  rw [ho] at h1
  obtain ⟨p, hp⟩ : ∃ p, etx true m = p := ⟨_, rfl⟩
  rw [hp]
  have HP := Lib.hid hp; have HO := Lib.hid ho
  unfold mC at h1 ⊢
  have H1 := Lib.hid h1
  have hkl := hS.key
  have HS := Lib.hid hS; have HT := Lib.hid hT; have HTM := Lib.hid hTM; have HA1 := Lib.hid hs1
  clear h1 hb0 ho hM hS hT hTM hs1 hs2 hs3 hp
  go_enter Tryz.func33, Tryz.ntmps33
  go_wp2_with fail
  refine H1.out.mono ?_
  rintro e w1 ⟨rfl, hb1⟩
  have HB1 : Hid (Below w.heap.size w w1) := Lib.hid (onto (below_one _ _) hb1)
  have HCB := Lib.hid ((CBox.new w 40 #[.string (bA m.key), .bool m.inner, .int .i64 m.item.kind, .int .i64 m.item.n, .string (bA m.item.text), .slice A1 m.item.params.length p1, .slice A2 m.items.length p2, .slice A3 m.params.length p3]).keep hb1)
  have c0 : w1.cell? ⟨w.heap.size, 0, none⟩ = some (.string (bA m.key)) := HCB.out.c 0
  have H2 := Lib.hid (key_is_any m.key w1 (by omega))
  clear hb1 H1
  unfold mtV
  go_wp2_with fail
  refine H2.out.mono ?_
  rintro e w2 ⟨hb2, hk⟩
  have HB2 := Lib.hid (onto HB1.out hb2)
  have HCB2 := Lib.hid (HCB.out.keep hb2)
  have hkc := key_cases m.key
  obtain ⟨c0', c1, c2, c3, c4, c5, c6, c7⟩ := HCB2.out.all8.1
  clear hb2 H2 HCB c0
  cases o with
  | none =>
    have hn : p = none := by rw [← HP.out]; exact etx_notext HO.out
    subst hn
    clear hkc
    rcases hk with ⟨k, r, _, rfl⟩ | ⟨_, rfl⟩
    · simp only [Option.isSome_none, Option.getD_none]
      go_wp2_with fail
      go_ret2
      exact ⟨rfl, HB2.out⟩
    · simp only [Option.isSome_none, Option.getD_none]
      go_wp2_with fail
      go_ret2
      exact ⟨rfl, HB2.out⟩
  | some t =>
    simp only [Option.isSome_some, Option.getD_some]
    rcases hkc with ⟨hk1, hk2⟩ | ⟨k', c, r, hk1, hk2⟩ | ⟨hk1, hk2⟩
    · have hn : p = none := by rw [← HP.out]; exact etx_nokey hk2
      subst hn
      rw [hk1] at hk
      rcases hk with ⟨k, r, hx, _⟩ | ⟨_, rfl⟩
      · cases hx
      · clear hk1 hk2
        go_wp2_with fail
        go_ret2
        exact ⟨rfl, HB2.out⟩
    · have hn : p = none := by rw [← HP.out]; exact etx_nokey hk2
      subst hn
      rw [hk1] at hk
      rcases hk with ⟨k, r', hx, rfl⟩ | ⟨hx, _⟩
      · cases hx
        clear hk1 hk2
        go_wp2_with fail
        go_ret2
        exact ⟨rfl, HB2.out⟩
      · cases hx
    · rw [hk1] at hk
      rcases hk with ⟨k, r', hx, rfl⟩ | ⟨hx, _⟩
      · cases hx
        have HK2 := Lib.hid hk2
        have hmt := mt_size (mtx_some HO.out).1 HS.out
        rw [← (mtx_some HO.out).2] at hmt
        clear hk1 hk2
        by_cases k6 : m.item.kind = 6
        · by_cases n1 : m.item.n = 1
          · obtain ⟨e1, e2⟩ := etx_one HO.out HK2.out k6 n1
            have hn : p = some (m.key ++ Sf.T m.item.params) := by rw [← HP.out]; exact e2
            subst hn
            have hts := T_size (by rw [e1]; rfl) HS.out.item.params
            have h3 := tail_any A1 p1 m.item.params w2 (HA1.out.below HB2.out) HS.out.item.params (HT.out.below HB2.out) (HTM.out.below HB2.out)
            rw [e1] at h3
            have H3 := Lib.hid h3
            obtain ⟨T, hT⟩ : ∃ T, Sf.T m.item.params = T := ⟨_, rfl⟩
            rw [hT] at H3 hts
            have HTT := Lib.hid hT
            have q1 : (m.item.kind == 6) = true := by simp [k6]
            have q2 : (m.item.n == 1) = true := by simp [n1]
            have z1 : ∀ W : World, (Op.stringOp .add (bA m.key) (bA T)).run Tryz.prog W = .ok (.string (bA (m.key ++ T))) W := fun W => by
              rw [run_string_add_sum W (bA m.key) (bA T) (by simp only [bA_size]; omega), bA_app]
            clear h3 e1 e2 k6 n1 hT
            go_wp2_with fail
            refine H3.out.mono ?_
            rintro e w3 ⟨rfl, hb3⟩
            have HB3 := Lib.hid (onto HB2.out hb3)
            have d0 : w3.cell? ⟨w.heap.size, 0, none⟩ = some (.string (bA m.key)) := (HCB2.out.keep hb3).c 0
            unfold textV
            simp only [Option.isSome_some, Option.getD_some]
            clear hb3 H3
            go_wp2_with fail
            go_ret2
            exact ⟨by rw [HTT.out]; rfl, HB3.out⟩
          · have hn : p = some (m.key ++ 61 :: t) := by rw [← HP.out]; exact etx_val HO.out HK2.out (fun h => n1 h.2)
            subst hn
            have q1 : (m.item.kind == 6) = true := by simp [k6]
            have q2 : (m.item.n == 1) = false := by simpa using n1
            have z1 : ∀ W : World, (Op.stringOp .add (bA m.key) ⟨#[61]⟩).run Tryz.prog W = .ok (.string (bA (m.key ++ [61]))) W := fun W => by
              rw [run_string_add_sum W (bA m.key) (bA [61]) (by simp only [bA_size, List.length_cons, List.length_nil]; omega), bA_app]
            have z2 : ∀ W : World, (Op.stringOp .add (bA (m.key ++ [61])) (bA t)).run Tryz.prog W = .ok (.string (bA (m.key ++ [61] ++ t))) W := fun W => by
              rw [run_string_add_sum W (bA (m.key ++ [61])) (bA t) (by simp only [bA_size, List.length_append, List.length_cons, List.length_nil]; omega), bA_app]
            clear k6 n1
            go_wp2_with fail
            go_ret2
            exact ⟨rfl, HB2.out⟩
        · have hn : p = some (m.key ++ 61 :: t) := by rw [← HP.out]; exact etx_val HO.out HK2.out (fun h => k6 h.1)
          subst hn
          have q1 : (m.item.kind == 6) = false := by simpa using k6
          have z1 : ∀ W : World, (Op.stringOp .add (bA m.key) ⟨#[61]⟩).run Tryz.prog W = .ok (.string (bA (m.key ++ [61]))) W := fun W => by
            rw [run_string_add_sum W (bA m.key) (bA [61]) (by simp only [bA_size, List.length_cons, List.length_nil]; omega), bA_app]
          have z2 : ∀ W : World, (Op.stringOp .add (bA (m.key ++ [61])) (bA t)).run Tryz.prog W = .ok (.string (bA (m.key ++ [61] ++ t))) W := fun W => by
            rw [run_string_add_sum W (bA (m.key ++ [61])) (bA t) (by simp only [bA_size, List.length_append, List.length_cons, List.length_nil]; omega), bA_app]
          clear k6
          go_wp2_with fail
          go_ret2
          exact ⟨rfl, HB2.out⟩
      · cases hx
end Go.Proofs.YtogjekjklknfeaaGreatDoor

/- The contracts of sfield's join, ListText and DictText. -/
namespace Go.Proofs.YtogjekjklknfeaaGreatDoor
open Go.RowKit Go.Shelf Go.Maps Go.Deep

def exRow (d : Bool) (l : List Sf.Mem) (j : Nat) : List Value := ((l.take j).map (Sf.tx d)).map strV
theorem exRow_next {d : Bool} {l : List Sf.Mem} {j : Nat} (hj : j < l.length) {t : List UInt8} (ht : Sf.tx d l[j] = t) : exRow d l (j + 1) = exRow d l j ++ [.string (bA t)] := by
  unfold exRow
  rw [List.take_succ_eq_append_getElem hj, List.map_append, List.map_append, List.map_singleton, List.map_singleton, ht]; rfl
structure JoI (w : World) (d : Bool) (l : List Sf.Mem) (j : Nat) (wr : World) (v : Value) : Prop where
  jl : j ≤ l.length
  row : wr.ownsRow w.heap.size 9 1 v j (exRow d l j)
  below : Below w.heap.size w wr
  all : ∀ m ∈ l.take j, Sf.okE d m = true
/-- The text of members, if all of them may be. -/
def jnx (d : Bool) (l : List Sf.Mem) : Option (List UInt8) := if l.all (Sf.okE d) then some (Sf.jn [44, 32] (l.map (Sf.tx d))) else none
theorem etx_some {d : Bool} {m : Sf.Mem} {t : List UInt8} (h : etx d m = some t) : Sf.okE d m = true ∧ Sf.tx d m = t := by
  unfold etx at h
  split at h
  · rename_i hk; cases h; exact ⟨hk, rfl⟩
  · cases h
theorem etx_none {d : Bool} {l : List Sf.Mem} {j : Nat} (hj : j < l.length) (h : etx d l[j] = none) : jnx d l = none := by
  unfold etx at h
  split at h
  · cases h
  · rename_i hk
    unfold jnx
    rw [if_neg]
    intro ha
    exact hk (List.all_eq_true.1 ha _ (List.getElem_mem hj))
theorem JoI.next {w wr w5 w7 : World} {d : Bool} {l : List Sf.Mem} {j : Nat} {v v7 : Value} {t : List UInt8} (h : JoI w d l j wr v) (hj : j < l.length) (ht : etx d l[j] = some t) (hb : Below wr.heap.size wr w5) (o : Obj) (hown : w7.ownsRow w.heap.size 9 1 v7 (j + 1) (exRow d l j ++ [.string (bA t)])) (hg : (w5.alloc o).grownBy w7 v.ownBlock) : JoI w d l (j + 1) w7 v7 := by
  obtain ⟨h1, h2⟩ := etx_some ht
  have hs := h.below.size
  have hs5 := hb.size
  refine ⟨hj, by rw [exRow_next hj h2]; exact hown, (below_al (onto h.below hb) o).grown hg (by simp; omega) (fun k hk => (h.row.lt k hk).1), ?_⟩
  intro x hx
  rw [List.take_succ_eq_append_getElem hj] at hx
  rcases List.mem_append.1 hx with hx | hx
  · exact h.all x hx
  · simp at hx; subst hx; exact h1
set_option maxHeartbeats 4000000 in
set_option maxRecDepth 100000 in
theorem join_any (d : Bool) (f : Nat) (eg : ∀ args w, (callFunc f args).run Tryz.prog w = .ok (.enter f args) w)
    (hw : ∀ m v1 v2 v3 W, SM W m v1 v2 v3 → SmallM m → Tab W → TabM W → Calls Tryz.prog f #[.agg (mC m v1 v2 v3)] W fun e w' => e = .returned (mtV (etx d m)) ∧ Below W.heap.size W w')
    (A : Option Addr) (c : Nat) (l : List Sf.Mem) (w : World) (hA : SeenM w A l) (hl : l.length ≤ 1000000) (hS : ∀ m ∈ l, SmallM m) (hZ : l.all (Sf.okE d) = true → (Sf.jn [44, 32] (l.map (Sf.tx d))).length ≤ 100000000000000) (hT : Tab w) (hTM : TabM w) :
    Calls Tryz.prog 30 #[.slice A l.length c, .func (.func f) #[] #[]] w fun e w' => e = .returned (textV (jnx d l)) ∧ Below w.heap.size w w' := by
  obtain ⟨i0, hi0, hz0, hz1, hz2⟩ := info_parts info_str
  have HI0 := Lib.hid hi0; have HZ0 := Lib.hid hz0; have HZ1 := Lib.hid hz1; have HZ2 := Lib.hid hz2
  have hst : JoI w d l 0 w (.slice none 0 0) := ⟨Nat.zero_le _, World.ownsRow_nil _ _ _ _, Below.refl _ _, by simp⟩
  have HS0 := Lib.hid hst
  have HA := Lib.hid hA; have HS := Lib.hid hS; have HZ := Lib.hid hZ; have HT := Lib.hid hT; have HTM := Lib.hid hTM; have HW := Lib.hid hw
  obtain ⟨o, ho⟩ : ∃ o, jnx d l = o := ⟨_, rfl⟩
  rw [ho]
  have HO := Lib.hid ho
  clear hi0 hz0 hz1 hz2 hst hA hS hZ hT hTM hw ho
  go_enter Tryz.func30, Tryz.ntmps30
  go_wp2_with fail
  go_loopg [6, 13] l.length (fun k v i wr => ∃ j : Nat, l.length - j = k ∧ i = .int .i64 j ∧ JoI w d l j wr v)
  case atStart => exact ⟨0, rfl, rfl, HS0.out⟩
  case round =>
    obtain ⟨j, hk, rfl, hI⟩ := hrel
    obtain ⟨va, vc, rfl⟩ := slice1 hI.row
    have HV := Lib.hid hI
    have hjl := hI.jl
    have hsz := hI.below.size
    clear hI HS0
    by_cases hj : j < l.length
    · obtain ⟨g, of, rfl, hab, hcell⟩ := HA.out.below HV.out.below (by omega)
      obtain ⟨v1, v2, v3, hsm, d0, d1, d2, d3, d4, d5, d6, d7⟩ := hcell j hj
      obtain ⟨m, hm⟩ : ∃ m, l[j] = m := ⟨_, rfl⟩
      have hsx : SmallM m := by rw [← hm]; exact HS.out _ (List.getElem_mem hj)
      rw [hm] at hsm d0 d1 d2 d3 d4
      obtain ⟨A1, p1, rfl, _⟩ := hsm.item.is
      obtain ⟨A2, p2, rfl, _⟩ := hsm.items.is
      obtain ⟨A3, p3, rfl, _⟩ := hsm.params.is
      have HM := Lib.hid hm
      have hb0 := below_one wr (.cells (mC m (.slice A1 m.item.params.length p1) (.slice A2 m.items.length p2) (.slice A3 m.params.length p3)) 40)
      have h1 := HW.out m _ _ _ _ (hsm.below hb0) hsx (HT.out.below (onto HV.out.below hb0)) (HTM.out.below (onto HV.out.below hb0))
      have HB0 := Lib.hid hb0
      unfold mC at h1
      have H1 := Lib.hid h1
      clear hm hsx hcell hsm hb0 h1
      go_wp2_with fail
      refine H1.out.mono ?_
      rintro e w1 ⟨rfl, hb1⟩
      have HB1 : Hid (Below wr.heap.size wr w1) := Lib.hid (onto (below_one _ _) hb1)
      have hs1 := HB1.out.size
      clear hb1 H1 HB0 d0 d1 d2 d3 d4 d5 d6 d7
      unfold mtV
      cases ht : etx d m with
      | none =>
        have hn : o = none := by rw [← HO.out]; exact etx_none hj (by rw [HM.out]; exact ht)
        subst hn
        clear ht
        simp only [Option.isSome_none, Option.getD_none]
        go_wp2_with fail
        go_ret2
        exact ⟨rfl, onto HV.out.below HB1.out⟩
      | some t =>
        have HTX : Hid (etx d l[j] = some t) := Lib.hid (by rw [HM.out]; exact ht)
        clear ht
        simp only [Option.isSome_some, Option.getD_some]
        go_wp2_with (at_builtin; refine wpList_append_own _ rfl _ _ 92 rfl w.heap.size 9 i0 (.string ⟨#[]⟩) 1 16 Tryz.underlying92 HI0.out HZ0.out HZ1.out HZ2.out rfl (by decide) _ _ _ rfl ((owns_keptT HV.out.row (.below HB1.out)).alloc _) ⟨w1.heap.size, 0, none⟩ 1 1 [.string (bA t)] rfl rfl (cells_new _ #[.string (bA t)] _) ?_ ?_ ?_ ?_ ?_)
        · intro u hu; simp at hu; subst hu; rfl
        · unfold maxLen; omega
        · omega
        · simp; omega
        intro v' w7 hown7 hg7 _
        have HN := Lib.hid (HV.out.next hj HTX.out HB1.out _ hown7 hg7)
        obtain ⟨va7, vc7, rfl⟩ := slice1 hown7
        clear hown7 hg7
        go_wp2_with fail
        go_roundg (l.length - (j + 1))
        case measure => omega
        case rel => exact ⟨j + 1, rfl, by go_num, HN.out⟩
    · have hjj : j = l.length := by omega
      subst hjj
      have hall : l.all (Sf.okE d) = true := List.all_eq_true.2 (fun m hm => HV.out.all m (by rw [List.take_length]; exact hm))
      have hzz := HZ.out hall
      have hn : o = some (Sf.jn [44, 32] (l.map (Sf.tx d))) := by rw [← HO.out]; unfold jnx; rw [if_pos hall]
      subst hn
      have hrow : wr.ownsRow w.heap.size 9 1 (.slice va l.length vc) l.length ((l.map (Sf.tx d)).map strV) := by
        have := HV.out.row
        unfold exRow at this
        rwa [List.take_length] at this
      have H3 := Lib.hid (joinT_any [44, 32] (by decide) (.slice va l.length vc) (l.map (Sf.tx d)) _ _ wr hrow (by rw [List.length_map]) (by omega))
      obtain ⟨q, hq⟩ : ∃ q, Sf.jn [44, 32] (l.map (Sf.tx d)) = q := ⟨_, rfl⟩
      rw [hq] at H3
      have HQ := Lib.hid hq
      clear hall hzz hrow hq
      go_wp2_with fail
      refine H3.out.mono ?_
      rintro e w3 ⟨rfl, hb3⟩
      have HB3 := Lib.hid (onto HV.out.below hb3)
      clear hb3 H3
      go_wp2_with fail
      go_ret2
      exact ⟨by rw [HQ.out]; rfl, HB3.out⟩

theorem textL_list (l : List Sf.Mem) : Sf.textL false l = jnx false l := by
  unfold Sf.textL jnx
  by_cases h : l.all (Sf.okE false) = true
  · rw [if_pos ⟨h, fun h => by cases h⟩, if_pos h]
  · rw [if_neg (fun x => h x.1), if_neg h]
theorem textL_dict {l : List Sf.Mem} (hn : (Sf.keysM l).Nodup) : Sf.textL true l = jnx true l := by
  unfold Sf.textL jnx
  by_cases h : l.all (Sf.okE true) = true
  · rw [if_pos ⟨h, fun _ => hn⟩, if_pos h]
  · rw [if_neg (fun x => h x.1), if_neg h]
theorem textL_twice {l : List Sf.Mem} (hn : ¬ (Sf.keysM l).Nodup) : Sf.textL true l = none := by
  unfold Sf.textL
  rw [if_neg (fun x => hn (x.2 rfl))]
set_option maxHeartbeats 1000000 in
theorem listText_any (A : Option Addr) (c : Nat) (l : List Sf.Mem) (w : World) (hA : SeenM w A l) (hl : l.length ≤ 1000000) (hS : ∀ m ∈ l, SmallM m) (hZ : l.all (Sf.okE false) = true → (Sf.jn [44, 32] (l.map (Sf.tx false))).length ≤ 100000000000000) (hT : Tab w) (hTM : TabM w) :
    Calls Tryz.prog 16 #[.slice A l.length c] w fun e w' => e = .returned (textV (Sf.textL false l)) ∧ Below w.heap.size w w' := by
  have H := Lib.hid (join_any false 31 (enters_of Tryz.func31 (by kernel_rfl) rfl) (fun m v1 v2 v3 W h1 h2 h3 h4 => listedText_any m v1 v2 v3 W h1 h2 h3 h4) A c l w hA hl hS hZ hT hTM)
  rw [textL_list]
  obtain ⟨o, ho⟩ : ∃ o, jnx false l = o := ⟨_, rfl⟩
  rw [ho] at H ⊢
  clear ho hA hS hZ hT hTM
  go_enter Tryz.func16, Tryz.ntmps16
  go_wp2_with fail
  refine H.out.mono ?_
  rintro e w1 ⟨rfl, hb⟩
  have HB := Lib.hid hb
  clear hb H
  unfold textV
  obtain ⟨t, ht⟩ : ∃ t, o.getD [] = t := ⟨_, rfl⟩
  obtain ⟨n, hn⟩ : ∃ n : Int, (if o.isSome = true then (0 : Int) else 50) = n := ⟨_, rfl⟩
  rw [ht, hn]
  have HT := Lib.hid ht; have HN := Lib.hid hn
  clear ht hn
  go_wp2_with fail
  go_ret2
  exact ⟨by unfold textV; rw [HT.out, HN.out]; rfl, HB.out⟩

/-- The set of the keys that have come, and how many they are. -/
structure SeI (w : World) (l : List Sf.Mem) (j : Nat) (wr : World) (D : DataW Unit) : Prop where
  jl : j ≤ l.length
  map : wr.ownsMap Tryz.prog 9 (unitElem (H := Unit)) w.heap.size j D
  set : KeySet D (Sf.keysM (l.take j))
  nd : Maps.size D = j ↔ (Sf.keysM (l.take j)).Nodup
  below : Below w.heap.size w wr
theorem keysM_take {l : List Sf.Mem} {j : Nat} (hj : j < l.length) : Sf.keysM (l.take (j + 1)) = Sf.keysM (l.take j) ++ [l[j].key] := by
  rw [List.take_succ_eq_append_getElem hj]; unfold Sf.keysM; rw [List.map_append]; rfl
theorem SeI.next {w wr w6 : World} {l : List Sf.Mem} {j : Nat} {D : DataW Unit} (h : SeI w l j wr D) (hj : j < l.length) {o : Obj} (hm : w6.ownsMap Tryz.prog 9 (unitElem (H := Unit)) w.heap.size (j + 1) (D.put (.string l[j].key) (.agg []))) (hg : (wr.alloc o).grownBy w6 (some w.heap.size)) : SeI w l (j + 1) w6 (D.put (.string l[j].key) (.agg [])) := by
  have ht : Tidy D := h.map.tidy law_str
  have hle := h.map.size_le
  have hsz := size_put (k := .string l[j].key) ht (.agg [])
  refine ⟨hj, hm, by rw [keysM_take hj]; exact h.set.put _, ?_, (below_al h.below o).grown hg (by have := h.below.size; simp; omega) (fun k e => by cases e; exact Nat.le_refl _)⟩
  rw [hsz, keysM_take hj, h.set.has]
  by_cases hmem : l[j].key ∈ Sf.keysM (l.take j)
  · rw [decide_eq_true hmem, if_pos rfl]
    constructor
    · intro e; omega
    · intro hn
      rw [List.nodup_append] at hn
      exact absurd rfl (hn.2.2 _ hmem _ (by simp))
  · rw [decide_eq_false hmem]
    simp only [Bool.false_eq_true, if_false, Nat.add_right_cancel_iff]
    rw [h.nd, List.nodup_append]
    constructor
    · intro hn; exact ⟨hn, by simp, by intro a ha b hb; simp at hb; subst hb; intro e; subst e; exact hmem ha⟩
    · intro hn; exact hn.1
set_option maxHeartbeats 4000000 in
set_option maxRecDepth 100000 in
theorem dictText_any (A : Option Addr) (c : Nat) (l : List Sf.Mem) (w : World) (hA : SeenM w A l) (hl : l.length ≤ 1000000) (hS : ∀ m ∈ l, SmallM m) (hZ : l.all (Sf.okE true) = true → (Sf.jn [44, 32] (l.map (Sf.tx true))).length ≤ 100000000000000) (hT : Tab w) (hTM : TabM w) :
    Calls Tryz.prog 18 #[.slice A l.length c] w fun e w' => e = .returned (textV (Sf.textL true l)) ∧ Below w.heap.size w w' := by
  have hmm := @run_makeMap Tryz.prog
  have hst : SeI w l 0 (w.alloc (.map #[] 0)) (.map []) := ⟨Nat.zero_le _, World.ownsMap_made _ _ _ _, by simpa [Sf.keysM] using KeySet.nil, by simp [Maps.size, Sf.keysM], below_one _ _⟩
  have HS0 := Lib.hid hst
  have HJ := Lib.hid (fun W (h : Below w.heap.size w W) => join_any true 33 (enters_of Tryz.func33 (by kernel_rfl) rfl) (fun m v1 v2 v3 W h1 h2 h3 h4 => entryText_any m v1 v2 v3 W h1 h2 h3 h4) A c l W (hA.below h) hl hS hZ (hT.below h) (hTM.below h))
  have HA := Lib.hid hA
  have HS := Lib.hid hS
  obtain ⟨o, ho⟩ : ∃ o, Sf.textL true l = o := ⟨_, rfl⟩
  rw [ho]
  have HO := Lib.hid ho
  clear ho hA hS hZ hT hTM hst
  go_enter Tryz.func18, Tryz.ntmps18
  go_wp2_with fail
  clear hmm
  go_loopg [10] l.length (fun k i wr => ∃ (j : Nat) (D : DataW Unit), l.length - j = k ∧ i = .int .i64 j ∧ SeI w l j wr D)
  case atStart => exact ⟨0, _, rfl, rfl, HS0.out⟩
  case round =>
    obtain ⟨j, D, hk, rfl, hI⟩ := hrel
    have HV := Lib.hid hI
    have hjl := hI.jl
    clear hI HS0
    by_cases hj : j < l.length
    · obtain ⟨g, of, rfl, hab, hcell⟩ := HA.out.below HV.out.below (by omega)
      obtain ⟨v1, v2, v3, hsm, d0, d1, d2, d3, d4, d5, d6, d7⟩ := hcell j hj
      obtain ⟨m, hm⟩ : ∃ m, l[j] = m := ⟨_, rfl⟩
      have hsx : SmallM m := by rw [← hm]; exact HS.out _ (List.getElem_mem hj)
      rw [hm] at hsm d0 d1 d2 d3 d4
      obtain ⟨A1, p1, rfl, _⟩ := hsm.item.is
      obtain ⟨A2, p2, rfl, _⟩ := hsm.items.is
      obtain ⟨A3, p3, rfl, _⟩ := hsm.params.is
      have HM := Lib.hid hm
      have HKL := Lib.hid (key_str m.key (by unfold maxLen; have := hsx.key; omega))
      have hlt := (HV.out.map.kept (g_refl _ none) (by simp))
      have HMAP := Lib.hid (HV.out.map.alloc (.cells #[.string (bA m.key), .bool m.inner, .int .i64 m.item.kind, .int .i64 m.item.n, .string (bA m.item.text), .slice A1 m.item.params.length p1, .slice A2 m.items.length p2, .slice A3 m.params.length p3] 40))
      clear hm hsx hcell hsm hlt
      go_wp2_with (at_mapUpdate; refine wpList_mapUpdate_own _ rfl _ _ _ 57 rfl 9 58 law_str Tryz.underlying57 (unitElem (H := Unit)) w.heap.size j D rfl HMAP.out ?_ _ _ _ rfl rfl HKL.out _ [] unitElem_mk ?_)
      · unfold maxLen; omega
      intro w6 hm6 hg6
      have HN : Hid (SeI w l (j + 1) w6 (D.put (.string m.key) (.agg []))) := by
        have := HV.out.next hj (by rw [HM.out]; exact hm6) hg6
        rw [HM.out] at this
        exact this
      clear hm6 hg6
      go_wp2_with fail
      go_roundg (l.length - (j + 1))
      case measure => omega
      case rel => exact ⟨j + 1, _, rfl, by go_num, HN.out⟩
    · have hjj : j = l.length := by omega
      subst hjj
      have hnd := HV.out.nd
      rw [List.take_length] at hnd
      have hle := HV.out.map.size_le
      by_cases hn : (Sf.keysM l).Nodup
      · have hs : Maps.size D = l.length := hnd.2 hn
        have hx : ¬ ((Maps.size D : Int) < (l.length : Int)) := by omega
        have HX : Hid (jnx true l = o) := Lib.hid (by rw [← textL_dict hn]; exact HO.out)
        have h3 := HJ.out wr HV.out.below
        rw [HX.out] at h3
        have H3 := Lib.hid h3
        obtain ⟨sz, hsz⟩ : ∃ sz, Maps.size D = sz := ⟨_, rfl⟩
        have HSZ := Lib.hid hsz
        clear hnd hn hs hle h3 hsz
        rw [HSZ.out] at hx
        go_wp2_with (at_len; refine wpList_len_own _ rfl _ 57 rfl 9 58 Tryz.underlying57 _ w.heap.size l.length D rfl HV.out.map ?_; rw [HSZ.out])
        refine H3.out.mono ?_
        rintro e w3 ⟨rfl, hb3⟩
        have HB3 := Lib.hid (onto HV.out.below hb3)
        clear hb3 H3
        unfold textV
        obtain ⟨t, ht⟩ : ∃ t, o.getD [] = t := ⟨_, rfl⟩
        obtain ⟨n, hn⟩ : ∃ n : Int, (if o.isSome = true then (0 : Int) else 50) = n := ⟨_, rfl⟩
        rw [ht, hn]
        have HT := Lib.hid ht; have HN := Lib.hid hn
        clear ht hn
        go_wp2_with fail
        go_ret2
        exact ⟨by unfold textV; rw [HT.out, HN.out]; rfl, HB3.out⟩
      · have hs : Maps.size D ≠ l.length := fun e => hn (hnd.1 e)
        have hx : ((Maps.size D : Int) < (l.length : Int)) := by omega
        have ho : o = none := by rw [← HO.out]; exact textL_twice hn
        subst ho
        obtain ⟨sz, hsz⟩ : ∃ sz, Maps.size D = sz := ⟨_, rfl⟩
        have HSZ := Lib.hid hsz
        clear hnd hn hs hle hsz
        rw [HSZ.out] at hx
        go_wp2_with (at_len; refine wpList_len_own _ rfl _ 57 rfl 9 58 Tryz.underlying57 _ w.heap.size l.length D rfl HV.out.map ?_; rw [HSZ.out])
        go_ret2
        exact ⟨rfl, HV.out.below⟩
end Go.Proofs.YtogjekjklknfeaaGreatDoor
