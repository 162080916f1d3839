/- The contracts of the document's bare and text: a member's text. -/
import Derived.Test.YtogjekjklknfeaaGreatDoorPkTxt
import Derived.Test.YtogjekjklknfeaaGreatDoorPkRd
namespace Go.Proofs.YtogjekjklknfeaaGreatDoor
open Go.RowKit Go.Shelf Go.Maps Go.Deep

set_option maxHeartbeats 1000000 in
theorem rbare_any (k n : Int) (t : List UInt8) (A : Option Addr) (c : Nat) (l : List Sf.Par) (w : World) : Calls Tryz.prog 54 #[.agg #[.int .i64 k, .int .i64 n, .string (bA t), .slice A l.length c]] w fun e w' => e = .returned (.bool (Sf.bareB ⟨k, n, t, l⟩)) ∧ Below w.heap.size w w' := by
  unfold Sf.bareB
  have h0 := len0 l
  go_enter Tryz.func54, Tryz.ntmps54
  go_wp2_with fail
  all_goals (go_ret; refine ⟨Oct.ret_bool ?_, below_one _ _⟩; simp_all)
theorem jn_snoc (sep : List UInt8) (ts : List (List UInt8)) (a : List UInt8) : Sf.jn sep (ts ++ [a]) = if ts = [] then a else Sf.jn sep ts ++ sep ++ a := by
  cases ts with
  | nil => simp [Sf.jn]
  | cons b l => simp [Sf.jn]
/-- What the document's text tells: a text that counts, if there is one. -/
def RetT (o : Option (List UInt8)) (e : Ending) : Prop := ∃ x, e = .returned (.tuple #[.string (bA x), .bool o.isSome]) ∧ ∀ t, o = some t → x = t
structure TxI (w : World) (m : Sf.Mem) (v1 v2 v3 : Value) (j : Nat) (wr : World) (t : List UInt8) : Prop where
  jl : j ≤ m.items.length
  box : CBox wr w.heap.size 40 (mC m v1 v2 v3)
  below : Below w.heap.size w wr
  all : ∀ x ∈ m.items.take j, (Sf.text x).isSome = true
  eq : t = 40 :: Sf.jn [32] ((m.items.take j).map Sf.itxt)
theorem TxI.len {w wr : World} {m : Sf.Mem} {v1 v2 v3 : Value} {j : Nat} {t : List UInt8} (h : TxI w m v1 v2 v3 j wr t) (hS : SmallM m) : t.length ≤ 3000000000000 := by
  have h1 := jn_size [32] 700000000 ((m.items.take j).map Sf.itxt) (fun t ht => by obtain ⟨x, hx, rfl⟩ := List.mem_map.1 ht; exact itxt_size (hS.each x (List.mem_of_mem_take hx)))
  rw [List.length_map, List.length_take] at h1
  have h3 : min j m.items.length * (700000000 + [(32 : UInt8)].length) ≤ 4000 * (700000000 + [(32 : UInt8)].length) := Nat.mul_le_mul (by have := hS.len; omega) (Nat.le_refl _)
  rw [h.eq]
  simp only [List.length_cons, List.length_nil] at h1 h3 ⊢
  omega
theorem TxI.next {w wr w1 : World} {m : Sf.Mem} {v1 v2 v3 : Value} {j : Nat} {t x : List UInt8} (h : TxI w m v1 v2 v3 j wr t) (hj : j < m.items.length) (ht : Sf.text m.items[j] = some x) (hb : Below wr.heap.size wr w1) : TxI w m v1 v2 v3 (j + 1) w1 (if j = 0 then t ++ x else t ++ [32] ++ x) := by
  have hit : Sf.itxt m.items[j] = x := by unfold Sf.itxt; rw [ht]; rfl
  refine ⟨hj, h.box.keep hb, onto h.below hb, fun y hy => ?_, ?_⟩
  · rw [List.take_succ_eq_append_getElem hj] at hy
    rcases List.mem_append.1 hy with hy | hy
    · exact h.all y hy
    · simp at hy; subst hy; rw [ht]; rfl
  · rw [List.take_succ_eq_append_getElem hj, List.map_append, List.map_singleton, hit, jn_snoc]
    have e : ((m.items.take j).map Sf.itxt = []) ↔ j = 0 := by
      rw [List.map_eq_nil_iff, List.take_eq_nil_iff]
      constructor
      · rintro (h | h)
        · exact h
        · rw [h] at hj; simp at hj
      · exact .inl
    rw [h.eq]
    by_cases h0 : j = 0
    · subst h0; simp [Sf.jn]
    · rw [if_neg h0, if_neg (fun x => h0 (e.1 x))]; simp
set_option maxHeartbeats 4000000 in
set_option maxRecDepth 100000 in
theorem rmtext_any (m : Sf.Mem) (v1 v2 v3 : Value) (w : World) (hM : SM w m v1 v2 v3) (hS : SmallM m) (hT : Tab w) :
    Calls Tryz.prog 32 #[.agg (mC m v1 v2 v3)] w fun e w' => RetT (mtx m) e ∧ Below w.heap.size w w' := by
  obtain ⟨A1, p1, rfl, hs1⟩ := hM.item.is
  obtain ⟨A2, p2, rfl, hs2⟩ := hM.items.is
  obtain ⟨A3, p3, rfl, hs3⟩ := hM.params.is
  have hl2 := hM.items.len
  have hl3 := hM.params.len
  unfold maxLen at hl2 hl3
  have hb0 := below_one w (.cells (mC m (.slice A1 m.item.params.length p1) (.slice A2 m.items.length p2) (.slice A3 m.params.length p3)) 40)
  obtain ⟨o, ho⟩ : ∃ o, mtx m = o := ⟨_, rfl⟩
  have HO := Lib.hid ho
  rw [ho]
  cases hi : m.inner with
  | false =>
    have h1 := rtext_any m.item.kind m.item.n m.item.text A1 p1 m.item.params _ hS.item (hs1.below hb0) (hT.below hb0)
    have hx := mtx_item hi
    rw [ho] at hx
    unfold mC at h1 ⊢
    rw [hi] at h1 ⊢
    have H1 := Lib.hid h1
    have HX := Lib.hid hx
    clear h1 hb0 ho hx hi hM hS hT hs1 hs2 hs3 HO
    go_enter Tryz.func32, Tryz.ntmps32
    go_wp2_with fail
    refine H1.out.mono ?_
    rintro e w1 ⟨rfl, hb1⟩
    have HB1 : Hid (Below w.heap.size w w1) := Lib.hid (onto (below_one _ _) hb1)
    have HCB : Hid (CBox w1 w.heap.size 40 #[.string (bA m.key), .bool false, .int .i64 m.item.kind, .int .i64 m.item.n, .string (bA m.item.text), .slice A1 m.item.params.length p1, .slice A2 m.items.length p2, .slice A3 m.params.length p3]) := Lib.hid ((CBox.new _ _ _).keep hb1)
    obtain ⟨c0, c1, c2, c3, c4, c5, c6, c7⟩ := HCB.out.all8.1
    clear hb1 H1
    unfold textV
    cases ht : Sf.text ⟨m.item.kind, m.item.n, m.item.text, m.item.params⟩ with
    | none =>
      have hn : o = none := by
        have ht' : Sf.text m.item = none := ht
        rw [HX.out, ht']; split <;> rfl
      subst hn
      clear ht
      simp only [Option.isSome_none, Option.getD_none]
      go_wp2_with fail
      go_quiet (fail)
      go_wp2_with fail
      go_ret2
      exact ⟨⟨[], rfl, fun _ h => by cases h⟩, onto HB1.out (below_drew _ _)⟩
    | some t =>
      have ht' : Sf.text m.item = some t := ht
      rw [ht'] at HX
      clear ht ht'
      simp only [Option.isSome_some, Option.getD_some]
      by_cases hit : m.items = []
      · have q2 : m.items.length = 0 := by rw [hit]; rfl
        by_cases hpt : m.params = []
        · have q3 : m.params.length = 0 := by rw [hpt]; rfl
          have hn : o = some t := by rw [HX.out, if_pos ⟨hit, hpt⟩]
          subst hn
          rw [q2] at c6
          rw [q3] at c7
          clear hit hpt q2 q3 hl2 hl3
          go_wp2_with fail
          go_quiet (fail)
          go_wp2_with fail
          go_ret2
          exact ⟨⟨t, rfl, fun _ h => by cases h; rfl⟩, onto HB1.out (below_drew _ _)⟩
        · obtain ⟨k, q3⟩ : ∃ k, m.params.length = k + 1 := ⟨m.params.length - 1, by have := List.length_pos_iff.2 hpt; omega⟩
          have hn : o = none := by rw [HX.out, if_neg (fun h => hpt h.2)]
          have q4 : (((k + 1 : Nat) : Int) == 0) = false := by rw [beq_eq_false_iff_ne]; omega
          subst hn
          rw [q2] at c6
          rw [q3] at c7 hl3
          clear hit hpt q2 q3 hl2
          go_wp2_with fail
          go_quiet (fail)
          go_wp2_with fail
          go_ret2
          exact ⟨⟨t, rfl, fun _ h => by cases h⟩, onto HB1.out (below_drew _ _)⟩
      · obtain ⟨k, q2⟩ : ∃ k, m.items.length = k + 1 := ⟨m.items.length - 1, by have := List.length_pos_iff.2 hit; omega⟩
        have hn : o = none := by rw [HX.out, if_neg (fun h => hit h.1)]
        have q4 : (((k + 1 : Nat) : Int) == 0) = false := by rw [beq_eq_false_iff_ne]; omega
        subst hn
        rw [q2] at c6 hl2
        clear hit q2 hl3
        go_wp2_with fail
        go_quiet (fail)
        go_wp2_with fail
        go_ret2
        exact ⟨⟨t, rfl, fun _ h => by cases h⟩, onto HB1.out (below_drew _ _)⟩
  | true =>
    have h1 := rbare_any m.item.kind m.item.n m.item.text A1 p1 m.item.params (w.alloc (.cells (mC m (.slice A1 m.item.params.length p1) (.slice A2 m.items.length p2) (.slice A3 m.params.length p3)) 40))
    obtain ⟨b, hb⟩ : ∃ b, Sf.bareB ⟨m.item.kind, m.item.n, m.item.text, m.item.params⟩ = b := ⟨_, rfl⟩
    have hb' : Sf.bareB m.item = b := hb
    rw [hb] at h1
    have HBX := Lib.hid (CBox.new w 40 (mC m (.slice A1 m.item.params.length p1) (.slice A2 m.items.length p2) (.slice A3 m.params.length p3)))
    unfold mC at h1 ⊢
    rw [hi] at h1 ⊢
    have H1 := Lib.hid h1
    have HI := Lib.hid hi; have HS := Lib.hid hS; have HT := Lib.hid hT
    have HA2 := Lib.hid hs2; have HA3 := Lib.hid hs3
    have HB0 := Lib.hid hb0
    have HBB := Lib.hid hb'
    clear h1 hb0 ho hi hM hS hT hs1 hs2 hs3 hb hb'
    go_enter Tryz.func32, Tryz.ntmps32
    go_wp2_with fail
    refine H1.out.mono ?_
    rintro e w1 ⟨rfl, hb1⟩
    have hb1' : Below (w.alloc (.cells (mC m (.slice A1 m.item.params.length p1) (.slice A2 m.items.length p2) (.slice A3 m.params.length p3)) 40)).heap.size (w.alloc (.cells (mC m (.slice A1 m.item.params.length p1) (.slice A2 m.items.length p2) (.slice A3 m.params.length p3)) 40)) w1 := by unfold mC; rw [HI.out]; exact hb1
    have HB1 : Hid (Below w.heap.size w w1) := Lib.hid (onto (below_one _ _) hb1)
    have HC1 := Lib.hid (HBX.out.keep hb1')
    clear hb1 hb1' H1 HBX HB0
    cases b with
    | false =>
      have hn : o = none := by rw [← HO.out]; exact mtx_bare HI.out HBB.out
      subst hn
      go_wp2_with fail
      go_ret2
      exact ⟨⟨[], rfl, fun _ h => by cases h⟩, HB1.out⟩
    | true =>
      have HS0 : Hid (TxI w m (.slice A1 m.item.params.length p1) (.slice A2 m.items.length p2) (.slice A3 m.params.length p3) 0 w1 [40]) := Lib.hid ⟨Nat.zero_le _, HC1.out, HB1.out, by simp, by simp [Sf.jn]⟩
      clear HC1 HB1
      go_wp2_with fail
      go_loopg [7, 8] m.items.length (fun k v i wr => ∃ j t, m.items.length - j = k ∧ i = .int .i64 ((j : Nat) : Int) ∧ v = .string (bA t) ∧ TxI w m (.slice A1 m.item.params.length p1) (.slice A2 m.items.length p2) (.slice A3 m.params.length p3) j wr t)
      case atStart => exact ⟨0, [40], rfl, rfl, rfl, HS0.out⟩
      case round =>
        obtain ⟨j, t, hk, rfl, rfl, hI⟩ := hrel
        have HV := Lib.hid hI
        have hjl := hI.jl
        have htl := hI.len HS.out
        obtain ⟨c0, c1, c2, c3, c4, c5, c6, c7⟩ := hI.box.all8.1
        have hn1 := hI.box.lt
        clear hI HS0 c0 c1 c2 c3 c4 c5
        by_cases hj : j < m.items.length
        · obtain ⟨g, of, rfl, hab, hcell⟩ := HA2.out.below HV.out.below (by omega)
          obtain ⟨vx, hvx, d0, d1, d2, d3⟩ := hcell j hj
          obtain ⟨x, hx⟩ : ∃ x, m.items[j] = x := ⟨_, rfl⟩
          have hsx : SmallI x.kind x.n x.text x.params := by rw [← hx]; exact HS.out.each _ (List.getElem_mem hj)
          rw [hx] at hvx d0 d1 d2
          obtain ⟨B, pB, rfl, hsB⟩ := hvx.is
          have HX := Lib.hid hx
          have H1 := Lib.hid (rtext_any x.kind x.n x.text B pB x.params wr hsx hsB (HT.out.below HV.out.below))
          have htx : ∀ t, Sf.text x = some t → t.length ≤ 700000000 := fun t h => text_size h hsx
          have HTL := Lib.hid htx
          clear hx hsx hcell hvx hsB htx
          go_wp2_with fail
          refine H1.out.mono ?_
          rintro e w2 ⟨rfl, hb2⟩
          have HB2 := Lib.hid hb2
          clear hb2 H1 d0 d1 d2 d3 c6 c7
          unfold textV
          cases ht : Sf.text ⟨x.kind, x.n, x.text, x.params⟩ with
          | none =>
            have hn : o = none := by rw [← HO.out]; exact InT.bad HI.out hj (by rw [HX.out]; exact ht)
            subst hn
            clear ht
            simp only [Option.isSome_none, Option.getD_none]
            go_wp2_with fail
            go_ret2
            exact ⟨⟨[], rfl, fun _ h => by cases h⟩, onto HV.out.below HB2.out⟩
          | some u =>
            have hul := HTL.out u ht
            have HN := Lib.hid (HV.out.next hj (by rw [HX.out]; exact ht) HB2.out)
            clear ht HTL
            simp only [Option.isSome_some, Option.getD_some]
            have z1 : ∀ W : World, (Op.stringOp .add (bA t) ⟨#[32]⟩).run Tryz.prog W = .ok (.string (bA (t ++ [32]))) W := fun W => by
              rw [run_string_add_sum W (bA t) (bA [32]) (by simp only [bA_size, List.length_cons, List.length_nil]; omega), bA_app]
            have z2 : ∀ W : World, (Op.stringOp .add (bA (t ++ [32])) (bA u)).run Tryz.prog W = .ok (.string (bA (t ++ [32] ++ u))) W := fun W => by
              rw [run_string_add_sum W (bA (t ++ [32])) (bA u) (by simp only [bA_size, List.length_append, List.length_cons, List.length_nil]; omega), bA_app]
            have z3 : ∀ W : World, (Op.stringOp .add (bA t) (bA u)).run Tryz.prog W = .ok (.string (bA (t ++ u))) W := fun W => by
              rw [run_string_add_sum W (bA t) (bA u) (by simp only [bA_size]; omega), bA_app]
            rcases j with _ | j
            · rw [if_pos rfl] at HN
              go_wp2_with fail
              go_roundg (m.items.length - 1)
              case measure => omega
              case rel => exact ⟨1, t ++ u, rfl, by go_num, by simp, HN.out⟩
            · rw [if_neg (by omega)] at HN
              go_wp2_with fail
              go_roundg (m.items.length - (j + 1 + 1))
              case measure => omega
              case rel => exact ⟨j + 1 + 1, t ++ [32] ++ u, rfl, by go_num, by simp, HN.out⟩
        · have hjj : j = m.items.length := by omega
          subst hjj
          have H1 := Lib.hid (rtail_any A3 p3 m.params wr (HA3.out.below HV.out.below) HS.out.params (HT.out.below HV.out.below))
          have HTS : Hid (∀ u, Sf.tailF [] m.params = some u → u.length ≤ 600000000) := Lib.hid (fun u h => by
            have h1 := tail_len h HS.out.params.each
            have h3 : m.params.length * 60000 ≤ 10000 * 60000 := Nat.mul_le_mul HS.out.params.len (Nat.le_refl _)
            omega)
          have z1 : ∀ W : World, (Op.stringOp .add (bA t) ⟨#[41]⟩).run Tryz.prog W = .ok (.string (bA (t ++ [41]))) W := fun W => by
            rw [run_string_add_sum W (bA t) (bA [41]) (by simp only [bA_size, List.length_cons, List.length_nil]; omega), bA_app]
          go_wp2_with fail
          refine H1.out.mono ?_
          rintro e w2 ⟨rfl, hb2⟩
          have HB2 := Lib.hid (onto HV.out.below hb2)
          clear hb2 H1 c6 c7
          unfold textV
          cases ht : Sf.tailF [] m.params with
          | none =>
            have hn : o = none := by rw [← HO.out]; exact mtx_tail HI.out ht
            subst hn
            clear ht
            simp only [Option.isSome_none, Option.getD_none]
            have z2 : ∀ W : World, (Op.stringOp .add (bA (t ++ [41])) (bA [])).run Tryz.prog W = .ok (.string (bA (t ++ [41] ++ []))) W := fun W => by
              rw [run_string_add_sum W (bA (t ++ [41])) (bA []) (by simp only [bA_size, List.length_append, List.length_cons, List.length_nil]; omega), bA_app]
            go_wp2_with fail
            go_ret2
            exact ⟨⟨_, rfl, fun _ h => by cases h⟩, HB2.out⟩
          | some u =>
            have hul := HTS.out u ht
            have hok := okM_yes HI.out HBB.out (fun x hx => HV.out.all x (by rw [List.take_length]; exact hx)) ht
            have hn : o = some (t ++ [41] ++ u) := by
              rw [← HO.out]; unfold mtx; rw [if_pos hok, mt_yes HI.out ht, HV.out.eq, List.take_length]; simp
            subst hn
            clear ht hok HTS
            simp only [Option.isSome_some, Option.getD_some]
            have z2 : ∀ W : World, (Op.stringOp .add (bA (t ++ [41])) (bA u)).run Tryz.prog W = .ok (.string (bA (t ++ [41] ++ u))) W := fun W => by
              rw [run_string_add_sum W (bA (t ++ [41])) (bA u) (by simp only [bA_size, List.length_append, List.length_cons, List.length_nil]; omega), bA_app]
            go_wp2_with fail
            go_ret2
            exact ⟨⟨_, rfl, fun _ h => by cases h; simp⟩, HB2.out⟩
end Go.Proofs.YtogjekjklknfeaaGreatDoor
