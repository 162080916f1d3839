/- The contracts of the document's ListText and DictText. -/
import Derived.Test.YtogjekjklknfeaaGreatDoorSdTell1
namespace Go.Proofs.YtogjekjklknfeaaGreatDoor
open Go.RowKit Go.Shelf Go.Maps Go.Deep

structure LtI (w : World) (d : Bool) (l : List Sf.Mem) (j : Nat) (wr : World) (t : List UInt8) : Prop where
  jl : j ≤ l.length
  below : Below w.heap.size w wr
  all : ∀ m ∈ l.take j, Sf.okE d m = true
  nd : d = true → (Sf.keysM (l.take j)).Nodup
  eq : t = Sf.jn [44, 32] ((l.take j).map (Sf.tx d))
theorem tx_size {d : Bool} {m : Sf.Mem} (h : Sf.okE d m = true) (hs : SmallM m) : (Sf.tx d m).length ≤ 4000000000000 := by
  unfold Sf.okE at h
  rw [Bool.and_eq_true] at h
  have h1 := mt_size h.1 hs
  have h2 := hs.key
  unfold Sf.tx
  cases d with
  | false => simp only [Bool.false_eq_true, if_false]; omega
  | true =>
    simp only [if_true]
    unfold Sf.dt
    split
    · rename_i h6
      unfold Sf.oneB at h6
      rw [Bool.and_eq_true, Bool.and_eq_true] at h6
      have hi : m.inner = false := by simpa using h6.1
      have h3 := h.1
      unfold Sf.okM at h3
      rw [hi] at h3
      simp only [Bool.false_eq_true, if_false, Bool.and_eq_true] at h3
      obtain ⟨v, _, hl, _⟩ := Sf.text_ways (Sf.itxt_is h3.1)
      have h4 := T_size (l := m.item.params) (by rw [Sf.tail_vld hl]; rfl) hs.item.params
      rw [List.length_append]; omega
    · rw [List.length_append, List.length_cons]; omega
theorem LtI.len {w wr : World} {d : Bool} {l : List Sf.Mem} {j : Nat} {t : List UInt8} (h : LtI w d l j wr t) (hl : l.length ≤ 50) (hS : ∀ m ∈ l, SmallM m) : t.length ≤ 300000000000000 := by
  have h1 := jn_size [44, 32] 4000000000000 ((l.take j).map (Sf.tx d)) (fun t ht => by obtain ⟨x, hx, rfl⟩ := List.mem_map.1 ht; exact tx_size (h.all x hx) (hS x (List.mem_of_mem_take hx)))
  rw [List.length_map, List.length_take] at h1
  have h3 : min j l.length * (4000000000000 + [(44 : UInt8), 32].length) ≤ 50 * (4000000000000 + [(44 : UInt8), 32].length) := Nat.mul_le_mul (by omega) (Nat.le_refl _)
  rw [h.eq]
  simp only [List.length_cons, List.length_nil] at h1 h3 ⊢
  omega
theorem LtI.next {w wr w1 : World} {d : Bool} {l : List Sf.Mem} {j : Nat} {t x : List UInt8} (h : LtI w d l j wr t) (hj : j < l.length) (ht : etx d l[j] = some x) (hk : d = true → l[j].key ∉ Sf.keysM (l.take j)) (hb : Below wr.heap.size wr w1) : LtI w d l (j + 1) w1 (if j = 0 then t ++ x else t ++ [44, 32] ++ x) := by
  obtain ⟨hok, hit⟩ := etx_some ht
  refine ⟨hj, onto h.below hb, fun y hy => ?_, fun hd => ?_, ?_⟩
  · rw [List.take_succ_eq_append_getElem hj] at hy
    rcases List.mem_append.1 hy with hy | hy
    · exact h.all y hy
    · simp at hy; subst hy; exact hok
  · rw [keysM_take hj, List.nodup_append]
    exact ⟨h.nd hd, by simp, by intro a ha b hb; simp at hb; subst hb; intro e; subst e; exact hk hd ha⟩
  · rw [List.take_succ_eq_append_getElem hj, List.map_append, List.map_singleton, hit, jn_snoc]
    have e : ((l.take j).map (Sf.tx d) = []) ↔ j = 0 := by
      rw [List.map_eq_nil_iff, List.take_eq_nil_iff]
      constructor
      · rintro (h | h)
        · exact h
        · rw [h] at hj; simp at hj
      · exact .inl
    rw [h.eq]
    by_cases h0 : j = 0
    · subst h0; simp [Sf.jn]
    · rw [if_neg h0, if_neg (fun x => h0 (e.1 x))]
theorem LtI.done {w wr : World} {d : Bool} {l : List Sf.Mem} {t : List UInt8} (h : LtI w d l l.length wr t) : Sf.textL d l = some t := by
  have h1 := h.all; have h2 := h.nd; have h3 := h.eq
  rw [List.take_length] at h1 h2 h3
  unfold Sf.textL
  rw [if_pos ⟨List.all_eq_true.2 h1, h2⟩, h3]
theorem textL_bad {d : Bool} {l : List Sf.Mem} {j : Nat} (hj : j < l.length) (h : etx d l[j] = none) : Sf.textL d l = none := by
  unfold Sf.textL
  rw [if_neg]
  rintro ⟨ha, _⟩
  have := List.all_eq_true.1 ha _ (List.getElem_mem hj)
  unfold etx at h
  rw [this] at h; cases h
theorem textL_same {l : List Sf.Mem} {j : Nat} (hj : j < l.length) (h : l[j].key ∈ Sf.keysM (l.take j)) : Sf.textL true l = none := by
  unfold Sf.textL
  rw [if_neg]
  rintro ⟨_, hn⟩
  have h2 := hn rfl
  rw [← List.take_append_drop (j + 1) l] at h2
  unfold Sf.keysM at h2
  rw [List.map_append, List.nodup_append] at h2
  have h3 := h2.1
  rw [List.take_succ_eq_append_getElem hj, List.map_append, List.nodup_append] at h3
  exact h3.2.2 _ h _ (by simp) rfl
set_option maxHeartbeats 4000000 in
set_option maxRecDepth 100000 in
theorem rlistText_any (A : Option Addr) (c : Nat) (l : List Sf.Mem) (w : World) (hA : SeenM w A l) (hl : l.length ≤ 50) (hS : ∀ m ∈ l, SmallM m) (hT : Tab w) :
    Calls Tryz.prog 17 #[.slice A l.length c] w fun e w' => e = .returned (textV (Sf.textL false l)) ∧ Below w.heap.size w w' := by
  have HS0 : Hid (LtI w false l 0 w []) := Lib.hid ⟨Nat.zero_le _, Below.refl _ _, by simp, by simp, by simp [Sf.jn]⟩
  have HA := Lib.hid hA; have HS := Lib.hid hS; have HT := Lib.hid hT
  obtain ⟨o, ho⟩ : ∃ o, Sf.textL false l = o := ⟨_, rfl⟩
  rw [ho]
  have HO := Lib.hid ho
  clear ho hA hS hT
  go_enter Tryz.func17, Tryz.ntmps17
  go_wp2_with fail
  go_loopg [4, 5] l.length (fun k v i wr => ∃ j t, l.length - j = k ∧ i = .int .i64 ((j : Nat) : Int) ∧ v = .string (bA t) ∧ LtI w false l j wr t)
  case atStart => exact ⟨0, [], rfl, rfl, rfl, HS0.out⟩
  case round =>
    obtain ⟨j, t, hk, rfl, rfl, hI⟩ := hrel
    have HV := Lib.hid hI
    have hjl := hI.jl
    have htl := hI.len hl HS.out
    clear hI HS0
    by_cases hj : j < l.length
    · obtain ⟨g, of, rfl, hab, hcell⟩ := HA.out.below HV.out.below (by omega)
      obtain ⟨v1, v2, v3, hsm, d0, d1, d2, d3, d4, d5, d6, d7⟩ := hcell j hj
      obtain ⟨m, hm⟩ : ∃ m, l[j] = m := ⟨_, rfl⟩
      have hsx : SmallM m := by rw [← hm]; exact HS.out _ (List.getElem_mem hj)
      rw [hm] at hsm d0 d1 d2 d3 d4
      obtain ⟨A1, p1, rfl, _⟩ := hsm.item.is
      obtain ⟨A2, p2, rfl, _⟩ := hsm.items.is
      obtain ⟨A3, p3, rfl, _⟩ := hsm.params.is
      have HM := Lib.hid hm
      have h1 := rmtext_any m _ _ _ wr hsm hsx (HT.out.below HV.out.below)
      have HTL : Hid (∀ u, mtx m = some u → u.length ≤ 3000000000000) := Lib.hid (fun u h => by obtain ⟨h1, rfl⟩ := mtx_some h; exact mt_size h1 hsx)
      have HE := Lib.hid (etx_list m)
      unfold mC at h1
      have H1 := Lib.hid h1
      clear hm hsx hcell hsm h1
      go_wp2_with fail
      refine H1.out.mono ?_
      rintro e w1 ⟨⟨x, rfl, hx⟩, hb1⟩
      have HB1 := Lib.hid hb1
      have e0 := (hb1.cell hab).trans d0
      have hab1 := Nat.lt_of_lt_of_le hab hb1.size
      have HX := Lib.hid hx
      clear hb1 H1 d0 d1 d2 d3 d4 d5 d6 d7 hx
      cases ht : mtx m with
      | none =>
        have hn : o = none := by rw [← HO.out]; exact textL_bad hj (by rw [HM.out, HE.out, ht]; split <;> rfl)
        subst hn
        clear ht
        rw [Option.isSome_none]
        go_wp2_with fail
        go_ret2
        exact ⟨rfl, onto HV.out.below HB1.out⟩
      | some u =>
        have hxu := HX.out u ht
        subst hxu
        have hul := HTL.out x ht
        rw [Option.isSome_some]
        obtain ⟨K, hK⟩ : ∃ K, m.key = K := ⟨_, rfl⟩
        rw [ht, hK] at HE
        rw [hK] at e0
        clear ht HTL HX hK
        cases K with
        | cons b K =>
          have hn : o = none := by rw [← HO.out]; exact textL_bad hj (by rw [HM.out, HE.out]; rfl)
          subst hn
          have q1 : (b :: K : List UInt8) ≠ [] := by simp
          go_wp2_with fail
          go_ret2
          exact ⟨rfl, onto HV.out.below HB1.out⟩
        | nil =>
          have HN := Lib.hid (HV.out.next hj (by rw [HM.out, HE.out]; rfl) (fun h => by cases h) HB1.out)
          have z1 : ∀ W : World, (Op.stringOp .add (bA t) ⟨#[44, 32]⟩).run Tryz.prog W = .ok (.string (bA (t ++ [44, 32]))) W := fun W => by
            rw [run_string_add_sum W (bA t) (bA [44, 32]) (by simp only [bA_size, List.length_cons, List.length_nil]; omega), bA_app]
          have z2 : ∀ W : World, (Op.stringOp .add (bA (t ++ [44, 32])) (bA x)).run Tryz.prog W = .ok (.string (bA (t ++ [44, 32] ++ x))) W := fun W => by
            rw [run_string_add_sum W (bA (t ++ [44, 32])) (bA x) (by simp only [bA_size, List.length_append, List.length_cons, List.length_nil]; omega), bA_app]
          have z3 : ∀ W : World, (Op.stringOp .add (bA t) (bA x)).run Tryz.prog W = .ok (.string (bA (t ++ x))) W := fun W => by
            rw [run_string_add_sum W (bA t) (bA x) (by simp only [bA_size]; omega), bA_app]
          rcases j with _ | j
          · rw [if_pos rfl] at HN
            simp only [Nat.zero_mul, Nat.add_zero] at e0
            go_wp2_with fail
            go_roundg (l.length - 1)
            case measure => omega
            case rel => exact ⟨1, t ++ x, rfl, by go_num, by simp, HN.out⟩
          · rw [if_neg (by omega)] at HN
            go_wp2_with fail
            go_roundg (l.length - (j + 1 + 1))
            case measure => omega
            case rel => exact ⟨j + 1 + 1, t ++ [44, 32] ++ x, rfl, by go_num, by simp, HN.out⟩
    · have hjj : j = l.length := by omega
      subst hjj
      have hn : o = some t := by rw [← HO.out]; exact HV.out.done
      subst hn
      go_wp2_with fail
      go_ret2
      exact ⟨rfl, HV.out.below⟩
end Go.Proofs.YtogjekjklknfeaaGreatDoor
