/- What is few, and what is read, is small. -/
import Derived.Test.YtogjekjklknfeaaGreatDoorSdFew2
import Derived.Test.YtogjekjklknfeaaGreatDoorSdOpen
import Derived.Test.YtogjekjklknfeaaGreatDoorPkCmp
namespace Go.Proofs.YtogjekjklknfeaaGreatDoor
open Go.RowKit Go.Shelf Go.Maps Go.Deep

theorem few_small {l : List Sf.Mem} (h : fewM l = true) (hw : ∀ m ∈ l, WM m) : l.length ≤ 50 ∧ ∀ m ∈ l, SmallM m ∧ m.items.length ≤ 50 := by
  unfold fewM at h
  rw [Bool.and_eq_true, decide_eq_true_eq] at h
  refine ⟨h.1, fun m hm => ?_⟩
  have h1 := List.all_eq_true.1 h.2 m hm
  unfold fewO at h1
  simp only [Bool.and_eq_true, decide_eq_true_eq] at h1
  obtain ⟨a, b, c, d⟩ := h1
  have hx : ∀ x ∈ allI m, x.params.length ≤ 50 ∧ x.text.length ≤ 200 ∧ ∀ p ∈ x.params, p.key.length ≤ 200 ∧ p.text.length ≤ 200 := fun x hx => by
    have h2 := List.all_eq_true.1 d x hx
    unfold fewI at h2
    simp only [Bool.and_eq_true, decide_eq_true_eq, List.all_eq_true] at h2
    obtain ⟨e, f, g⟩ := h2
    refine ⟨e, f, fun p hp => ?_⟩
    have h3 := g p hp
    unfold fewP at h3
    simpa using h3
  have hwm := hw m hm
  have sm : ∀ x ∈ allI m, WX x → SmallI x.kind x.n x.text x.params := fun x hx' hwx => by
    obtain ⟨e, f, g⟩ := hx x hx'
    exact ⟨hwx.n.1, hwx.n.2, by omega, ⟨by omega, fun p hp => ⟨(hwx.each p hp).1, (hwx.each p hp).2, by have := (g p hp).1; omega, by have := (g p hp).2; omega⟩⟩⟩
  obtain ⟨e, f, g⟩ := hx ⟨0, 0, [], m.params⟩ (by simp [allI])
  exact ⟨⟨by omega, sm _ (by simp [allI]) hwm.item, by omega, fun x hx' => sm x (by simp [allI, hx']) (hwm.items x hx'), ⟨Nat.le_trans b (by omega), fun p hp => ⟨(hwm.params p hp).1, (hwm.params p hp).2, by have := (g p hp).1; omega, by have := (g p hp).2; omega⟩⟩⟩, a⟩
theorem mt_size50 {m : Sf.Mem} (h : Sf.okM m = true) (hs : SmallM m) (h5 : m.items.length ≤ 50) : (Sf.mt m).length ≤ 36000000000 := by
  unfold Sf.mt
  split
  · rename_i hi
    unfold Sf.okM at h
    rw [if_pos hi, Bool.and_eq_true, Bool.and_eq_true] at h
    have h1 := jn_size [32] 700000000 (m.items.map Sf.itxt) (fun t ht => by obtain ⟨x, hx, rfl⟩ := List.mem_map.1 ht; exact itxt_size (hs.each x hx))
    have h2 := T_size h.2.2 hs.params
    rw [List.length_map] at h1
    have h3 : m.items.length * (700000000 + [(32 : UInt8)].length) ≤ 50 * (700000000 + [(32 : UInt8)].length) := Nat.mul_le_mul h5 (Nat.le_refl _)
    simp only [List.length_cons, List.length_append, List.length_nil] at h1 h3 ⊢
    omega
  · exact Nat.le_trans (itxt_size hs.item) (by omega)
theorem tx_size50 {d : Bool} {m : Sf.Mem} (h : Sf.okE d m = true) (hs : SmallM m) (h5 : m.items.length ≤ 50) : (Sf.tx d m).length ≤ 37000000000 := by
  unfold Sf.okE at h
  rw [Bool.and_eq_true] at h
  have h1 := mt_size50 h.1 hs h5
  have h2 := hs.key
  have h3 := Sf.dt_len m h.1
  unfold Sf.tx
  cases d with
  | false => simp only [Bool.false_eq_true, if_false]; omega
  | true => simp only [if_true]; omega
theorem jn_small {d : Bool} {l : List Sf.Mem} (h : l.all (Sf.okE d) = true) (hl : l.length ≤ 50) (hs : ∀ m ∈ l, SmallM m ∧ m.items.length ≤ 50) : (Sf.jn [44, 32] (l.map (Sf.tx d))).length ≤ 100000000000000 := by
  have h1 := jn_size [44, 32] 37000000000 (l.map (Sf.tx d)) (fun t ht => by obtain ⟨x, hx, rfl⟩ := List.mem_map.1 ht; exact tx_size50 (List.all_eq_true.1 h x hx) (hs x hx).1 (hs x hx).2)
  rw [List.length_map] at h1
  have h3 : l.length * (37000000000 + [(44 : UInt8), 32].length) ≤ 50 * (37000000000 + [(44 : UInt8), 32].length) := Nat.mul_le_mul hl (Nat.le_refl _)
  simp only [List.length_cons, List.length_nil] at h1 h3 ⊢
  omega
theorem jn_mem (sep : List UInt8) : ∀ {ts : List (List UInt8)} {t : List UInt8}, t ∈ ts → t.length ≤ (Sf.jn sep ts).length
  | [], _, h => by cases h
  | a :: l, t, h => by
    have : ∀ (l : List (List UInt8)), t ∈ l → t.length ≤ (l.flatMap fun b => sep ++ b).length := by
      intro l
      induction l with
      | nil => intro h; cases h
      | cons b l ih =>
        intro h
        simp only [List.flatMap_cons, List.length_append]
        rcases List.mem_cons.1 h with rfl | h
        · omega
        · have := ih h; omega
    simp only [Sf.jn, List.length_append]
    rcases List.mem_cons.1 h with rfl | h
    · omega
    · have := this l h; omega
theorem small_T {l : List Sf.Par} (h : (Sf.tailF [] l).isSome = true) (ht : (Sf.T l).length ≤ 10000) : SmallL l := by
  have hl := Sf.tail_some h
  obtain ⟨h1, h2⟩ := T_short hl.may
  refine ⟨by omega, fun p hp => ?_⟩
  have h4 := ptext_short (Sf.pt_some (hl.may p hp))
  have h5 := h2 p hp
  unfold Sf.maxN at h4
  exact ⟨by omega, by omega, by omega, by omega⟩
theorem small_item {x : Sf.Itm} (h : (Sf.text x).isSome = true) (ht : (Sf.itxt x).length ≤ 10000) : SmallI x.kind x.n x.text x.params := small_text (Sf.itxt_is h) ht
theorem itoa1 : (Go.Lib.itoa 1).length = 1 := by decide +kernel
theorem vtext61 {t v : List UInt8} (h : Sf.vtext 6 1 t = some v) : v.length = 2 := by
  unfold Sf.vtext at h
  split at h
  · cases h
  · rw [if_neg (by decide), if_neg (by decide), if_pos rfl, if_pos (.inr rfl)] at h
    cases h
    rw [List.length_cons, itoa1]
theorem mt_dt {m : Sf.Mem} (h : Sf.okM m = true) : (Sf.mt m).length ≤ (Sf.dt m).length + 2 := by
  unfold Sf.dt
  split
  · rename_i h1
    unfold Sf.oneB at h1
    simp only [Bool.and_eq_true, Bool.not_eq_true', beq_iff_eq] at h1
    obtain ⟨hi, h6, hn⟩ := h1
    unfold Sf.okM at h
    unfold Sf.mt
    rw [hi] at h ⊢
    simp only [Bool.false_eq_true, if_false, Bool.and_eq_true] at h ⊢
    obtain ⟨v, hv, hl, e⟩ := Sf.text_ways (Sf.itxt_is h.1)
    rw [h6, hn] at hv
    have := vtext61 hv
    rw [e, List.length_append, List.length_append]; omega
  · rw [List.length_append, List.length_cons]; omega
theorem mt_inner {d : Bool} {m : Sf.Mem} (hi : m.inner = true) : (Sf.mt m).length ≤ (Sf.tx d m).length := by
  cases d with
  | false => exact Nat.le_refl _
  | true =>
    show _ ≤ (Sf.dt m).length
    unfold Sf.dt
    rw [if_neg (by simp [Sf.oneB, hi]), List.length_append, List.length_cons]; omega
theorem small_mem {d : Bool} {m : Sf.Mem} (h : Sf.okE d m = true) (ht : (Sf.tx d m).length ≤ 4000) : SmallM m := by
  unfold Sf.okE at h
  rw [Bool.and_eq_true] at h
  have hm : (Sf.mt m).length ≤ 4002 := by
    cases d with
    | false => unfold Sf.tx at ht; simp only [Bool.false_eq_true, if_false] at ht; omega
    | true => have := mt_dt h.1; unfold Sf.tx at ht; simp only [if_true] at ht; omega
  have hk : m.key.length ≤ 4000 := by
    cases d with
    | false => have h2 := h.2; simp only [Bool.false_eq_true, if_false, List.isEmpty_iff] at h2; rw [h2]; simp
    | true => unfold Sf.tx at ht; simp only [if_true] at ht; unfold Sf.dt at ht; split at ht <;> (rw [List.length_append] at ht; omega)
  have h1 := h.1
  have hmi := fun hi => mt_inner (d := d) (m := m) hi
  unfold Sf.okM at h1
  unfold Sf.mt at hm hmi
  cases hi : m.inner with
  | true =>
    have hmi := hmi hi
    rw [hi] at hmi
    simp only [if_true, List.length_cons, List.length_append] at hmi
    rw [hi] at h1 hm
    simp only [if_true, Bool.and_eq_true] at h1 hm
    obtain ⟨hb, hall, htl⟩ := h1
    simp only [List.length_cons, List.length_append] at hm
    have hz := Sf.bare_iff.1 hb
    have hg := jn_ge [32] (m.items.map Sf.itxt) (by decide)
    rw [List.length_map] at hg
    refine ⟨by omega, ?_, by omega, fun x hx => ?_, small_T htl (by omega)⟩
    · rw [hz]; exact ⟨by decide, by decide, by simp [Sf.zItm], ⟨by simp [Sf.zItm], by simp [Sf.zItm]⟩⟩
    · have := jn_mem [32] (List.mem_map_of_mem hx : Sf.itxt x ∈ m.items.map Sf.itxt)
      exact small_item (List.all_eq_true.1 hall x hx) (by omega)
  | false =>
    rw [hi] at h1 hm
    simp only [Bool.false_eq_true, if_false, Bool.and_eq_true, List.isEmpty_iff] at h1 hm
    obtain ⟨ht1, he1, he2⟩ := h1
    refine ⟨by omega, small_item ht1 (by omega), by rw [he1]; simp, by rw [he1]; simp, ⟨by rw [he2]; simp, by rw [he2]; simp⟩⟩
theorem read_small {d : Bool} {s : List UInt8} {l : List Sf.Mem} (h : Sf.readL d s = some l) (hs : s.length ≤ 1000) : l.length ≤ 1000000 ∧ (∀ m ∈ l, SmallM m) ∧ (Sf.jn [44, 32] (l.map (Sf.tx d))).length ≤ 4000 := by
  obtain ⟨t, h1, h2, _⟩ := Sf.read_again h hs
  obtain ⟨hv, rfl⟩ := Sf.textL_ways h1
  have hg := jn_ge [44, 32] (l.map (Sf.tx d)) (by decide)
  rw [List.length_map] at hg
  refine ⟨by omega, fun m hm => small_mem (hv.ok m hm) ?_, h2⟩
  have := jn_mem [44, 32] (List.mem_map_of_mem hm : Sf.tx d m ∈ l.map (Sf.tx d))
  omega
end Go.Proofs.YtogjekjklknfeaaGreatDoor
