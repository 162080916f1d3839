/- The contract of host.address: it ranges over labels, and keeps their numbers in an array. -/
import Derived.Test.YtehjnidggnfbfaaDoorHostIter
import Derived.Test.YtehjnidggnfbfaaDoorOctNum
import Derived.Test.YtehjnidggnfbfaaDoorOctMath6
import Derived.Laws.BitsAllLaws
import Derived.Laws.BitsLemmas
namespace Go.Proofs.YtehjnidggnfbfaaDoor
open Go.RowKit Go.Shelf
attribute [local go_sem] Oper.semAt_some

def Lab.num (x : Lab) : Prop := Oct.numOk x.1 255 = true
/-- The array's cells when some numbers have come. -/
def nth (pre : List Lab) (i : Nat) : Int := (pre.map fun x => Oct.val x.1).getD i 0
def Arr (W : World) (B : Nat) (pre : List Lab) : Prop := W.heap[B]? = some (.cells #[.int .u32 (nth pre 0), .int .u32 (nth pre 1), .int .u32 (nth pre 2), .int .u32 (nth pre 3)] 71 (0, 0))
theorem arr_own (B : Nat) : Own (fun pre W => Arr W B pre) := fun s X Y row hs hg hrow => by
  refine (hg.block B (Array.getElem?_eq_some_iff.1 hs).1 (fun e => ?_)).trans hs
  obtain ⟨o, ho, hc⟩ := hrow B e.symm
  rw [show X.heap[B]? = _ from hs] at ho; cases ho; cases hc
theorem Arr.cell {W : World} {B : Nat} {pre : List Lab} (h : Arr W B pre) (i : Nat) (hi : i < 4) : W.cell? ⟨B, i, none⟩ = some (.int .u32 (nth pre i)) := by
  have h' : W.heap[B]? = _ := h
  match i, hi with
  | 0, _ => simp [World.cell?, h']
  | 1, _ => simp [World.cell?, h']
  | 2, _ => simp [World.cell?, h']
  | 3, _ => simp [World.cell?, h']
theorem Arr.frozen {W : World} {B : Nat} {pre : List Lab} (h : Arr W B pre) (i : Nat) : W.frozen? ⟨B, i, none⟩ = false := by
  have h' : W.heap[B]? = _ := h
  simp [World.frozen?, h']
theorem nth_snoc_lt (pre : List Lab) (x : Lab) (i : Nat) (h : i < pre.length) : nth (pre ++ [x]) i = nth pre i := by
  unfold nth
  simp [List.getD_eq_getElem?_getD, List.getElem?_append_left, h]
theorem nth_snoc_eq (pre : List Lab) (x : Lab) : nth (pre ++ [x]) pre.length = Oct.val x.1 := by
  unfold nth
  simp [List.getD_eq_getElem?_getD]
theorem nth_snoc_gt (pre : List Lab) (x : Lab) (i : Nat) (h : pre.length < i) : nth (pre ++ [x]) i = nth pre i := by
  unfold nth
  rw [List.getD_eq_getElem?_getD, List.getD_eq_getElem?_getD, List.getElem?_eq_none (by simp; omega), List.getElem?_eq_none (by simp; omega)]
theorem Arr.store {W : World} {B : Nat} {pre : List Lab} (h : Arr W B pre) (x : Lab) (hl : pre.length < 4) : Arr (W.setCell ⟨B, pre.length, none⟩ (.int .u32 (Oct.val x.1))) B (pre ++ [x]) := by
  have h' : W.heap[B]? = _ := h
  have e : (W.setCell ⟨B, pre.length, none⟩ (.int .u32 (Oct.val x.1))).heap[B]? = some (.cells ((#[.int .u32 (nth pre 0), .int .u32 (nth pre 1), .int .u32 (nth pre 2), .int .u32 (nth pre 3)] : Array Value).setIfInBounds pre.length (.int .u32 (Oct.val x.1))) 71 (0, 0)) := by
    simp [World.setCell, Array.getElem?_modify, h']
  unfold Arr
  rw [e]
  have e1 := nth_snoc_eq pre x
  have e2 := nth_snoc_lt pre x
  have e3 := nth_snoc_gt pre x
  generalize pre.length = m at *
  match m, hl with
  | 0, _ => rw [e1, e3 1 (by omega), e3 2 (by omega), e3 3 (by omega)]; rfl
  | 1, _ => rw [e1, e2 0 (by omega), e3 2 (by omega), e3 3 (by omega)]; rfl
  | 2, _ => rw [e1, e2 0 (by omega), e2 1 (by omega), e3 3 (by omega)]; rfl
  | 3, _ => rw [e1, e2 0 (by omega), e2 1 (by omega), e2 2 (by omega)]; rfl
theorem Arr.far {W : World} {B : Nat} {pre : List Lab} (h : Arr W B pre) {p : Addr} (hp : B ≠ p.block) (u : Value) : Arr (W.setCell p u) B pre := (Below.heap_setCell W p u B hp).trans h
theorem Boxed.far {W : World} {B : Nat} {t : TypeId} {v : Value} (h : Boxed W B t v) {p : Addr} (hp : B ≠ p.block) (u : Value) : Boxed (W.setCell p u) B t v := (Below.heap_setCell W p u B hp).trans h

/-- What is answered: the address and that it is one; or 0 and that it is none. -/
def addrV (ps : List (List UInt8)) : Value := .tuple #[.int .u32 (if Hst.numsB ps then Hst.addrOf ps else 0), .bool (Hst.numsB ps)]

theorem num_bd {l : List UInt8} (h : Oct.numOk l 255 = true) : 0 ≤ Oct.val l ∧ Oct.val l ≤ 255 := by
  obtain ⟨_, _, h3, h4⟩ := Oct.numOk_parts _ _ h
  exact ⟨Oct.val_nonneg _ h3, h4⟩
theorem number_no (s : ByteArray) (w : World) (hs : s.size ≤ maxLen) (hok : Oct.numOk s.data.toList 255 = false) :
    Calls Tryd.prog 56 #[.string s, .int .i64 255] w fun e w' => e = .returned (.tuple #[.int .i64 0, .bool false]) ∧ w = w' :=
  (number_any s 255 w hs (by decide) (by decide)).mono (by rintro e w' ⟨rfl, h⟩; exact ⟨(num_no hok).symm, h⟩)
theorem number_ok (s : ByteArray) (w : World) (hs : s.size ≤ maxLen) (hok : Oct.numOk s.data.toList 255 = true) :
    Calls Tryd.prog 56 #[.string s, .int .i64 255] w fun e w' => e = .returned (.tuple #[.int .i64 (Oct.val s.data.toList), .bool true]) ∧ w = w' :=
  (number_any s 255 w hs (by decide) (by decide)).mono (by rintro e w' ⟨rfl, h⟩; exact ⟨(num_yes hok rfl).symm, h⟩)

theorem addr_not (l : List UInt8) (hl : l.length ≤ 253) {pre : List Lab} (hp : pre <+: labs l hl) (h : 5 ≤ pre.length ∨ ∃ x ∈ pre, ¬ Lab.num x) : Ending.returned (.tuple #[.int .u32 0, .bool false]) = .returned (addrV (Hst.parts l)) := by
  have e : Hst.numsB (Hst.parts l) = false := by
    unfold Hst.numsB
    rw [Bool.and_eq_false_iff]
    rcases h with h | ⟨x, hx, hn⟩
    · left
      have := hp.length_le
      rw [labs_len] at this
      simp; omega
    · right
      rw [List.all_eq_false, ← labs_map l hl]
      exact ⟨x.1, List.mem_map.2 ⟨x, hp.subset hx, rfl⟩, hn⟩
  unfold addrV
  rw [e]; rfl

theorem addr_few (l : List UInt8) (hl : l.length ≤ 253) (h : (labs l hl).length < 4) : Ending.returned (.tuple #[.int .u32 0, .bool false]) = .returned (addrV (Hst.parts l)) := by
  have e : Hst.numsB (Hst.parts l) = false := by
    unfold Hst.numsB
    rw [labs_len] at h
    rw [Bool.and_eq_false_iff]
    left
    simp; omega
  unfold addrV
  rw [e]; rfl
theorem nth_bd1 (ys : List Lab) (hp : ∀ x ∈ ys, Lab.num x) (i : Nat) : 0 ≤ nth ys i ∧ nth ys i ≤ 255 := by
  unfold nth
  rw [List.getD_eq_getElem?_getD]
  by_cases h : i < ys.length
  · rw [List.getElem?_eq_getElem (by simpa using h)]
    simp only [List.getElem_map, Option.getD_some]
    exact num_bd (hp _ (List.getElem_mem h))
  · rw [List.getElem?_eq_none (by simpa using h)]
    simp
theorem nth_bd (ys : List Lab) (hp : ∀ x ∈ ys, Lab.num x) : (0 ≤ nth ys 0 ∧ nth ys 0 ≤ 255) ∧ (0 ≤ nth ys 1 ∧ nth ys 1 ≤ 255) ∧ (0 ≤ nth ys 2 ∧ nth ys 2 ≤ 255) ∧ (0 ≤ nth ys 3 ∧ nth ys 3 ≤ 255) :=
  ⟨nth_bd1 ys hp 0, nth_bd1 ys hp 1, nth_bd1 ys hp 2, nth_bd1 ys hp 3⟩

theorem or_shift (x y k : Nat) (h : y < 2 ^ k) : x * 2 ^ k ||| y = x * 2 ^ k + y := by
  have := Nat.shiftLeft_add_eq_or_of_lt h x
  rw [Nat.shiftLeft_eq] at this
  exact this.symm
theorem or_four_nat (a b c d : Nat) (ha : a ≤ 255) (hb : b ≤ 255) (hc : c ≤ 255) (hd : d ≤ 255) : bits .or .u32 (bits .or .u32 (bits .or .u32 ((a * 16777216 : Nat) : Int) ((b * 65536 : Nat) : Int)) ((c * 256 : Nat) : Int)) (d : Int) = ((256 * (256 * (256 * a + b) + c) + d : Nat) : Int) := by
  have e1 : a * 16777216 ||| b * 65536 = (256 * a + b) * 65536 := by
    have := or_shift a (b * 65536) 24 (by omega)
    rw [show (2 : Nat) ^ 24 = 16777216 by decide] at this
    rw [this]; omega
  have e2 : (256 * a + b) * 65536 ||| c * 256 = (256 * (256 * a + b) + c) * 256 := by
    have := or_shift (256 * a + b) (c * 256) 16 (by omega)
    rw [show (2 : Nat) ^ 16 = 65536 by decide] at this
    rw [this]; omega
  have e3 : (256 * (256 * a + b) + c) * 256 ||| d = 256 * (256 * (256 * a + b) + c) + d := by
    have := or_shift (256 * (256 * a + b) + c) d 8 (by omega)
    rw [show (2 : Nat) ^ 8 = 256 by decide] at this
    rw [this]; omega
  rw [u32_or_nat _ _ (by omega) (by omega), e1, u32_or_nat _ _ (by omega) (by omega), e2, u32_or_nat _ _ (by omega) (by omega), e3]
theorem or_four (a b c d : Int) (a0 : 0 ≤ a) (a1 : a ≤ 255) (b0 : 0 ≤ b) (b1 : b ≤ 255) (c0 : 0 ≤ c) (c1 : c ≤ 255) (d0 : 0 ≤ d) (d1 : d ≤ 255) :
    bits .or .u32 (bits .or .u32 (bits .or .u32 (a * 16777216) (b * 65536)) (c * 256)) d = 256 * (256 * (256 * a + b) + c) + d := by
  obtain ⟨A, rfl⟩ := Int.eq_ofNat_of_zero_le a0
  obtain ⟨B, rfl⟩ := Int.eq_ofNat_of_zero_le b0
  obtain ⟨C, rfl⟩ := Int.eq_ofNat_of_zero_le c0
  obtain ⟨E, rfl⟩ := Int.eq_ofNat_of_zero_le d0
  have h := or_four_nat A B C E (by omega) (by omega) (by omega) (by omega)
  simp only [Int.natCast_mul, Int.natCast_add] at h
  exact h
theorem addr_yes (l : List UInt8) (hl : l.length ≤ 253) (ys : List Lab) (hys : ys = labs l hl) (hp : ∀ x ∈ ys, Lab.num x) (h4 : ys.length = 4) {X : Int} (hX : 256 * (256 * (256 * nth ys 0 + nth ys 1) + nth ys 2) + nth ys 3 = X) :
    Ending.returned (.tuple #[.int .u32 X, .bool true]) = .returned (addrV (Hst.parts l)) := by
  have hm := labs_map l hl
  rw [← hys] at hm
  have e : Hst.numsB (Hst.parts l) = true := by
    unfold Hst.numsB
    rw [← hm, Bool.and_eq_true]
    refine ⟨by simpa using h4, ?_⟩
    rw [List.all_eq_true]
    intro q hq
    obtain ⟨x, hx, rfl⟩ := List.mem_map.1 hq
    exact hp x hx
  unfold addrV
  rw [e, ← hm, ← hX]
  match ys, h4 with
  | [x0, x1, x2, x3], _ => simp [nth, Hst.addrOf]

set_option maxRecDepth 100000 in
set_option maxHeartbeats 2000000 in
theorem address_in (s : ByteArray) (w : World) (hsm : s.size ≤ 253) :
    CallsIn Fence.wide 6 Tryd.prog 55 #[.string s] w fun e W' => e = .returned (addrV (Hst.parts s.data.toList)) ∧ Below w.heap.size w W' := by
  have hs : s.data.toList.length ≤ 253 := by simpa using hsm
  refine callsIn_of_wp_marks Tryd.func55 rfl trivial ?_ rfl
  simp only [Tryd.ntmps55, List.size_toArray, List.length_cons, List.length_nil, Nat.reduceAdd, Nat.reduceSub, Array.replicate_succ, Array.replicate_zero, List.push_toArray, List.append_toArray, List.nil_append, List.cons_append]
  gi_wp2_with fail
  refine ⟨trivial, ?_⟩
  refine (callsIn_wide.2 (labels_any s _)).mono ?_
  rintro e w' ⟨rfl, rfl⟩
  gi_wp2_with fail
  have b0 := ((((Boxed.new w 22 (.int .u32 0)).alloc (.cells #[.bool false] 4)).alloc (.cells #[.int .u32 0, .int .u32 0, .int .u32 0, .int .u32 0] 71)).alloc (.cells #[.int .i64 0] 3)).alloc (.cells #[.string s] 9)
  have b1 := (((Boxed.new (w.alloc (.cells #[.int .u32 0] 22)) 4 (.bool false)).alloc (.cells #[.int .u32 0, .int .u32 0, .int .u32 0, .int .u32 0] 71)).alloc (.cells #[.int .i64 0] 3)).alloc (.cells #[.string s] 9)
  have b3 := (Boxed.new (((w.alloc (.cells #[.int .u32 0] 22)).alloc (.cells #[.bool false] 4)).alloc (.cells #[.int .u32 0, .int .u32 0, .int .u32 0, .int .u32 0] 71)) 3 (.int .i64 0)).alloc (.cells #[.string s] 9)
  have b4 := Boxed.new ((((w.alloc (.cells #[.int .u32 0] 22)).alloc (.cells #[.bool false] 4)).alloc (.cells #[.int .u32 0, .int .u32 0, .int .u32 0, .int .u32 0] 71)).alloc (.cells #[.int .i64 0] 3)) 9 (.string s)
  have b2 : Arr (((((w.alloc (.cells #[.int .u32 0] 22)).alloc (.cells #[.bool false] 4)).alloc (.cells #[.int .u32 0, .int .u32 0, .int .u32 0, .int .u32 0] 71)).alloc (.cells #[.int .i64 0] 3)).alloc (.cells #[.string s] 9)) (w.heap.size + 1 + 1) [] := by
    have h := World.alloc_heap_new ((w.alloc (.cells #[.int .u32 0] 22)).alloc (.cells #[.bool false] 4)) (.cells #[.int .u32 0, .int .u32 0, .int .u32 0, .int .u32 0] 71)
    rw [World.size_alloc, World.size_alloc] at h
    exact (Below.heap_alloc _ _ _ (by simp)).trans ((Below.heap_alloc _ _ _ (by simp)).trans h)
  simp only [World.size_alloc] at b1 b3 b4
  have hB0 : Below w.heap.size w (((((w.alloc (.cells #[.int .u32 0] 22)).alloc (.cells #[.bool false] 4)).alloc (.cells #[.int .u32 0, .int .u32 0, .int .u32 0, .int .u32 0] 71)).alloc (.cells #[.int .i64 0] 3)).alloc (.cells #[.string s] 9)) :=
    (((((Below.refl _ w).alloc (Nat.le_refl _) _).alloc (by simp) _).alloc (by simp; omega) _).alloc (by simp; omega) _).alloc (by simp; omega) _
  obtain ⟨W0, hW0⟩ : ∃ W0, (((((w.alloc (.cells #[.int .u32 0] 22)).alloc (.cells #[.bool false] 4)).alloc (.cells #[.int .u32 0, .int .u32 0, .int .u32 0, .int .u32 0] 71)).alloc (.cells #[.int .i64 0] 3)).alloc (.cells #[.string s] 9)) = W0 := ⟨_, rfl⟩
  have hsz : W0.heap.size = w.heap.size + 5 := by rw [← hW0]; simp
  rw [hW0] at b0 b1 b2 b3 b4 hB0 ⊢
  clear hW0
  refine wpIn_rangeFunc_ownF rfl (by decide) (gf := 86) (lb := #[.pointer (some ⟨w.heap.size + 1 + 1 + 1 + 1, 0, none⟩)]) rfl trivial (enters_of Tryd.func86 (by kernel_rfl) rfl)
    (labels1_stops _ (by decide) (w.heap.size + 1 + 1 + 1 + 1) s hs (fun b => b = w.heap.size + 1 + 1 ∨ b = w.heap.size + 1 + 1 + 1) W0 b4.cell (fun b h => by rw [hsz]; omega)) Kept.trans (fun W l o o' _ hl ho _ => Kept.putObj W l o o' hl ho) (Below.refl _ _) (fun _ => rfl)
    (fun pre W => ((∀ x ∈ pre, Lab.num x) ∧ pre.length ≤ 4) ∧ Boxed W w.heap.size 22 (.int .u32 0) ∧ Boxed W (w.heap.size + 1) 4 (.bool false) ∧ Arr W (w.heap.size + 1 + 1) pre ∧ Boxed W (w.heap.size + 1 + 1 + 1) 3 (.int .i64 pre.length) ∧ Below w.heap.size w W)
    (fun c pre W => (c = .ret ∧ (5 ≤ pre.length ∨ ∃ x ∈ pre, ¬ Lab.num x)) ∧ Boxed W w.heap.size 22 (.int .u32 0) ∧ Boxed W (w.heap.size + 1) 4 (.bool false) ∧ Below w.heap.size w W)
    (OwnFrom.and (ownFrom_pure _ _) (OwnFrom.and (Own.from (boxed_own _ _ _) _) (OwnFrom.and (Own.from (boxed_own _ _ _) _) (OwnFrom.and (Own.from (arr_own _) _) (OwnFrom.and (Own.from (boxed_own _ _ _) _) (ownFrom_below (Nat.le_refl _) (by omega)))))))
    (fun c => OwnFrom.and (ownFrom_pure _ _) (OwnFrom.and (Own.from (boxed_own _ _ _) _) (OwnFrom.and (Own.from (boxed_own _ _ _) _) (ownFrom_below (Nat.le_refl _) (by omega)))))
    ⟨⟨by simp, by simp⟩, b0, b1, b2, b3, hB0⟩
    (fun x => { tmps := #[.string s, undef, .pointer (some ⟨w.heap.size, 0, none⟩), .pointer (some ⟨w.heap.size + 1, 0, none⟩), .pointer (some ⟨w.heap.size + 1 + 1, 0, none⟩), .pointer (some ⟨w.heap.size + 1 + 1 + 1, 0, none⟩), .string ⟨x.1.toArray⟩, undef, undef, .string s, .func (.func 86) #[] #[.pointer (some ⟨w.heap.size + 1 + 1 + 1 + 1, 0, none⟩)], .string ⟨x.1.toArray⟩, undef, undef, undef, undef, undef, undef, undef, undef, undef, undef, undef, undef, undef, undef, undef, undef, undef, undef, undef, undef, undef, undef, undef, undef, undef, undef, undef, undef, undef, undef, undef, undef, undef], defers := [] }) ?assign ?body ?done ?stop
  case assign =>
    intro l x W K hK
    unfold labV
    gi_wp2
    exact hK
  case body =>
    rintro l pre x W ⟨⟨hp, hlen⟩, q0, q1, q2, q3, hB⟩ _
    have c0 := q0.cell; have f0 := q0.frozen
    have c1 := q1.cell; have f1 := q1.frozen
    have c3 := q3.cell; have f3 := q3.frozen
    have hxs : (⟨x.1.toArray⟩ : ByteArray).size ≤ maxLen := by have := x.2; unfold maxLen; simp [ByteArray.size]; omega
    cases hn : Oct.numOk x.1 255 with
    | false =>
      have hcall := number_no ⟨x.1.toArray⟩ W hxs hn
      have HN := Lib.hid hn
      clear hn
      gi_wp2_with fail
      refine ⟨trivial, (CallsIn.inRound l (callsIn_wide.2 hcall)).mono ?_⟩
      rintro e w' ⟨rfl, rfl⟩
      clear hcall
      gi_wp2_with fail
      exact ⟨(KeepsOthers.setCell _ _ _).trans (KeepsOthers.setCell _ _ _), ⟨rfl, .inr ⟨x, by simp, fun h => by unfold Lab.num at h; rw [HN.out] at h; cases h⟩⟩,
        Boxed.far (q0.set _) (by simp) _, (Boxed.far q1 (by simp) _).set _, (hB.setCell (p := ⟨w.heap.size, 0, none⟩) (Nat.le_refl _) _).setCell (p := ⟨w.heap.size + 1, 0, none⟩) (by simp) _⟩
    | true =>
      have hcall := number_ok ⟨x.1.toArray⟩ W hxs hn
      have hbd := num_bd hn
      obtain ⟨v, hv⟩ : ∃ v, Oct.val x.1 = v := ⟨_, rfl⟩
      replace hcall : Calls Tryd.prog 56 #[.string ⟨x.1.toArray⟩, .int .i64 255] W fun e w' => e = .returned (.tuple #[.int .i64 v, .bool true]) ∧ W = w' := by rw [← hv]; exact hcall
      rw [hv] at hbd
      obtain ⟨v0, v1⟩ := hbd
      have HV := Lib.hid hv
      have HN := Lib.hid hn
      clear hn hv
      by_cases h4 : pre.length = 4
      · have h4' : ((pre.length : Int) == 4) = true := by rw [h4]; rfl
        gi_wp2_with fail
        refine ⟨trivial, (CallsIn.inRound l (callsIn_wide.2 hcall)).mono ?_⟩
        rintro e w' ⟨rfl, rfl⟩
        clear hcall
        have H4 := Lib.hid h4
        clear h4
        gi_wp2_with fail
        exact ⟨(KeepsOthers.setCell _ _ _).trans (KeepsOthers.setCell _ _ _), ⟨rfl, .inl (by have := H4.out; simp; omega)⟩,
          Boxed.far (q0.set _) (by simp) _, (Boxed.far q1 (by simp) _).set _, (hB.setCell (p := ⟨w.heap.size, 0, none⟩) (Nat.le_refl _) _).setCell (p := ⟨w.heap.size + 1, 0, none⟩) (by simp) _⟩
      · have hlt : pre.length < 4 := by omega
        have h4' : ((pre.length : Int) == 4) = false := by rw [beq_eq_false_iff_ne]; omega
        have c2 := q2.cell pre.length hlt
        have f2 := q2.frozen pre.length
        clear h4
        gi_wp2_with fail
        refine ⟨trivial, (CallsIn.inRound l (callsIn_wide.2 hcall)).mono ?_⟩
        rintro e w' ⟨rfl, rfl⟩
        clear hcall
        gi_wp2_with fail
        have qs := q2.store x hlt
        rw [HV.out] at qs
        have hcnt : (Value.int .i64 (((pre ++ [x]).length : Nat) : Int)) = .int .i64 ((pre.length : Int) + 1) := by simp
        have hall : ∀ y ∈ pre ++ [x], Lab.num y := fun y hy => (List.mem_append.1 hy).elim (hp y) (fun e => by
          obtain rfl : y = x := by simpa using e
          exact HN.out)
        refine ⟨(KeepsOthers.setCell _ _ _).trans (KeepsOthers.setCell _ _ _), (Kept.setCell _ _ _ (.inl rfl)).trans (Kept.setCell _ _ _ (.inr rfl)), ⟨hall, by simp; omega⟩,
          Boxed.far (Boxed.far q0 (by show _ ≠ _ + 1 + 1; omega) _) (by show _ ≠ _ + 1 + 1 + 1; omega) _, Boxed.far (Boxed.far q1 (by show _ ≠ _ + 1 + 1; omega) _) (by show _ ≠ _ + 1 + 1 + 1; omega) _, Arr.far qs (by show _ ≠ _ + 1 + 1 + 1; omega) _, ?_,
          (hB.setCell (p := ⟨w.heap.size + 1 + 1, pre.length, none⟩) (by simp; omega) _).setCell (p := ⟨w.heap.size + 1 + 1 + 1, 0, none⟩) (by simp; omega) _⟩
        rw [hcnt]
        exact (Boxed.far q3 (by simp) _).set _
  case done =>
    rintro D ys W hD hys ⟨⟨hp, hlen⟩, q0, q1, q2, q3, hB⟩ hK
    have c0 := q0.cell; have f0 := q0.frozen
    have c1 := q1.cell; have f1 := q1.frozen
    have c3 := q3.cell; have f3 := q3.frozen
    have HY := Lib.hid hys
    clear hys
    by_cases h4 : ys.length < 4
    · gi_wp2_with fail
      have hK' := ((KeepsOthers.setCell W ⟨w.heap.size, 0, none⟩ (.int .u32 0)).trans (KeepsOthers.setCell _ ⟨w.heap.size + 1, 0, none⟩ (.bool false))).same D _ hK rfl
      refine ⟨by simp, .inl ⟨_, _, rfl, run_takeDeferred hK', ?_⟩⟩
      have q0' := Boxed.far (q0.set (.int .u32 0)) (p := ⟨w.heap.size + 1, 0, none⟩) (by simp) (.bool false)
      have q1' := (Boxed.far q1 (p := ⟨w.heap.size, 0, none⟩) (by simp) (.int .u32 0)).set (.bool false)
      have hc0 := cell_kept q0'.cell (grownBy_putObj' _ D (.deferred none)) (fun r e => by cases e; exact ⟨_, hK', rfl⟩)
      have hc1 := cell_kept q1'.cell (grownBy_putObj' _ D (.deferred none)) (fun r e => by cases e; exact ⟨_, hK', rfl⟩)
      refine ⟨.tuple #[.int .u32 0, .bool false], ?_, addr_few _ hs (by rw [← HY.out]; exact h4), ((hB.setCell (p := ⟨w.heap.size, 0, none⟩) (Nat.le_refl _) _).setCell (p := ⟨w.heap.size + 1, 0, none⟩) (by simp) _).trans (belowK_b (w := w) (Nat.le_refl _) _ D _ _ (by omega) hK' rfl rfl)⟩
      simp [results, Tryd.results55, go_sem, hc0, hc1]
    · have h5 : 4 ≤ ys.length := by omega
      have d0 := q2.cell 0 (by omega)
      have d1 := q2.cell 1 (by omega)
      have d2 := q2.cell 2 (by omega)
      have d3 := q2.cell 3 (by omega)
      obtain ⟨⟨n0, m0⟩, ⟨n1, m1⟩, ⟨n2, m2⟩, ⟨n3, m3⟩⟩ := nth_bd ys hp
      obtain ⟨a0, ha0⟩ : ∃ a, nth ys 0 = a := ⟨_, rfl⟩
      obtain ⟨a1, ha1⟩ : ∃ a, nth ys 1 = a := ⟨_, rfl⟩
      obtain ⟨a2, ha2⟩ : ∃ a, nth ys 2 = a := ⟨_, rfl⟩
      obtain ⟨a3, ha3⟩ : ∃ a, nth ys 3 = a := ⟨_, rfl⟩
      rw [ha0] at d0 n0 m0; rw [ha1] at d1 n1 m1; rw [ha2] at d2 n2 m2; rw [ha3] at d3 n3 m3
      have A0 := Lib.hid ha0; have A1 := Lib.hid ha1; have A2 := Lib.hid ha2; have A3 := Lib.hid ha3
      clear ha0 ha1 ha2 ha3
      gi_wp2_with fail
      rw [or_four a0 a1 a2 a3 n0 m0 n1 m1 n2 m2 n3 m3]
      obtain ⟨X, hX⟩ : ∃ X, 256 * (256 * (256 * a0 + a1) + a2) + a3 = X := ⟨_, rfl⟩
      rw [hX]
      have hK' := ((KeepsOthers.setCell W ⟨w.heap.size, 0, none⟩ (.int .u32 X)).trans (KeepsOthers.setCell _ ⟨w.heap.size + 1, 0, none⟩ (.bool true))).same D _ hK rfl
      refine ⟨by simp, .inl ⟨_, _, rfl, run_takeDeferred hK', ?_⟩⟩
      have q0' := Boxed.far (q0.set (.int .u32 X)) (p := ⟨w.heap.size + 1, 0, none⟩) (by simp) (.bool true)
      have q1' := (Boxed.far q1 (p := ⟨w.heap.size, 0, none⟩) (by simp) (.int .u32 X)).set (.bool true)
      have hc0 := cell_kept q0'.cell (grownBy_putObj' _ D (.deferred none)) (fun r e => by cases e; exact ⟨_, hK', rfl⟩)
      have hc1 := cell_kept q1'.cell (grownBy_putObj' _ D (.deferred none)) (fun r e => by cases e; exact ⟨_, hK', rfl⟩)
      refine ⟨.tuple #[.int .u32 X, .bool true], ?_, addr_yes _ hs ys HY.out hp (by omega) (by rw [A0.out, A1.out, A2.out, A3.out]; exact hX), ((hB.setCell (p := ⟨w.heap.size, 0, none⟩) (Nat.le_refl _) _).setCell (p := ⟨w.heap.size + 1, 0, none⟩) (by simp) _).trans (belowK_b (w := w) (Nat.le_refl _) _ D _ _ (by omega) hK' rfl rfl)⟩
      simp [results, Tryd.results55, go_sem, hc0, hc1]
  case stop =>
    rintro D c pre W hD hpre ⟨⟨rfl, hin⟩, q0, q1, hB⟩ hK
    gi_wp2_with fail
    refine ⟨by simp, .inl ⟨_, _, rfl, run_takeDeferred hK, ?_⟩⟩
    have hc0 := cell_kept q0.cell (grownBy_putObj' _ D (.deferred none)) (fun r e => by cases e; exact ⟨_, hK, rfl⟩)
    have hc1 := cell_kept q1.cell (grownBy_putObj' _ D (.deferred none)) (fun r e => by cases e; exact ⟨_, hK, rfl⟩)
    refine ⟨.tuple #[.int .u32 0, .bool false], ?_, addr_not _ hs hpre hin, hB.trans (belowK_b (w := w) (Nat.le_refl _) W D _ _ (by omega) hK rfl rfl)⟩
    simp [results, Tryd.results55, go_sem, hc0, hc1]
theorem address_any (s : ByteArray) (w : World) (hsm : s.size ≤ 253) : Calls Tryd.prog 55 #[.string s] w fun e W' => e = .returned (addrV (Hst.parts s.data.toList)) ∧ Below w.heap.size w W' := callsIn_wide.1 (address_in s w hsm)
end Go.Proofs.YtehjnidggnfbfaaDoor
