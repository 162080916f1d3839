/- Our texts of one layer, joined: plain functions and their laws, and the contracts of the functions of that layer. -/
import Derived.Test.YtinjkpbpkedfnaaGreatDoorOctAll
import Derived.Test.YtinjkpbpkedfnaaGreatDoorShelf
import Derived.RangeFuncNested
import Derived.RangeFuncBound
import Derived.RangeFuncCalls
import Derived.RangeFuncLeaves
import Derived.RangeFuncFrom
import Derived.RangeFuncBox
import Derived.Shelf.Abstract
import Derived.Shelf.RegionOpen
import Derived.WalkKit
import Derived.OwnWalkIn
import Derived.TacticsInMore
import Derived.LoopNIn
import Derived.LoopIn
import Derived.Laws.BitsAllLaws
import Derived.Laws.BitsLemmas
import Derived.Test.YtinjkpbpkedfnaaGreatDoorItoa
import Derived.Laws.BitsAll
import Derived.Lib.Join
import Derived.BigQuiet
import Derived.Deep.QuietTactic
import Derived.Lib.ItoaNum

/- Hosts, as plain functions on lists of bytes (what package host says); no program is named here. -/

namespace Go.Proofs.YtinjkpbpkedfnaaGreatDoor
namespace Hst
open Oct

def labI (c : Int) : Bool := (digitI c || (decide (97 ≤ c) && decide (c ≤ 122))) || (c == 45 || c == 95)
/-- Is a text a label? -/
def labelB (l : List UInt8) : Bool := allB labI l && !l.isEmpty && decide (l.length ≤ 63)
/-- The labels of a name, the empty ones too. -/
def parts (l : List UInt8) : List (List UInt8) := split (fun x => x == 46) l
def domB (l : List UInt8) : Bool := decide (l.length ≤ 253) && (parts l).all labelB
def digB (l : List UInt8) : Bool := allB digitI l
def last (l : List UInt8) : List UInt8 := (parts l).getLastD []
def numsB (ps : List (List UInt8)) : Bool := decide (ps.length = 4) && ps.all fun p => numOk p 255
def addrOf (ps : List (List UInt8)) : Int := ps.foldl (fun a p => 256 * a + val p) 0

structure Host where
  name : List UInt8
  v4 : Bool
  addr : Int
def none_ : Host := ⟨[], false, 0⟩
/-- The host that a text in small letters is; none: it is none. -/
def read (n : List UInt8) : Option Host :=
  if domB n then
    if digB (last n) then
      if numsB (parts n) then some ⟨[], true, addrOf (parts n)⟩ else none
    else some ⟨n, false, 0⟩
  else none
def parse (l : List UInt8) : Option Host := read (lower l)

theorem split_ne (p : Int → Bool) (l : List UInt8) : split p l ≠ [] := by
  intro h; have := split_pos p l; rw [h] at this; simp at this
theorem parts_ne (l : List UInt8) : parts l ≠ [] := split_ne _ l
theorem join_parts (l : List UInt8) : join 46 (parts l) = l := join_split 46 l
theorem parts_none (l : List UInt8) : ∀ q ∈ parts l, ∀ b ∈ q, ((b.toNat : Int) == 46) = false := split_none (fun x => x == 46) l
theorem parts_len (l : List UInt8) : (parts l).length ≤ l.length + 1 := split_len _ l
theorem parts_pos (l : List UInt8) : 0 < (parts l).length := split_pos _ l

theorem split_one (p : Int → Bool) (l : List UInt8) (h : ∀ b ∈ l, p b.toNat = false) : split p l = [l] := by
  have : ∀ (l c : List UInt8), (∀ b ∈ l, p b.toNat = false) → l.foldl (stp p) ([], c) = ([], c ++ l) := by
    intro l
    induction l with
    | nil => intro c _; simp
    | cons b l ih =>
      intro c h
      rw [List.foldl_cons]
      have hb := h b (by simp)
      have : stp p ([], c) b = ([], c ++ [b]) := by unfold stp; simp [hb]
      rw [this, ih _ (fun x hx => h x (by simp [hx]))]
      simp
  have e := this l [] h
  unfold split st
  rw [e]; simp
/-- Texts without the byte, laid with the byte between, are the parts of what comes. -/
theorem split_join (c : UInt8) : ∀ ps : List (List UInt8), ps ≠ [] → (∀ q ∈ ps, ∀ b ∈ q, ((b.toNat : Int) == (c.toNat : Int)) = false) → split (fun x => x == (c.toNat : Int)) (join c ps) = ps
  | [], h, _ => absurd rfl h
  | [p], _, h => split_one _ p (h p (by simp))
  | p :: q :: r, _, h => by
    have ih := split_join c (q :: r) (by simp) (fun x hx => h x (List.mem_cons_of_mem _ hx))
    have e : join c (p :: q :: r) = p ++ [c] ++ join c (q :: r) := by simp [join]
    rw [e, split_glue _ _ _ c (by simp), ih, split_one _ p (h p (by simp))]
    rfl
theorem parts_join (ps : List (List UInt8)) (h0 : ps ≠ []) (h : ∀ q ∈ ps, ∀ b ∈ q, ((b.toNat : Int) == 46) = false) : parts (join 46 ps) = ps := split_join 46 ps h0 h
end Hst
end Go.Proofs.YtinjkpbpkedfnaaGreatDoor

/- The contracts of host's and the document's functions of one label. -/

namespace Go.Proofs.YtinjkpbpkedfnaaGreatDoor
open Go.RowKit

set_option maxHeartbeats 400000 in
theorem isDigit_any (c : Int) (w : World) : Calls Tryz.prog 129 #[.int .u8 c] w fun e w' => e = .returned (.bool (Oct.digitI c)) ∧ w = w' := by
  go_enter Tryz.func129, Tryz.ntmps129
  go_wp2
  all_goals (go_ret; refine ⟨?_, rfl⟩; simp_all [Oct.digitI] <;> omega)

theorem lab_yes {c : Int} (h : Hst.labI c = true) : Oct.digitI c = true ∨ (Oct.digitI c = false ∧ 97 ≤ c ∧ c ≤ 122) ∨ c = 45 ∨ c = 95 := by
  unfold Hst.labI at h
  cases hd : Oct.digitI c <;> simp [hd] at h ⊢
  exact h
theorem lab_no {c : Int} (h : Hst.labI c = false) : Oct.digitI c = false ∧ (c < 97 ∨ 122 < c) ∧ (c == 45) = false ∧ (c == 95) = false ∧ (c != 45) = true ∧ (c != 95) = true := by
  unfold Hst.labI at h
  cases hd : Oct.digitI c <;> simp [hd] at h ⊢
  obtain ⟨h1, h2, h3⟩ := h
  exact ⟨by omega, h2, h3, h2, h3⟩
theorem label_end (s : ByteArray) (k : Nat) (h : s.size ≤ k) (hi : Oct.allB Hst.labI (s.data.toList.take k) = true) (h0 : s.toList.isEmpty = false) : (!s.toList.isEmpty && decide ((s.size : Int) ≤ 63)) = Hst.labelB s.data.toList := by
  rw [Oct.take_all s k h] at hi
  rw [Lib.toList_data] at h0 ⊢
  unfold Hst.labelB
  rw [hi, h0]
  simp
  omega
theorem label_nil (s : ByteArray) (h0 : s.toList.isEmpty = true) : false = Hst.labelB s.data.toList := by
  rw [Lib.toList_data] at h0
  unfold Hst.labelB
  rw [h0]; simp
theorem label_miss (s : ByteArray) (k : Nat) (h : k < s.size) (hc : Hst.labI s[k].toNat = false) : false = Hst.labelB s.data.toList := by
  unfold Hst.labelB; rw [Oct.allB_miss _ s k h hc]; rfl

set_option maxHeartbeats 1000000 in
theorem isLabel_any (s : ByteArray) (w : World) (hs : s.size ≤ maxLen) : Calls Tryz.prog 127 #[.string s] w fun e w' => e = .returned (.bool (Hst.labelB s.data.toList)) ∧ w = w' := by
  unfold maxLen at hs
  go_enter Tryz.func127, Tryz.ntmps127
  go_wp2
  go_loop [7] (fun i => ∃ k : Nat, k ≤ s.size ∧ i = .int .i64 k ∧ Hid (Oct.allB Hst.labI (s.data.toList.take k) = true)) (fun i => s.size - (intOf i).toNat)
  case atStart => exact ⟨0, Nat.zero_le _, rfl, rfl⟩
  case round =>
    obtain ⟨k, hk, rfl, hin⟩ := hrel
    by_cases hlt : k < s.size
    · cases hl : Hst.labI s[k].toNat with
      | true =>
        rcases lab_yes hl with hd | ⟨hd, h1, h2⟩ | hc | hc
        · go_wp2_with (go_at_call 129; refine (isDigit_any _ _).mono ?_; rintro e w' ⟨rfl, rfl⟩)
          go_round
          case rel => exact ⟨k + 1, by omega, by go_num, Oct.allB_next _ s k hlt hin hl⟩
          case measure => simp [intOf]; omega
        · go_wp2_with (go_at_call 129; refine (isDigit_any _ _).mono ?_; rintro e w' ⟨rfl, rfl⟩)
          go_round
          case rel => exact ⟨k + 1, by omega, by go_num, Oct.allB_next _ s k hlt hin hl⟩
          case measure => simp [intOf]; omega
        all_goals
          have h97 : (s[k].toNat : Int) < 97 := by omega
          have hdg : Oct.digitI s[k].toNat = false := by rw [hc]; rfl
          first
            | have h45 : ((s[k].toNat : Int) != 45) = false := (by rw [hc]; rfl)
            | (have h45 : ((s[k].toNat : Int) != 45) = true := (by rw [hc]; rfl)
               have h95 : ((s[k].toNat : Int) != 95) = false := (by rw [hc]; rfl))
          clear hc
          go_wp2_with (go_at_call 129; refine (isDigit_any _ _).mono ?_; rintro e w' ⟨rfl, rfl⟩)
          go_round
          case rel => exact ⟨k + 1, by omega, by go_num, Oct.allB_next _ s k hlt hin hl⟩
          case measure => simp [intOf]; omega
      | false =>
        obtain ⟨hd, hr, h3, h4, h5, h6⟩ := lab_no hl
        rcases hr with hr | hr
        · go_wp2_with (go_at_call 129; refine (isDigit_any _ _).mono ?_; rintro e w' ⟨rfl, rfl⟩)
          go_ret
          exact ⟨Oct.ret_bool (label_miss s k hlt hl), rfl⟩
        · have hr2 : 97 ≤ (s[k].toNat : Int) := by omega
          go_wp2_with (go_at_call 129; refine (isDigit_any _ _).mono ?_; rintro e w' ⟨rfl, rfl⟩)
          go_ret
          exact ⟨Oct.ret_bool (label_miss s k hlt hl), rfl⟩
    · cases he : s.toList.isEmpty with
      | true =>
        have he' := empty_list he
        have HE := Lib.hid he
        clear he
        go_wp2
        go_ret
        exact ⟨Oct.ret_bool (label_nil s HE.out), rfl⟩
      | false =>
        have he' := empty_no he
        have HE := Lib.hid he
        clear he
        go_wp2
        go_ret
        exact ⟨Oct.ret_bool (label_end s k (by omega) hin HE.out), rfl⟩

/-- What stands behind the last byte 46 is the last part. -/
theorem last_from (s : ByteArray) (i : Nat) (hi : i < s.size) (hc : s[i] = 46) (hn : ∀ j, i < j → (h : j < s.size) → s[j] ≠ 46) : Hst.last s.data.toList = s.data.toList.drop (i + 1) := by
  have e := Oct.split_at s i hi
  rw [hc] at e
  unfold Hst.last Hst.parts
  have e2 : s.data.toList = s.data.toList.take i ++ [46] ++ s.data.toList.drop (i + 1) := by simpa using e
  have h1 : Oct.split (fun x => x == 46) (s.data.toList.drop (i + 1)) = [s.data.toList.drop (i + 1)] := by
    refine Hst.split_one _ _ ?_
    intro b hb
    obtain ⟨j, hj, rfl⟩ := List.mem_iff_getElem.1 hb
    have hj2 : i + 1 + j < s.size := by simp at hj; omega
    have := hn (i + 1 + j) (by omega) hj2
    rw [beq_eq_false_iff_ne]
    intro h
    apply this
    rw [List.getElem_drop] at h
    have h3 : (s.data.toList[i + 1 + j]'(by simpa using hj2)).toNat = 46 := by omega
    have h4 : s.data.toList[i + 1 + j]'(by simpa using hj2) = 46 := UInt8.toNat_inj.1 h3
    exact h4
  rw [e2, Oct.split_glue _ _ _ 46 rfl, ← e2, h1]
  simp
theorem last_whole (s : ByteArray) (hn : ∀ j, (h : j < s.size) → s[j] ≠ 46) : Hst.last s.data.toList = s.data.toList := by
  unfold Hst.last Hst.parts
  rw [Hst.split_one _ _ ?_]
  · rfl
  · intro b hb
    obtain ⟨j, hj, rfl⟩ := List.mem_iff_getElem.1 hb
    have hj2 : j < s.size := by simpa using hj
    have := hn j hj2
    rw [beq_eq_false_iff_ne]
    intro h
    apply this
    have h3 : (s.data.toList[j]).toNat = 46 := by omega
    exact UInt8.toNat_inj.1 h3
theorem last_idx (s : ByteArray) : ∃ k : Nat, k ≤ s.size ∧ Lib.lastIndexByte s 46 + 1 = k ∧ Hst.last s.data.toList = s.data.toList.drop k := by
  have conv : ∀ j (h : j < s.size), s.data[j]! = s[j] := fun j h => by
    have h' : j < s.data.size := h
    rw [getElem!_pos s.data j h']; rfl
  have toI : ∀ j (h : j < s.size), ((s.data[j]!).toNat : Int) = 46 ↔ s[j] = 46 := fun j h => by
    rw [conv j h]
    constructor
    · intro e
      have : s[j].toNat = 46 := by omega
      exact UInt8.toNat_inj.1 this
    · intro e; rw [e]; rfl
  rcases Lib.lastIndexByte_spec s 46 with ⟨h, hn⟩ | ⟨i, hi, h, hc, hn⟩
  · exact ⟨0, Nat.zero_le _, by rw [h]; rfl, by rw [last_whole s (fun j hj e => hn j hj ((toI j hj).2 e))]; rfl⟩
  · exact ⟨i + 1, by omega, by rw [h]; rfl, last_from s i hi ((toI i hi).1 hc) (fun j h1 h2 e => hn j h1 h2 ((toI j h2).2 e))⟩

theorem drop_extract (s : ByteArray) (k : Nat) : (s.extract k s.size).data.toList = s.data.toList.drop k := by
  simp only [ByteArray.data_extract, Array.toList_extract, List.extract_eq_take_drop]
  exact List.take_of_length_le (by simp)

theorem dig_miss {l : List UInt8} {t : ByteArray} (e : t.data.toList = l) (k : Nat) (h : k < t.size) (hc : Oct.digitI t[k].toNat = false) : false = Hst.digB l := by
  subst e; unfold Hst.digB; rw [Oct.allB_miss _ t k h hc]
theorem dig_end {l : List UInt8} {t : ByteArray} (e : t.data.toList = l) (k : Nat) (h : t.size ≤ k) (hi : Oct.allB Oct.digitI (t.data.toList.take k) = true) : true = Hst.digB l := by
  subst e; unfold Hst.digB; rw [Oct.take_all t k h] at hi; exact hi.symm

set_option maxHeartbeats 1000000 in
theorem endsInDigits_any (s : ByteArray) (w : World) (hs : s.size ≤ 1000) : Calls Tryz.prog 110 #[.string s] w fun e w' => e = .returned (.bool (Hst.digB (Hst.last s.data.toList))) ∧ w = w' := by
  obtain ⟨k0, hk0, hi, hl⟩ := last_idx s
  obtain ⟨t, ht⟩ : ∃ t, s.extract k0 s.size = t := ⟨_, rfl⟩
  have htl : t.data.toList = Hst.last s.data.toList := by rw [← ht, hl]; exact drop_extract s k0
  have hts : t.size ≤ 1000 := by rw [← ht]; simp; omega
  obtain ⟨x, hx⟩ : ∃ x, Lib.lastIndexByte s 46 = x := ⟨_, rfl⟩
  rw [hx] at hi
  obtain rfl : x = (k0 : Int) - 1 := by omega
  have HX := Lib.hid hx; have HT := Lib.hid ht; have HTL := Lib.hid htl
  clear hx hi hl ht htl
  go_enter Tryz.func110, Tryz.ntmps110
  go_wp2_with fail
  refine (Tryz.strings_LastIndexByte _ _ (by omega) _).mono ?_
  rintro e w' ⟨rfl, rfl⟩
  rw [HX.out]
  go_wp2_with fail
  have hsz : s.size - k0 = t.size := by rw [← HT.out]; simp
  rw [HT.out, hsz]
  clear hsz
  go_loop [12] (fun i => ∃ k : Nat, k ≤ t.size ∧ i = .int .i64 k ∧ Hid (Oct.allB Oct.digitI (t.data.toList.take k) = true)) (fun i => t.size - (intOf i).toNat)
  case atStart => exact ⟨0, Nat.zero_le _, rfl, rfl⟩
  case round =>
    obtain ⟨k, hk, rfl, hin⟩ := hrel
    by_cases hlt : k < t.size
    · cases hl : Oct.digitI t[k].toNat with
      | true =>
        go_wp2_with (go_at_call 129; refine (isDigit_any _ _).mono ?_; rintro e w' ⟨rfl, rfl⟩)
        go_round
        case rel => exact ⟨k + 1, by omega, by go_num, Oct.allB_next _ t k hlt hin hl⟩
        case measure => simp [intOf]; omega
      | false =>
        go_wp2_with (go_at_call 129; refine (isDigit_any _ _).mono ?_; rintro e w' ⟨rfl, rfl⟩)
        go_ret
        exact ⟨Oct.ret_bool (dig_miss HTL.out k hlt hl), rfl⟩
    · go_wp2
      go_ret
      exact ⟨Oct.ret_bool (dig_end HTL.out k (by omega) hin), rfl⟩

theorem label_len (s : ByteArray) (h : s.size < 1 ∨ 63 < s.size) : false = Hst.labelB s.data.toList := by
  unfold Hst.labelB
  rcases h with h | h
  · have : s.data.toList = [] := List.length_eq_zero_iff.1 (by have : s.data.toList.length = s.size := by simp
                                                               omega)
    rw [this]; simp
  · have : decide (s.data.toList.length ≤ 63) = false := by simp; omega
    rw [this]; simp
theorem label_fin (s : ByteArray) (k : Nat) (h : s.size ≤ k) (hi : Oct.allB Hst.labI (s.data.toList.take k) = true) (h0 : 1 ≤ s.size) (h1 : s.size ≤ 63) : true = Hst.labelB s.data.toList := by
  rw [Oct.take_all s k h] at hi
  unfold Hst.labelB
  rw [hi, show decide (s.data.toList.length ≤ 63) = true by simpa using h1]
  cases hl : s.data.toList with
  | nil => have : s.data.toList.length = s.size := by simp
           rw [hl] at this; simp at this; omega
  | cons a r => rfl
theorem lab_cases {c : Int} (h : Hst.labI c = true) : (97 ≤ c ∧ c ≤ 122) ∨ (48 ≤ c ∧ c ≤ 57 ∧ c < 97) ∨ (c < 97 ∧ c < 48 ∧ (c != 45) = false) ∨ (48 ≤ c ∧ 57 < c ∧ c < 97 ∧ (c != 45) = true ∧ (c != 95) = false) := by
  rcases lab_yes h with hd | ⟨hd, h1, h2⟩ | hc | hc
  · have := digit_bd _ hd; omega
  · exact .inl ⟨h1, h2⟩
  · subst hc; exact .inr (.inr (.inl (by decide)))
  · subst hc; exact .inr (.inr (.inr (by decide)))
theorem lab_bad {c : Int} (h : Hst.labI c = false) : ((c < 97 ∧ c < 48) ∨ (48 ≤ c ∧ 57 < c ∧ c < 97) ∨ (97 ≤ c ∧ 122 < c ∧ 48 ≤ c ∧ 57 < c)) ∧ (c != 45) = true ∧ (c != 95) = true := by
  obtain ⟨hd, hr, h3, h4, h5, h6⟩ := lab_no h
  refine ⟨?_, h5, h6⟩
  simp [Oct.digitI] at hd
  omega

end Go.Proofs.YtinjkpbpkedfnaaGreatDoor

/- The contract of host's labels: a function that is ranged over. -/





namespace Go.Proofs.YtinjkpbpkedfnaaGreatDoor
open Go.RowKit Go.Shelf
attribute [local go_sem] Oper.semAt_some

/-- A label, and that it is short. -/
abbrev Lab := { x : List UInt8 // x.length ≤ 253 }
def labV (x : Lab) : Array Value := #[.string ⟨x.1.toArray⟩]
/-- What a round that goes on keeps: whatever cell lies outside some blocks. -/
structure HoKept (S : Nat → Prop) (W W' : World) : Prop where
  size : W.heap.size ≤ W'.heap.size
  cell : ∀ (p : Addr) v, W.cell? p = some v → ¬ S p.block → W'.cell? p = some v
theorem HoKept.refl (S : Nat → Prop) (W : World) : HoKept S W W := ⟨Nat.le_refl _, fun _ _ h _ => h⟩
theorem HoKept.trans {S : Nat → Prop} {A B C : World} (h : HoKept S A B) (k : HoKept S B C) : HoKept S A C := ⟨Nat.le_trans h.size k.size, fun p v hp hs => k.cell p v (h.cell p v hp hs) hs⟩
theorem HoKept.of_below {S : Nat → Prop} {A B : World} (h : Below A.heap.size A B) : HoKept S A B := ⟨h.size, fun p v hp _ => by rw [h.cell (World.block_lt_of_cell? _ _ hp)]; exact hp⟩
theorem HoKept.setCell {S : Nat → Prop} (A : World) (q : Addr) (u : Value) (hq : S q.block) : HoKept S A (A.setCell q u) :=
  ⟨by simp [World.setCell], fun p v hp hs => by rw [World.cell?_setCell_other A q p u (fun e => hs (by subst e; exact hq))]; exact hp⟩
theorem HoKept.putObj {S : Nat → Prop} (W : World) (l : Nat) (o o' : Obj) (hl : W.heap[l]? = some o) (ho : o.isCells = false) : HoKept S W (W.putObj l o') :=
  ⟨(grownBy_putObj' W l o').size, fun p v hp _ => cell_kept hp (grownBy_putObj' W l o') (fun r e => by cases e; exact ⟨o, hl, ho⟩)⟩

theorem labels_any (s : ByteArray) (w : World) : Calls Tryz.prog 126 #[.string s] w fun e w' => e = .returned (.func (.func 141) #[] #[.pointer (some ⟨w.heap.size, 0, none⟩)]) ∧ w' = w.alloc (.cells #[.string s] 9) := by
  go_enter Tryz.func126, Tryz.ntmps126
  go_wp2
  go_ret
  exact ⟨rfl, rfl⟩

theorem hparts_short (l : List UInt8) (hl : l.length ≤ 253) : ∀ q ∈ Hst.parts l, q.length ≤ 253 := by
  intro q hq
  obtain ⟨k, hk, rfl⟩ := List.mem_iff_getElem.1 hq
  have := Oct.join_len 46 (Hst.parts l) k hk
  rw [Hst.join_parts] at this
  omega
/-- The labels, each with its length's bound. -/
def labs (l : List UInt8) (hl : l.length ≤ 253) : List Lab := (Hst.parts l).pmap Subtype.mk (hparts_short l hl)
theorem labs_map (l : List UInt8) (hl : l.length ≤ 253) : (labs l hl).map (·.1) = Hst.parts l := by
  unfold labs; rw [List.map_pmap]; simp
theorem labs_len (l : List UInt8) (hl : l.length ≤ 253) : (labs l hl).length = (Hst.parts l).length := by simp [labs]

set_option maxRecDepth 100000 in
set_option maxHeartbeats 2000000 in
theorem labels1_stops (n : Nat) (hn : 1 ≤ n) (Bn : Nat) (s : ByteArray) (hs : s.data.toList.length ≤ 253) (S : Nat → Prop) (w : World) (hBn : w.cell? ⟨Bn, 0, none⟩ = some (.string s)) (hS : ∀ b, S b → b < w.heap.size) :
    SeqStopsK Fence.wide n Tryz.prog 141 #[.pointer (some ⟨Bn, 0, none⟩)] labV (HoKept S) (fun xs => xs = labs s.data.toList hs) (fun pre => pre <+: labs s.data.toList hs) (labs s.data.toList hs).length w := fun l J Jx W hW hJ hJx hY h0 => by
  have hlt := World.block_lt_of_cell? _ _ hBn
  have hBn' : W.cell? ⟨Bn, 0, none⟩ = some (.string s) := by rw [hW.cell hlt]; exact hBn
  refine callsIn_of_wp Tryz.func141 rfl trivial ?_ rfl
  simp only [Tryz.ntmps141, List.size_toArray, List.length_cons, List.length_nil, Nat.reduceAdd, Nat.reduceSub, Array.replicate_succ, Array.replicate_zero, List.push_toArray, List.append_toArray, List.nil_append, List.cons_append]
  have hsz2 : s.size ≤ 253 := by have : s.data.toList.length = s.size := by simp
                                 omega
  obtain ⟨ps, hps⟩ : ∃ ps, Hst.parts s.data.toList = ps := ⟨_, rfl⟩
  have hpos := Hst.parts_pos s.data.toList
  have hple := Hst.parts_len s.data.toList
  have hLm := labs_map s.data.toList hs
  obtain ⟨ls, hls⟩ : ∃ ls, labs s.data.toList hs = ls := ⟨_, rfl⟩
  have hll := labs_len s.data.toList hs
  rw [hps] at hpos hple hLm hll
  rw [hls] at hLm hll
  rw [hls] at hY
  have HLS := Lib.hid hls; have HPS := Lib.hid hps; have HLM := Lib.hid hLm; have HLL := Lib.hid hll; have HY := Lib.hid hY
  clear hls hps hLm hll hY
  gi_wp2_with fail
  refine ⟨trivial, ?_⟩
  refine (callsIn_wide.2 (split_any s 46 W (by omega))).mono ?_
  rintro e W1 ⟨v, rfl, hb, ho⟩
  replace ho : W1.ownsRow W.heap.size 9 1 v ps.length (ps.map Oct.strV) := by rw [← HPS.out]; exact ho
  rcases owns_view ho with ⟨rfl, h0'⟩ | ⟨g, cap, rfl, hm, hg, hgb, hcells⟩
  · exfalso; subst h0'; simp at hpos
  have HC := Lib.hid hcells
  have hJ1 : J [] W1 := hJ [] W W1 none h0 ⟨hb.os, hb.tape, hb.output, hb.size, fun i hi _ => hb.block i hi⟩ (fun r e => by cases e)
  clear ho hcells h0 hm
  gi_wp2_with fail
  gi_loopw [8] (fun i wr => ∃ k : Nat, k ≤ ps.length ∧ i = .int .i64 k ∧ J (ls.take k) wr ∧ HoKept S W1 wr) (fun i _ => ps.length - (intOf i).toNat)
  case atStart => exact ⟨0, Nat.zero_le _, rfl, hJ1, HoKept.refl _ _⟩
  case round =>
    obtain ⟨k, hk, rfl, hJs, hkp⟩ := hrel
    by_cases hlt2 : k < ps.length
    · have hkl : k < ls.length := by rw [HLL.out]; exact hlt2
      have hce := HC.out k hlt2
      have hnS : ¬ S g := fun h => by have := hS g h; have := hW.size; omega
      replace hce := hkp.cell _ _ hce hnS
      obtain ⟨x, hx⟩ : ∃ x, ls[k] = x := ⟨_, rfl⟩
      have hxp : ps[k] = x.1 := by
        have h := HLM.out
        subst h
        rw [← hx]; simp
      have hsn : ls.take (k + 1) = ls.take k ++ [x] := by rw [List.take_succ_eq_append_getElem hkl, hx]
      rw [hxp] at hce
      unfold Oct.strV at hce
      obtain ⟨fn, tmps, assign, body, hy, hR⟩ := HY.out (ls.take k) x wr hJs (by rw [List.length_take]; omega)
      unfold labV at hy
      have HSN := Lib.hid hsn
      clear hsn hxp hx hnS
      gi_wp2_with fail
      refine hR.mono ?_
      rintro e W3 (⟨rfl, hJ3, hk3⟩ | ⟨rfl, hJx3⟩)
      · gi_wp2_with fail
        go_roundw
        case rel => exact ⟨k + 1, by omega, by go_num, by rw [HSN.out]; exact hJ3, hkp.trans hk3⟩
        case measure => simp [intOf]; omega
      · gi_wp2_with fail
        refine bodyPost_ret (results_none rfl _ _ _) rfl ?_
        exact ⟨⟨_, rfl⟩, .inr ⟨_, by rw [HLS.out, ← HSN.out]; exact List.take_prefix _ _, hJx3⟩⟩
    · gi_wp2_with fail
      go_end0
      exact ⟨⟨_, rfl⟩, .inl ⟨_, by rw [HLS.out]; exact List.take_of_length_le (by rw [HLL.out]; omega), hJs⟩⟩
end Go.Proofs.YtinjkpbpkedfnaaGreatDoor

/- The contract of host.isDomain: it ranges over labels. -/

namespace Go.Proofs.YtinjkpbpkedfnaaGreatDoor
open Go.RowKit Go.Shelf
attribute [local go_sem] Oper.semAt_some

def Lab.ok (x : Lab) : Prop := Hst.labelB x.1 = true
theorem dom_long (s : ByteArray) (h : 253 < s.size) : false = Hst.domB s.data.toList := by
  unfold Hst.domB
  rw [show decide (s.data.toList.length ≤ 253) = false by simp; omega]
  rfl
theorem dom_all (l : List UInt8) (hl : l.length ≤ 253) (h : ∀ x ∈ labs l hl, Lab.ok x) : Hst.domB l = true := by
  unfold Hst.domB
  rw [show decide (l.length ≤ 253) = true by simpa using hl, Bool.true_and, List.all_eq_true, ← labs_map l hl]
  intro q hq
  obtain ⟨x, hx, rfl⟩ := List.mem_map.1 hq
  exact h x hx
theorem dom_not (l : List UInt8) (hl : l.length ≤ 253) {pre : List Lab} (hp : pre <+: labs l hl) (h : ∃ x ∈ pre, ¬ Lab.ok x) : Hst.domB l = false := by
  obtain ⟨x, hx, hn⟩ := h
  unfold Hst.domB
  rw [Bool.and_eq_false_iff]; right
  rw [List.all_eq_false, ← labs_map l hl]
  exact ⟨x.1, List.mem_map.2 ⟨x, hp.subset hx, rfl⟩, hn⟩

set_option maxRecDepth 100000 in
set_option maxHeartbeats 2000000 in
theorem isDomain_in (s : ByteArray) (w : World) (hs0 : s.size ≤ maxLen) :
    CallsIn Fence.wide 6 Tryz.prog 109 #[.string s] w fun e W' => e = .returned (.bool (Hst.domB s.data.toList)) ∧ Below w.heap.size w W' := by
  unfold maxLen at hs0
  by_cases hbig : 253 < s.size
  · have hbig' : (253 : Int) < (s.size : Int) := by omega
    have HD := Lib.hid (dom_long s hbig)
    clear hbig
    refine callsIn_of_wp_marks Tryz.func109 rfl trivial ?_ rfl
    simp only [Tryz.ntmps109, List.size_toArray, List.length_cons, List.length_nil, Nat.reduceAdd, Nat.reduceSub, Array.replicate_succ, Array.replicate_zero, List.push_toArray, List.append_toArray, List.nil_append, List.cons_append]
    gi_wp2_with fail
    refine ⟨.bool false, ?_, Oct.ret_bool HD.out, (Below.refl _ _).alloc (Nat.le_refl _) _⟩
    simp [results, Tryz.results109, go_sem]
  · have hsm : s.size ≤ 253 := by omega
    have hs : s.data.toList.length ≤ 253 := by simpa using hsm
    clear hbig hs0
    refine callsIn_of_wp_marks Tryz.func109 rfl trivial ?_ rfl
    simp only [Tryz.ntmps109, List.size_toArray, List.length_cons, List.length_nil, Nat.reduceAdd, Nat.reduceSub, Array.replicate_succ, Array.replicate_zero, List.push_toArray, List.append_toArray, List.nil_append, List.cons_append]
    gi_wp2_with fail
    refine ⟨trivial, ?_⟩
    refine (callsIn_wide.2 (labels_any s _)).mono ?_
    rintro e w' ⟨rfl, rfl⟩
    have c0 := (Boxed.new w 4 (.bool false)).alloc (.cells #[.string s] 9)
    have c1 := Boxed.new (w.alloc (.cells #[.bool false] 4)) 9 (.string s)
    simp only [World.size_alloc] at c1
    have hB0 : Below w.heap.size w ((w.alloc (.cells #[.bool false] 4)).alloc (.cells #[.string s] 9)) := ((Below.refl _ w).alloc (Nat.le_refl _) _).alloc (by simp) _
    gi_wp2_with fail
    refine wpIn_rangeFunc_ownF rfl (by decide) (gf := 141) (lb := #[.pointer (some ⟨w.heap.size + 1, 0, none⟩)]) rfl trivial (enters_of Tryz.func141 (by kernel_rfl) rfl)
      (labels1_stops _ (by decide) (w.heap.size + 1) s hs (fun _ => False) _ c1.cell (fun _ h => h.elim)) HoKept.trans (fun W l o o' _ hl ho _ => HoKept.putObj W l o o' hl ho) (Below.refl _ _) (fun _ => rfl)
      (fun pre W => (∀ x ∈ pre, Lab.ok x) ∧ Boxed W w.heap.size 4 (.bool false) ∧ Below w.heap.size w W)
      (fun c pre W => (c = .ret ∧ ∃ x ∈ pre, ¬ Lab.ok x) ∧ Boxed W w.heap.size 4 (.bool false) ∧ Below w.heap.size w W)
      (OwnFrom.and (ownFrom_pure _ _) (OwnFrom.and (Own.from (boxed_own _ _ _) _) (ownFrom_below (Nat.le_refl _) (by simp; omega))))
      (fun c => OwnFrom.and (ownFrom_pure _ _) (OwnFrom.and (Own.from (boxed_own _ _ _) _) (ownFrom_below (Nat.le_refl _) (by simp; omega))))
      ⟨by simp, c0, hB0⟩
      (fun x => { tmps := #[.string s, undef, .pointer (some ⟨w.heap.size, 0, none⟩), .string ⟨x.1.toArray⟩, .string s, .int .i64 s.size, .bool (decide ((253 : Int) < (s.size : Int))), .string s, .func (.func 141) #[] #[.pointer (some ⟨w.heap.size + 1, 0, none⟩)], .string ⟨x.1.toArray⟩, undef, undef, undef], defers := [] }) ?assign ?body ?done ?stop
    case assign =>
      intro l x W K hK
      unfold labV
      gi_wp2
      exact hK
    case body =>
      rintro l pre x W ⟨hp, hbx, hB⟩ _
      have hcr := hbx.cell; have hfr := hbx.frozen
      have hxs : (⟨x.1.toArray⟩ : ByteArray).size ≤ maxLen := by have := x.2; unfold maxLen; simp [ByteArray.size]; omega
      cases hl : Hst.labelB x.1 with
      | true =>
        have hcall : Calls Tryz.prog 127 #[.string ⟨x.1.toArray⟩] W fun e w' => e = .returned (.bool true) ∧ W = w' := (isLabel_any _ W hxs).mono (by rintro e w' ⟨rfl, h⟩; exact ⟨Oct.ret_bool hl, h⟩)
        have HL := Lib.hid hl
        clear hl
        gi_wp2_with fail
        refine ⟨trivial, (CallsIn.inRound l (callsIn_wide.2 hcall)).mono ?_⟩
        rintro e w' ⟨rfl, rfl⟩
        clear hcall
        gi_wp2_with fail
        exact ⟨KeepsOthers.refl _, HoKept.refl _ _, fun y hy => (List.mem_append.1 hy).elim (hp y) (fun e => by
          obtain rfl : y = x := by simpa using e
          exact HL.out), hbx, hB⟩
      | false =>
        have hcall : Calls Tryz.prog 127 #[.string ⟨x.1.toArray⟩] W fun e w' => e = .returned (.bool false) ∧ W = w' := (isLabel_any _ W hxs).mono (by rintro e w' ⟨rfl, h⟩; exact ⟨Oct.ret_bool hl, h⟩)
        have HL := Lib.hid hl
        clear hl
        gi_wp2_with fail
        refine ⟨trivial, (CallsIn.inRound l (callsIn_wide.2 hcall)).mono ?_⟩
        rintro e w' ⟨rfl, rfl⟩
        clear hcall
        gi_wp2_with fail
        exact ⟨KeepsOthers.setCell _ _ _, ⟨rfl, x, by simp, fun h => by unfold Lab.ok at h; rw [HL.out] at h; cases h⟩, hbx.set _, hB.setCell (p := ⟨w.heap.size, 0, none⟩) (Nat.le_refl _) _⟩
    case done =>
      rintro D ys W hD rfl ⟨hp, hbx, hB⟩ hK
      have hcr := hbx.cell; have hfr := hbx.frozen
      gi_wp2_with fail
      have hK' := (KeepsOthers.setCell W ⟨w.heap.size, 0, none⟩ (.bool true)).same D _ hK rfl
      refine ⟨by simp, .inl ⟨_, _, rfl, run_takeDeferred hK', ?_⟩⟩
      have hc5 := cell_kept (hbx.set (.bool true)).cell (grownBy_putObj' _ D (.deferred none)) (fun r e => by cases e; exact ⟨_, hK', rfl⟩)
      refine ⟨.bool true, ?_, Oct.ret_bool (dom_all _ hs hp).symm, (hB.setCell (p := ⟨w.heap.size, 0, none⟩) (Nat.le_refl _) _).trans (belowK_b (w := w) (Nat.le_refl _) _ D _ _ (by simp at hD; omega) hK' rfl rfl)⟩
      simp [results, Tryz.results109, go_sem, hc5]
    case stop =>
      rintro D c pre W hD hpre ⟨⟨rfl, hin⟩, hbx, hB⟩ hK
      gi_wp2_with fail
      refine ⟨by simp, .inl ⟨_, _, rfl, run_takeDeferred hK, ?_⟩⟩
      have hc5 := cell_kept hbx.cell (grownBy_putObj' _ D (.deferred none)) (fun r e => by cases e; exact ⟨_, hK, rfl⟩)
      refine ⟨.bool false, ?_, Oct.ret_bool (dom_not _ hs hpre hin).symm, hB.trans (belowK_b (w := w) (Nat.le_refl _) W D _ _ (by simp at hD; omega) hK rfl rfl)⟩
      simp [results, Tryz.results109, go_sem, hc5]
theorem isDomain_any (s : ByteArray) (w : World) (hs0 : s.size ≤ maxLen) : Calls Tryz.prog 109 #[.string s] w fun e W' => e = .returned (.bool (Hst.domB s.data.toList)) ∧ Below w.heap.size w W' := callsIn_wide.1 (isDomain_in s w hs0)
end Go.Proofs.YtinjkpbpkedfnaaGreatDoor

/- The contract of host.address: it ranges over labels, and keeps their numbers in an array. -/


namespace Go.Proofs.YtinjkpbpkedfnaaGreatDoor
open Go.RowKit Go.Shelf
attribute [local go_sem] Oper.semAt_some

def Lab.num (x : Lab) : Prop := Oct.numOk x.1 255 = true
/-- The array's cells when some numbers have come. -/
def nth (pre : List Lab) (i : Nat) : Int := (pre.map fun x => Oct.val x.1).getD i 0
def Arr (W : World) (B : Nat) (pre : List Lab) : Prop := W.heap[B]? = some (.cells #[.int .u32 (nth pre 0), .int .u32 (nth pre 1), .int .u32 (nth pre 2), .int .u32 (nth pre 3)] 85 (0, 0))
theorem arr_own (B : Nat) : Own (fun pre W => Arr W B pre) := fun s X Y row hs hg hrow => by
  refine (hg.block B (Array.getElem?_eq_some_iff.1 hs).1 (fun e => ?_)).trans hs
  obtain ⟨o, ho, hc⟩ := hrow B e.symm
  rw [show X.heap[B]? = _ from hs] at ho; cases ho; cases hc
theorem Arr.cell {W : World} {B : Nat} {pre : List Lab} (h : Arr W B pre) (i : Nat) (hi : i < 4) : W.cell? ⟨B, i, none⟩ = some (.int .u32 (nth pre i)) := by
  have h' : W.heap[B]? = _ := h
  match i, hi with
  | 0, _ => simp [World.cell?, h']
  | 1, _ => simp [World.cell?, h']
  | 2, _ => simp [World.cell?, h']
  | 3, _ => simp [World.cell?, h']
theorem Arr.frozen {W : World} {B : Nat} {pre : List Lab} (h : Arr W B pre) (i : Nat) : W.frozen? ⟨B, i, none⟩ = false := by
  have h' : W.heap[B]? = _ := h
  simp [World.frozen?, h']
theorem nth_snoc_lt (pre : List Lab) (x : Lab) (i : Nat) (h : i < pre.length) : nth (pre ++ [x]) i = nth pre i := by
  unfold nth
  simp [List.getD_eq_getElem?_getD, List.getElem?_append_left, h]
theorem nth_snoc_eq (pre : List Lab) (x : Lab) : nth (pre ++ [x]) pre.length = Oct.val x.1 := by
  unfold nth
  simp [List.getD_eq_getElem?_getD]
theorem nth_snoc_gt (pre : List Lab) (x : Lab) (i : Nat) (h : pre.length < i) : nth (pre ++ [x]) i = nth pre i := by
  unfold nth
  rw [List.getD_eq_getElem?_getD, List.getD_eq_getElem?_getD, List.getElem?_eq_none (by simp; omega), List.getElem?_eq_none (by simp; omega)]
theorem Arr.store {W : World} {B : Nat} {pre : List Lab} (h : Arr W B pre) (x : Lab) (hl : pre.length < 4) : Arr (W.setCell ⟨B, pre.length, none⟩ (.int .u32 (Oct.val x.1))) B (pre ++ [x]) := by
  have h' : W.heap[B]? = _ := h
  have e : (W.setCell ⟨B, pre.length, none⟩ (.int .u32 (Oct.val x.1))).heap[B]? = some (.cells ((#[.int .u32 (nth pre 0), .int .u32 (nth pre 1), .int .u32 (nth pre 2), .int .u32 (nth pre 3)] : Array Value).setIfInBounds pre.length (.int .u32 (Oct.val x.1))) 85 (0, 0)) := by
    simp [World.setCell, Array.getElem?_modify, h']
  unfold Arr
  rw [e]
  have e1 := nth_snoc_eq pre x
  have e2 := nth_snoc_lt pre x
  have e3 := nth_snoc_gt pre x
  generalize pre.length = m at *
  match m, hl with
  | 0, _ => rw [e1, e3 1 (by omega), e3 2 (by omega), e3 3 (by omega)]; rfl
  | 1, _ => rw [e1, e2 0 (by omega), e3 2 (by omega), e3 3 (by omega)]; rfl
  | 2, _ => rw [e1, e2 0 (by omega), e2 1 (by omega), e3 3 (by omega)]; rfl
  | 3, _ => rw [e1, e2 0 (by omega), e2 1 (by omega), e2 2 (by omega)]; rfl
theorem Arr.far {W : World} {B : Nat} {pre : List Lab} (h : Arr W B pre) {p : Addr} (hp : B ≠ p.block) (u : Value) : Arr (W.setCell p u) B pre := (Below.heap_setCell W p u B hp).trans h
theorem Boxed.far {W : World} {B : Nat} {t : TypeId} {v : Value} (h : Boxed W B t v) {p : Addr} (hp : B ≠ p.block) (u : Value) : Boxed (W.setCell p u) B t v := (Below.heap_setCell W p u B hp).trans h

/-- What is answered: the address and that it is one; or 0 and that it is none. -/
def addrV (ps : List (List UInt8)) : Value := .tuple #[.int .u32 (if Hst.numsB ps then Hst.addrOf ps else 0), .bool (Hst.numsB ps)]

theorem num_bd {l : List UInt8} (h : Oct.numOk l 255 = true) : 0 ≤ Oct.val l ∧ Oct.val l ≤ 255 := by
  obtain ⟨_, _, h3, h4⟩ := Oct.numOk_parts _ _ h
  exact ⟨Oct.val_nonneg _ h3, h4⟩
theorem number_no (s : ByteArray) (w : World) (hs : s.size ≤ maxLen) (hok : Oct.numOk s.data.toList 255 = false) :
    Calls Tryz.prog 96 #[.string s, .int .i64 255] w fun e w' => e = .returned (.tuple #[.int .i64 0, .bool false]) ∧ w = w' :=
  (number_any s 255 w hs (by decide) (by decide)).mono (by rintro e w' ⟨rfl, h⟩; exact ⟨(num_no hok).symm, h⟩)
theorem number_ok (s : ByteArray) (w : World) (hs : s.size ≤ maxLen) (hok : Oct.numOk s.data.toList 255 = true) :
    Calls Tryz.prog 96 #[.string s, .int .i64 255] w fun e w' => e = .returned (.tuple #[.int .i64 (Oct.val s.data.toList), .bool true]) ∧ w = w' :=
  (number_any s 255 w hs (by decide) (by decide)).mono (by rintro e w' ⟨rfl, h⟩; exact ⟨(num_yes hok rfl).symm, h⟩)

theorem addr_not (l : List UInt8) (hl : l.length ≤ 253) {pre : List Lab} (hp : pre <+: labs l hl) (h : 5 ≤ pre.length ∨ ∃ x ∈ pre, ¬ Lab.num x) : Ending.returned (.tuple #[.int .u32 0, .bool false]) = .returned (addrV (Hst.parts l)) := by
  have e : Hst.numsB (Hst.parts l) = false := by
    unfold Hst.numsB
    rw [Bool.and_eq_false_iff]
    rcases h with h | ⟨x, hx, hn⟩
    · left
      have := hp.length_le
      rw [labs_len] at this
      simp; omega
    · right
      rw [List.all_eq_false, ← labs_map l hl]
      exact ⟨x.1, List.mem_map.2 ⟨x, hp.subset hx, rfl⟩, hn⟩
  unfold addrV
  rw [e]; rfl

theorem addr_few (l : List UInt8) (hl : l.length ≤ 253) (h : (labs l hl).length < 4) : Ending.returned (.tuple #[.int .u32 0, .bool false]) = .returned (addrV (Hst.parts l)) := by
  have e : Hst.numsB (Hst.parts l) = false := by
    unfold Hst.numsB
    rw [labs_len] at h
    rw [Bool.and_eq_false_iff]
    left
    simp; omega
  unfold addrV
  rw [e]; rfl
theorem nth_bd1 (ys : List Lab) (hp : ∀ x ∈ ys, Lab.num x) (i : Nat) : 0 ≤ nth ys i ∧ nth ys i ≤ 255 := by
  unfold nth
  rw [List.getD_eq_getElem?_getD]
  by_cases h : i < ys.length
  · rw [List.getElem?_eq_getElem (by simpa using h)]
    simp only [List.getElem_map, Option.getD_some]
    exact num_bd (hp _ (List.getElem_mem h))
  · rw [List.getElem?_eq_none (by simpa using h)]
    simp
theorem nth_bd (ys : List Lab) (hp : ∀ x ∈ ys, Lab.num x) : (0 ≤ nth ys 0 ∧ nth ys 0 ≤ 255) ∧ (0 ≤ nth ys 1 ∧ nth ys 1 ≤ 255) ∧ (0 ≤ nth ys 2 ∧ nth ys 2 ≤ 255) ∧ (0 ≤ nth ys 3 ∧ nth ys 3 ≤ 255) :=
  ⟨nth_bd1 ys hp 0, nth_bd1 ys hp 1, nth_bd1 ys hp 2, nth_bd1 ys hp 3⟩

theorem or_shift (x y k : Nat) (h : y < 2 ^ k) : x * 2 ^ k ||| y = x * 2 ^ k + y := by
  have := Nat.shiftLeft_add_eq_or_of_lt h x
  rw [Nat.shiftLeft_eq] at this
  exact this.symm
theorem or_four_nat (a b c d : Nat) (ha : a ≤ 255) (hb : b ≤ 255) (hc : c ≤ 255) (hd : d ≤ 255) : bits .or .u32 (bits .or .u32 (bits .or .u32 ((a * 16777216 : Nat) : Int) ((b * 65536 : Nat) : Int)) ((c * 256 : Nat) : Int)) (d : Int) = ((256 * (256 * (256 * a + b) + c) + d : Nat) : Int) := by
  have e1 : a * 16777216 ||| b * 65536 = (256 * a + b) * 65536 := by
    have := or_shift a (b * 65536) 24 (by omega)
    rw [show (2 : Nat) ^ 24 = 16777216 by decide] at this
    rw [this]; omega
  have e2 : (256 * a + b) * 65536 ||| c * 256 = (256 * (256 * a + b) + c) * 256 := by
    have := or_shift (256 * a + b) (c * 256) 16 (by omega)
    rw [show (2 : Nat) ^ 16 = 65536 by decide] at this
    rw [this]; omega
  have e3 : (256 * (256 * a + b) + c) * 256 ||| d = 256 * (256 * (256 * a + b) + c) + d := by
    have := or_shift (256 * (256 * a + b) + c) d 8 (by omega)
    rw [show (2 : Nat) ^ 8 = 256 by decide] at this
    rw [this]; omega
  rw [u32_or_nat _ _ (by omega) (by omega), e1, u32_or_nat _ _ (by omega) (by omega), e2, u32_or_nat _ _ (by omega) (by omega), e3]
theorem or_four (a b c d : Int) (a0 : 0 ≤ a) (a1 : a ≤ 255) (b0 : 0 ≤ b) (b1 : b ≤ 255) (c0 : 0 ≤ c) (c1 : c ≤ 255) (d0 : 0 ≤ d) (d1 : d ≤ 255) :
    bits .or .u32 (bits .or .u32 (bits .or .u32 (a * 16777216) (b * 65536)) (c * 256)) d = 256 * (256 * (256 * a + b) + c) + d := by
  obtain ⟨A, rfl⟩ := Int.eq_ofNat_of_zero_le a0
  obtain ⟨B, rfl⟩ := Int.eq_ofNat_of_zero_le b0
  obtain ⟨C, rfl⟩ := Int.eq_ofNat_of_zero_le c0
  obtain ⟨E, rfl⟩ := Int.eq_ofNat_of_zero_le d0
  have h := or_four_nat A B C E (by omega) (by omega) (by omega) (by omega)
  simp only [Int.natCast_mul, Int.natCast_add] at h
  exact h
theorem addr_yes (l : List UInt8) (hl : l.length ≤ 253) (ys : List Lab) (hys : ys = labs l hl) (hp : ∀ x ∈ ys, Lab.num x) (h4 : ys.length = 4) {X : Int} (hX : 256 * (256 * (256 * nth ys 0 + nth ys 1) + nth ys 2) + nth ys 3 = X) :
    Ending.returned (.tuple #[.int .u32 X, .bool true]) = .returned (addrV (Hst.parts l)) := by
  have hm := labs_map l hl
  rw [← hys] at hm
  have e : Hst.numsB (Hst.parts l) = true := by
    unfold Hst.numsB
    rw [← hm, Bool.and_eq_true]
    refine ⟨by simpa using h4, ?_⟩
    rw [List.all_eq_true]
    intro q hq
    obtain ⟨x, hx, rfl⟩ := List.mem_map.1 hq
    exact hp x hx
  unfold addrV
  rw [e, ← hm, ← hX]
  match ys, h4 with
  | [x0, x1, x2, x3], _ => simp [nth, Hst.addrOf]

set_option maxRecDepth 100000 in
set_option maxHeartbeats 2000000 in
theorem address_in (s : ByteArray) (w : World) (hsm : s.size ≤ 253) :
    CallsIn Fence.wide 6 Tryz.prog 111 #[.string s] w fun e W' => e = .returned (addrV (Hst.parts s.data.toList)) ∧ Below w.heap.size w W' := by
  have hs : s.data.toList.length ≤ 253 := by simpa using hsm
  refine callsIn_of_wp_marks Tryz.func111 rfl trivial ?_ rfl
  simp only [Tryz.ntmps111, List.size_toArray, List.length_cons, List.length_nil, Nat.reduceAdd, Nat.reduceSub, Array.replicate_succ, Array.replicate_zero, List.push_toArray, List.append_toArray, List.nil_append, List.cons_append]
  gi_wp2_with fail
  refine ⟨trivial, ?_⟩
  refine (callsIn_wide.2 (labels_any s _)).mono ?_
  rintro e w' ⟨rfl, rfl⟩
  gi_wp2_with fail
  have b0 := ((((Boxed.new w 27 (.int .u32 0)).alloc (.cells #[.bool false] 4)).alloc (.cells #[.int .u32 0, .int .u32 0, .int .u32 0, .int .u32 0] 85)).alloc (.cells #[.int .i64 0] 3)).alloc (.cells #[.string s] 9)
  have b1 := (((Boxed.new (w.alloc (.cells #[.int .u32 0] 27)) 4 (.bool false)).alloc (.cells #[.int .u32 0, .int .u32 0, .int .u32 0, .int .u32 0] 85)).alloc (.cells #[.int .i64 0] 3)).alloc (.cells #[.string s] 9)
  have b3 := (Boxed.new (((w.alloc (.cells #[.int .u32 0] 27)).alloc (.cells #[.bool false] 4)).alloc (.cells #[.int .u32 0, .int .u32 0, .int .u32 0, .int .u32 0] 85)) 3 (.int .i64 0)).alloc (.cells #[.string s] 9)
  have b4 := Boxed.new ((((w.alloc (.cells #[.int .u32 0] 27)).alloc (.cells #[.bool false] 4)).alloc (.cells #[.int .u32 0, .int .u32 0, .int .u32 0, .int .u32 0] 85)).alloc (.cells #[.int .i64 0] 3)) 9 (.string s)
  have b2 : Arr (((((w.alloc (.cells #[.int .u32 0] 27)).alloc (.cells #[.bool false] 4)).alloc (.cells #[.int .u32 0, .int .u32 0, .int .u32 0, .int .u32 0] 85)).alloc (.cells #[.int .i64 0] 3)).alloc (.cells #[.string s] 9)) (w.heap.size + 1 + 1) [] := by
    have h := World.alloc_heap_new ((w.alloc (.cells #[.int .u32 0] 27)).alloc (.cells #[.bool false] 4)) (.cells #[.int .u32 0, .int .u32 0, .int .u32 0, .int .u32 0] 85)
    rw [World.size_alloc, World.size_alloc] at h
    exact (Below.heap_alloc _ _ _ (by simp)).trans ((Below.heap_alloc _ _ _ (by simp)).trans h)
  simp only [World.size_alloc] at b1 b3 b4
  have hB0 : Below w.heap.size w (((((w.alloc (.cells #[.int .u32 0] 27)).alloc (.cells #[.bool false] 4)).alloc (.cells #[.int .u32 0, .int .u32 0, .int .u32 0, .int .u32 0] 85)).alloc (.cells #[.int .i64 0] 3)).alloc (.cells #[.string s] 9)) :=
    (((((Below.refl _ w).alloc (Nat.le_refl _) _).alloc (by simp) _).alloc (by simp; omega) _).alloc (by simp; omega) _).alloc (by simp; omega) _
  obtain ⟨W0, hW0⟩ : ∃ W0, (((((w.alloc (.cells #[.int .u32 0] 27)).alloc (.cells #[.bool false] 4)).alloc (.cells #[.int .u32 0, .int .u32 0, .int .u32 0, .int .u32 0] 85)).alloc (.cells #[.int .i64 0] 3)).alloc (.cells #[.string s] 9)) = W0 := ⟨_, rfl⟩
  have hsz : W0.heap.size = w.heap.size + 5 := by rw [← hW0]; simp
  rw [hW0] at b0 b1 b2 b3 b4 hB0 ⊢
  clear hW0
  refine wpIn_rangeFunc_ownF rfl (by decide) (gf := 141) (lb := #[.pointer (some ⟨w.heap.size + 1 + 1 + 1 + 1, 0, none⟩)]) rfl trivial (enters_of Tryz.func141 (by kernel_rfl) rfl)
    (labels1_stops _ (by decide) (w.heap.size + 1 + 1 + 1 + 1) s hs (fun b => b = w.heap.size + 1 + 1 ∨ b = w.heap.size + 1 + 1 + 1) W0 b4.cell (fun b h => by rw [hsz]; omega)) HoKept.trans (fun W l o o' _ hl ho _ => HoKept.putObj W l o o' hl ho) (Below.refl _ _) (fun _ => rfl)
    (fun pre W => ((∀ x ∈ pre, Lab.num x) ∧ pre.length ≤ 4) ∧ Boxed W w.heap.size 27 (.int .u32 0) ∧ Boxed W (w.heap.size + 1) 4 (.bool false) ∧ Arr W (w.heap.size + 1 + 1) pre ∧ Boxed W (w.heap.size + 1 + 1 + 1) 3 (.int .i64 pre.length) ∧ Below w.heap.size w W)
    (fun c pre W => (c = .ret ∧ (5 ≤ pre.length ∨ ∃ x ∈ pre, ¬ Lab.num x)) ∧ Boxed W w.heap.size 27 (.int .u32 0) ∧ Boxed W (w.heap.size + 1) 4 (.bool false) ∧ Below w.heap.size w W)
    (OwnFrom.and (ownFrom_pure _ _) (OwnFrom.and (Own.from (boxed_own _ _ _) _) (OwnFrom.and (Own.from (boxed_own _ _ _) _) (OwnFrom.and (Own.from (arr_own _) _) (OwnFrom.and (Own.from (boxed_own _ _ _) _) (ownFrom_below (Nat.le_refl _) (by omega)))))))
    (fun c => OwnFrom.and (ownFrom_pure _ _) (OwnFrom.and (Own.from (boxed_own _ _ _) _) (OwnFrom.and (Own.from (boxed_own _ _ _) _) (ownFrom_below (Nat.le_refl _) (by omega)))))
    ⟨⟨by simp, by simp⟩, b0, b1, b2, b3, hB0⟩
    (fun x => { tmps := #[.string s, undef, .pointer (some ⟨w.heap.size, 0, none⟩), .pointer (some ⟨w.heap.size + 1, 0, none⟩), .pointer (some ⟨w.heap.size + 1 + 1, 0, none⟩), .pointer (some ⟨w.heap.size + 1 + 1 + 1, 0, none⟩), .string ⟨x.1.toArray⟩, undef, undef, .string s, .func (.func 141) #[] #[.pointer (some ⟨w.heap.size + 1 + 1 + 1 + 1, 0, none⟩)], .string ⟨x.1.toArray⟩, undef, undef, undef, undef, undef, undef, undef, undef, undef, undef, undef, undef, undef, undef, undef, undef, undef, undef, undef, undef, undef, undef, undef, undef, undef, undef, undef, undef, undef, undef, undef, undef, undef], defers := [] }) ?assign ?body ?done ?stop
  case assign =>
    intro l x W K hK
    unfold labV
    gi_wp2
    exact hK
  case body =>
    rintro l pre x W ⟨⟨hp, hlen⟩, q0, q1, q2, q3, hB⟩ _
    have c0 := q0.cell; have f0 := q0.frozen
    have c1 := q1.cell; have f1 := q1.frozen
    have c3 := q3.cell; have f3 := q3.frozen
    have hxs : (⟨x.1.toArray⟩ : ByteArray).size ≤ maxLen := by have := x.2; unfold maxLen; simp [ByteArray.size]; omega
    cases hn : Oct.numOk x.1 255 with
    | false =>
      have hcall := number_no ⟨x.1.toArray⟩ W hxs hn
      have HN := Lib.hid hn
      clear hn
      gi_wp2_with fail
      refine ⟨trivial, (CallsIn.inRound l (callsIn_wide.2 hcall)).mono ?_⟩
      rintro e w' ⟨rfl, rfl⟩
      clear hcall
      gi_wp2_with fail
      exact ⟨(KeepsOthers.setCell _ _ _).trans (KeepsOthers.setCell _ _ _), ⟨rfl, .inr ⟨x, by simp, fun h => by unfold Lab.num at h; rw [HN.out] at h; cases h⟩⟩,
        Boxed.far (q0.set _) (by simp) _, (Boxed.far q1 (by simp) _).set _, (hB.setCell (p := ⟨w.heap.size, 0, none⟩) (Nat.le_refl _) _).setCell (p := ⟨w.heap.size + 1, 0, none⟩) (by simp) _⟩
    | true =>
      have hcall := number_ok ⟨x.1.toArray⟩ W hxs hn
      have hbd := num_bd hn
      obtain ⟨v, hv⟩ : ∃ v, Oct.val x.1 = v := ⟨_, rfl⟩
      replace hcall : Calls Tryz.prog 96 #[.string ⟨x.1.toArray⟩, .int .i64 255] W fun e w' => e = .returned (.tuple #[.int .i64 v, .bool true]) ∧ W = w' := by rw [← hv]; exact hcall
      rw [hv] at hbd
      obtain ⟨v0, v1⟩ := hbd
      have HV := Lib.hid hv
      have HN := Lib.hid hn
      clear hn hv
      by_cases h4 : pre.length = 4
      · have h4' : ((pre.length : Int) == 4) = true := by rw [h4]; rfl
        gi_wp2_with fail
        refine ⟨trivial, (CallsIn.inRound l (callsIn_wide.2 hcall)).mono ?_⟩
        rintro e w' ⟨rfl, rfl⟩
        clear hcall
        have H4 := Lib.hid h4
        clear h4
        gi_wp2_with fail
        exact ⟨(KeepsOthers.setCell _ _ _).trans (KeepsOthers.setCell _ _ _), ⟨rfl, .inl (by have := H4.out; simp; omega)⟩,
          Boxed.far (q0.set _) (by simp) _, (Boxed.far q1 (by simp) _).set _, (hB.setCell (p := ⟨w.heap.size, 0, none⟩) (Nat.le_refl _) _).setCell (p := ⟨w.heap.size + 1, 0, none⟩) (by simp) _⟩
      · have hlt : pre.length < 4 := by omega
        have h4' : ((pre.length : Int) == 4) = false := by rw [beq_eq_false_iff_ne]; omega
        have c2 := q2.cell pre.length hlt
        have f2 := q2.frozen pre.length
        clear h4
        gi_wp2_with fail
        refine ⟨trivial, (CallsIn.inRound l (callsIn_wide.2 hcall)).mono ?_⟩
        rintro e w' ⟨rfl, rfl⟩
        clear hcall
        gi_wp2_with fail
        have qs := q2.store x hlt
        rw [HV.out] at qs
        have hcnt : (Value.int .i64 (((pre ++ [x]).length : Nat) : Int)) = .int .i64 ((pre.length : Int) + 1) := by simp
        have hall : ∀ y ∈ pre ++ [x], Lab.num y := fun y hy => (List.mem_append.1 hy).elim (hp y) (fun e => by
          obtain rfl : y = x := by simpa using e
          exact HN.out)
        refine ⟨(KeepsOthers.setCell _ _ _).trans (KeepsOthers.setCell _ _ _), (HoKept.setCell _ _ _ (.inl rfl)).trans (HoKept.setCell _ _ _ (.inr rfl)), ⟨hall, by simp; omega⟩,
          Boxed.far (Boxed.far q0 (by show _ ≠ _ + 1 + 1; omega) _) (by show _ ≠ _ + 1 + 1 + 1; omega) _, Boxed.far (Boxed.far q1 (by show _ ≠ _ + 1 + 1; omega) _) (by show _ ≠ _ + 1 + 1 + 1; omega) _, Arr.far qs (by show _ ≠ _ + 1 + 1 + 1; omega) _, ?_,
          (hB.setCell (p := ⟨w.heap.size + 1 + 1, pre.length, none⟩) (by simp; omega) _).setCell (p := ⟨w.heap.size + 1 + 1 + 1, 0, none⟩) (by simp; omega) _⟩
        rw [hcnt]
        exact (Boxed.far q3 (by simp) _).set _
  case done =>
    rintro D ys W hD hys ⟨⟨hp, hlen⟩, q0, q1, q2, q3, hB⟩ hK
    have c0 := q0.cell; have f0 := q0.frozen
    have c1 := q1.cell; have f1 := q1.frozen
    have c3 := q3.cell; have f3 := q3.frozen
    have HY := Lib.hid hys
    clear hys
    by_cases h4 : ys.length < 4
    · gi_wp2_with fail
      have hK' := ((KeepsOthers.setCell W ⟨w.heap.size, 0, none⟩ (.int .u32 0)).trans (KeepsOthers.setCell _ ⟨w.heap.size + 1, 0, none⟩ (.bool false))).same D _ hK rfl
      refine ⟨by simp, .inl ⟨_, _, rfl, run_takeDeferred hK', ?_⟩⟩
      have q0' := Boxed.far (q0.set (.int .u32 0)) (p := ⟨w.heap.size + 1, 0, none⟩) (by simp) (.bool false)
      have q1' := (Boxed.far q1 (p := ⟨w.heap.size, 0, none⟩) (by simp) (.int .u32 0)).set (.bool false)
      have hc0 := cell_kept q0'.cell (grownBy_putObj' _ D (.deferred none)) (fun r e => by cases e; exact ⟨_, hK', rfl⟩)
      have hc1 := cell_kept q1'.cell (grownBy_putObj' _ D (.deferred none)) (fun r e => by cases e; exact ⟨_, hK', rfl⟩)
      refine ⟨.tuple #[.int .u32 0, .bool false], ?_, addr_few _ hs (by rw [← HY.out]; exact h4), ((hB.setCell (p := ⟨w.heap.size, 0, none⟩) (Nat.le_refl _) _).setCell (p := ⟨w.heap.size + 1, 0, none⟩) (by simp) _).trans (belowK_b (w := w) (Nat.le_refl _) _ D _ _ (by omega) hK' rfl rfl)⟩
      simp [results, Tryz.results111, go_sem, hc0, hc1]
    · have h5 : 4 ≤ ys.length := by omega
      have d0 := q2.cell 0 (by omega)
      have d1 := q2.cell 1 (by omega)
      have d2 := q2.cell 2 (by omega)
      have d3 := q2.cell 3 (by omega)
      obtain ⟨⟨n0, m0⟩, ⟨n1, m1⟩, ⟨n2, m2⟩, ⟨n3, m3⟩⟩ := nth_bd ys hp
      obtain ⟨a0, ha0⟩ : ∃ a, nth ys 0 = a := ⟨_, rfl⟩
      obtain ⟨a1, ha1⟩ : ∃ a, nth ys 1 = a := ⟨_, rfl⟩
      obtain ⟨a2, ha2⟩ : ∃ a, nth ys 2 = a := ⟨_, rfl⟩
      obtain ⟨a3, ha3⟩ : ∃ a, nth ys 3 = a := ⟨_, rfl⟩
      rw [ha0] at d0 n0 m0; rw [ha1] at d1 n1 m1; rw [ha2] at d2 n2 m2; rw [ha3] at d3 n3 m3
      have A0 := Lib.hid ha0; have A1 := Lib.hid ha1; have A2 := Lib.hid ha2; have A3 := Lib.hid ha3
      clear ha0 ha1 ha2 ha3
      gi_wp2_with fail
      rw [or_four a0 a1 a2 a3 n0 m0 n1 m1 n2 m2 n3 m3]
      obtain ⟨X, hX⟩ : ∃ X, 256 * (256 * (256 * a0 + a1) + a2) + a3 = X := ⟨_, rfl⟩
      rw [hX]
      have hK' := ((KeepsOthers.setCell W ⟨w.heap.size, 0, none⟩ (.int .u32 X)).trans (KeepsOthers.setCell _ ⟨w.heap.size + 1, 0, none⟩ (.bool true))).same D _ hK rfl
      refine ⟨by simp, .inl ⟨_, _, rfl, run_takeDeferred hK', ?_⟩⟩
      have q0' := Boxed.far (q0.set (.int .u32 X)) (p := ⟨w.heap.size + 1, 0, none⟩) (by simp) (.bool true)
      have q1' := (Boxed.far q1 (p := ⟨w.heap.size, 0, none⟩) (by simp) (.int .u32 X)).set (.bool true)
      have hc0 := cell_kept q0'.cell (grownBy_putObj' _ D (.deferred none)) (fun r e => by cases e; exact ⟨_, hK', rfl⟩)
      have hc1 := cell_kept q1'.cell (grownBy_putObj' _ D (.deferred none)) (fun r e => by cases e; exact ⟨_, hK', rfl⟩)
      refine ⟨.tuple #[.int .u32 X, .bool true], ?_, addr_yes _ hs ys HY.out hp (by omega) (by rw [A0.out, A1.out, A2.out, A3.out]; exact hX), ((hB.setCell (p := ⟨w.heap.size, 0, none⟩) (Nat.le_refl _) _).setCell (p := ⟨w.heap.size + 1, 0, none⟩) (by simp) _).trans (belowK_b (w := w) (Nat.le_refl _) _ D _ _ (by omega) hK' rfl rfl)⟩
      simp [results, Tryz.results111, go_sem, hc0, hc1]
  case stop =>
    rintro D c pre W hD hpre ⟨⟨rfl, hin⟩, q0, q1, hB⟩ hK
    gi_wp2_with fail
    refine ⟨by simp, .inl ⟨_, _, rfl, run_takeDeferred hK, ?_⟩⟩
    have hc0 := cell_kept q0.cell (grownBy_putObj' _ D (.deferred none)) (fun r e => by cases e; exact ⟨_, hK, rfl⟩)
    have hc1 := cell_kept q1.cell (grownBy_putObj' _ D (.deferred none)) (fun r e => by cases e; exact ⟨_, hK, rfl⟩)
    refine ⟨.tuple #[.int .u32 0, .bool false], ?_, addr_not _ hs hpre hin, hB.trans (belowK_b (w := w) (Nat.le_refl _) W D _ _ (by omega) hK rfl rfl)⟩
    simp [results, Tryz.results111, go_sem, hc0, hc1]
theorem address_any (s : ByteArray) (w : World) (hsm : s.size ≤ 253) : Calls Tryz.prog 111 #[.string s] w fun e W' => e = .returned (addrV (Hst.parts s.data.toList)) ∧ Below w.heap.size w W' := callsIn_wide.1 (address_in s w hsm)
end Go.Proofs.YtinjkpbpkedfnaaGreatDoor

/- The contracts of host.Parse and of the document's answer. -/

namespace Go.Proofs.YtinjkpbpkedfnaaGreatDoor
open Go.RowKit

def hostV (h : Hst.Host) : Value := .agg #[.string ⟨h.name.toArray⟩, .bool h.v4, .int .u32 h.addr]
def errI (o : Option Hst.Host) : Int := if o.isSome then 0 else 20
/-- What is answered: the host, and its error's number. -/
def parseV (o : Option Hst.Host) : Value := .tuple #[hostV (o.getD Hst.none_), .int .i64 (errI o)]

/-- A block that holds a host. -/
def HoBox (W : World) (B : Nat) (n : ByteArray) (b : Bool) (a : Int) : Prop := W.heap[B]? = some (.cells #[.string n, .bool b, .int .u32 a] 29 (0, 0))
theorem HoBox.new (W : World) (n : ByteArray) (b : Bool) (a : Int) : HoBox (W.alloc (.cells #[.string n, .bool b, .int .u32 a] 29)) W.heap.size n b a := World.alloc_heap_new W _
theorem HoBox.lt {W : World} {B : Nat} {n : ByteArray} {b : Bool} {a : Int} (h : HoBox W B n b a) : B < W.heap.size := (Array.getElem?_eq_some_iff.1 h).1
theorem HoBox.below {W W' : World} {B C : Nat} {n : ByteArray} {b : Bool} {a : Int} (h : HoBox W B n b a) (hb : Below C W W') (hC : B < C) : HoBox W' B n b a := (hb.block B hC).trans h
theorem HoBox.c0 {W : World} {B : Nat} {n : ByteArray} {b : Bool} {a : Int} (h : HoBox W B n b a) : W.cell? ⟨B, 0, none⟩ = some (.string n) := by simp [World.cell?, show W.heap[B]? = _ from h]
theorem HoBox.c1 {W : World} {B : Nat} {n : ByteArray} {b : Bool} {a : Int} (h : HoBox W B n b a) : W.cell? ⟨B, 1, none⟩ = some (.bool b) := by simp [World.cell?, show W.heap[B]? = _ from h]
theorem HoBox.c2 {W : World} {B : Nat} {n : ByteArray} {b : Bool} {a : Int} (h : HoBox W B n b a) : W.cell? ⟨B, 2, none⟩ = some (.int .u32 a) := by simp [World.cell?, show W.heap[B]? = _ from h]
theorem HoBox.fr {W : World} {B : Nat} {n : ByteArray} {b : Bool} {a : Int} (h : HoBox W B n b a) (i : Nat) : W.frozen? ⟨B, i, none⟩ = false := by simp [World.frozen?, show W.heap[B]? = _ from h]
/-- The three cells are written anew. -/
def hset3 (W : World) (B : Nat) (n : ByteArray) (b : Bool) (a : Int) : World := ((W.setCell ⟨B, 0, none⟩ (.string n)).setCell ⟨B, 1, none⟩ (.bool b)).setCell ⟨B, 2, none⟩ (.int .u32 a)
theorem HoBox.set {W : World} {B : Nat} {n : ByteArray} {b : Bool} {a : Int} (h : HoBox W B n b a) (n' : ByteArray) (b' : Bool) (a' : Int) : HoBox (hset3 W B n' b' a') B n' b' a' := by
  have h' : W.heap[B]? = _ := h
  unfold HoBox hset3
  simp [World.setCell, Array.getElem?_modify, h']
theorem below_hset3 {W W' : World} {C B : Nat} (h : Below C W W') (hC : C ≤ B) (n : ByteArray) (b : Bool) (a : Int) : Below C W (hset3 W' B n b a) :=
  ((h.setCell (p := ⟨B, 0, none⟩) hC _).setCell (p := ⟨B, 1, none⟩) hC _).setCell (p := ⟨B, 2, none⟩) hC _

theorem lower_size (s : ByteArray) (h : s.size ≤ maxLen) : (⟨(Oct.lower s.data.toList).toArray⟩ : ByteArray).size ≤ maxLen := by
  have e : (⟨(Oct.lower s.data.toList).toArray⟩ : ByteArray).size = s.size := by
    show (Oct.lower s.data.toList).toArray.size = s.size
    rw [List.size_toArray, Oct.lower_length]; simp
  rw [e]; exact h
theorem dom_size {n : ByteArray} (h : Hst.domB n.data.toList = true) : n.size ≤ 253 := by
  unfold Hst.domB at h
  rw [Bool.and_eq_true, decide_eq_true_eq] at h
  have := h.1
  have e : n.data.toList.length = n.size := by simp
  omega

theorem isDomain_is (s : ByteArray) (b : Bool) (w : World) (hs0 : s.size ≤ maxLen) (h : Hst.domB s.data.toList = b) : Calls Tryz.prog 109 #[.string s] w fun e W' => e = .returned (.bool b) ∧ Below w.heap.size w W' := by
  subst h; exact isDomain_any s w hs0
theorem endsInDigits_is (s : ByteArray) (b : Bool) (w : World) (hs : s.size ≤ 1000) (h : Hst.digB (Hst.last s.data.toList) = b) : Calls Tryz.prog 110 #[.string s] w fun e w' => e = .returned (.bool b) ∧ w = w' := by
  subst h; exact endsInDigits_any s w hs
theorem address_no (s : ByteArray) (w : World) (hsm : s.size ≤ 253) (h : Hst.numsB (Hst.parts s.data.toList) = false) : Calls Tryz.prog 111 #[.string s] w fun e W' => e = .returned (.tuple #[.int .u32 0, .bool false]) ∧ Below w.heap.size w W' :=
  (address_any s w hsm).mono (by rintro e w' ⟨rfl, hb⟩; exact ⟨by unfold addrV; rw [h]; rfl, hb⟩)
theorem address_yes (s : ByteArray) (w : World) (hsm : s.size ≤ 253) (h : Hst.numsB (Hst.parts s.data.toList) = true) : Calls Tryz.prog 111 #[.string s] w fun e W' => e = .returned (.tuple #[.int .u32 (Hst.addrOf (Hst.parts s.data.toList)), .bool true]) ∧ Below w.heap.size w W' :=
  (address_any s w hsm).mono (by rintro e w' ⟨rfl, hb⟩; exact ⟨by unfold addrV; rw [h]; rfl, hb⟩)

set_option maxHeartbeats 1000000 in
theorem parse_any (s : ByteArray) (w : World) (hs : s.size ≤ maxLen) : Calls Tryz.prog 84 #[.string s] w fun e w' => e = .returned (parseV (Hst.parse s.data.toList)) ∧ Below w.heap.size w w' := by
  have hn := lower_size s hs
  obtain ⟨n, hnl⟩ : ∃ n : ByteArray, n = ⟨(Oct.lower s.data.toList).toArray⟩ := ⟨_, rfl⟩
  rw [← hnl] at hn
  have hlow : ∀ W : World, Calls Tryz.prog 27 #[.string s] W fun e w' => e = .returned (.string n) ∧ Below W.heap.size W w' := fun W => by rw [hnl]; exact lower_any s W hs
  have hpn : Hst.parse s.data.toList = Hst.read n.data.toList := by rw [hnl]; rfl
  rw [hpn]
  have HL := Lib.hid hlow
  clear hpn hnl hlow
  unfold Hst.read
  cases hd : Hst.domB n.data.toList with
  | false =>
    have HD := Lib.hid hd
    clear hd
    go_enter Tryz.func84, Tryz.ntmps84
    go_wp2_with fail
    refine (HL.out _).mono ?_
    rintro e w1 ⟨rfl, hb1⟩
    have q1 := (HoBox.new w ⟨#[]⟩ false 0).below hb1 (by simp)
    go_wp2_with fail
    refine (isDomain_is _ false _ hn HD.out).mono ?_
    rintro e w2 ⟨rfl, hb2⟩
    have q2 := q1.below hb2 q1.lt
    have c0 := q2.c0; have c1 := q2.c1; have c2 := q2.c2; have f := q2.fr
    go_wp2_with fail
    have q3 := q2.set ⟨#[]⟩ false 0
    have r0 := q3.c0; have r1 := q3.c1; have r2 := q3.c2
    have hbe := below_hset3 (Below.trans ((Below.refl _ w).alloc (Nat.le_refl _) _) ((hb1.mono (by simp)).trans (hb2.mono (by have := hb1.size; simp at this; omega)))) (Nat.le_refl w.heap.size) ⟨#[]⟩ false 0
    unfold hset3 at r0 r1 r2 hbe
    exact bodyPost_ret (v := parseV none) (by simp [results, Tryz.results84, go_sem, r0, r1, r2, parseV, hostV, Hst.none_, errI]) rfl ⟨rfl, hbe⟩
  | true =>
    have hsm := dom_size hd
    have HD := Lib.hid hd
    clear hd
    cases hg : Hst.digB (Hst.last n.data.toList) with
    | false =>
      have HG := Lib.hid hg
      clear hg
      go_enter Tryz.func84, Tryz.ntmps84
      go_wp2_with fail
      refine (HL.out _).mono ?_
      rintro e w1 ⟨rfl, hb1⟩
      have q1 := (HoBox.new w ⟨#[]⟩ false 0).below hb1 (by simp)
      go_wp2_with fail
      refine (isDomain_is _ true _ hn HD.out).mono ?_
      rintro e w2 ⟨rfl, hb2⟩
      have q2 := q1.below hb2 q1.lt
      have c0 := q2.c0; have c1 := q2.c1; have c2 := q2.c2; have f := q2.fr
      go_wp2_with fail
      refine (endsInDigits_is _ false _ (by omega) HG.out).mono ?_
      rintro e w3 ⟨rfl, rfl⟩
      go_wp2_with fail
      have q3 := q2.set n false 0
      have r0 := q3.c0; have r1 := q3.c1; have r2 := q3.c2
      have hbe := below_hset3 (Below.trans ((Below.refl _ w).alloc (Nat.le_refl _) _) ((hb1.mono (by simp)).trans (hb2.mono (by have := hb1.size; simp at this; omega)))) (Nat.le_refl w.heap.size) n false 0
      unfold hset3 at r0 r1 r2 hbe
      exact bodyPost_ret (v := parseV (some ⟨n.data.toList, false, 0⟩)) (by simp [results, Tryz.results84, go_sem, r0, r1, r2, parseV, hostV, errI]) rfl ⟨rfl, hbe⟩
    | true =>
      have HG := Lib.hid hg
      clear hg
      cases hu : Hst.numsB (Hst.parts n.data.toList) with
      | false =>
        have HU := Lib.hid hu
        clear hu
        go_enter Tryz.func84, Tryz.ntmps84
        go_wp2_with fail
        refine (HL.out _).mono ?_
        rintro e w1 ⟨rfl, hb1⟩
        have q1 := (HoBox.new w ⟨#[]⟩ false 0).below hb1 (by simp)
        go_wp2_with fail
        refine (isDomain_is _ true _ hn HD.out).mono ?_
        rintro e w2 ⟨rfl, hb2⟩
        have q2 := q1.below hb2 q1.lt
        go_wp2_with fail
        refine (endsInDigits_is _ true _ (by omega) HG.out).mono ?_
        rintro e w3 ⟨rfl, rfl⟩
        go_wp2_with fail
        refine (address_no _ _ hsm HU.out).mono ?_
        rintro e w4 ⟨rfl, hb4⟩
        have q4 := q2.below hb4 q2.lt
        have c0 := q4.c0; have c1 := q4.c1; have c2 := q4.c2; have f := q4.fr
        go_wp2_with fail
        have q3 := q4.set ⟨#[]⟩ false 0
        have r0 := q3.c0; have r1 := q3.c1; have r2 := q3.c2
        have hbe := below_hset3 (Below.trans ((Below.refl _ w).alloc (Nat.le_refl _) _) ((hb1.mono (by simp)).trans ((hb2.trans (hb4.mono hb2.size)).mono (by have := hb1.size; simp at this; omega)))) (Nat.le_refl w.heap.size) ⟨#[]⟩ false 0
        unfold hset3 at r0 r1 r2 hbe
        exact bodyPost_ret (v := parseV none) (by simp [results, Tryz.results84, go_sem, r0, r1, r2, parseV, hostV, Hst.none_, errI]) rfl ⟨rfl, hbe⟩
      | true =>
        have hcall := fun W => address_yes n W hsm hu
        obtain ⟨a, ha⟩ : ∃ a, Hst.addrOf (Hst.parts n.data.toList) = a := ⟨_, rfl⟩
        rw [ha] at hcall
        have HC := Lib.hid hcall
        have HA := Lib.hid ha
        clear hu hcall ha
        go_enter Tryz.func84, Tryz.ntmps84
        go_wp2_with fail
        refine (HL.out _).mono ?_
        rintro e w1 ⟨rfl, hb1⟩
        have q1 := (HoBox.new w ⟨#[]⟩ false 0).below hb1 (by simp)
        go_wp2_with fail
        refine (isDomain_is _ true _ hn HD.out).mono ?_
        rintro e w2 ⟨rfl, hb2⟩
        have q2 := q1.below hb2 q1.lt
        go_wp2_with fail
        refine (endsInDigits_is _ true _ (by omega) HG.out).mono ?_
        rintro e w3 ⟨rfl, rfl⟩
        go_wp2_with fail
        refine (HC.out _).mono ?_
        rintro e w4 ⟨rfl, hb4⟩
        have q4 := q2.below hb4 q2.lt
        have c0 := q4.c0; have c1 := q4.c1; have c2 := q4.c2; have f := q4.fr
        go_wp2_with fail
        have q3 := q4.set ⟨#[]⟩ true a
        have r0 := q3.c0; have r1 := q3.c1; have r2 := q3.c2
        have hbe := below_hset3 (Below.trans ((Below.refl _ w).alloc (Nat.le_refl _) _) ((hb1.mono (by simp)).trans ((hb2.trans (hb4.mono hb2.size)).mono (by have := hb1.size; simp at this; omega)))) (Nat.le_refl w.heap.size) ⟨#[]⟩ true a
        unfold hset3 at r0 r1 r2 hbe
        exact bodyPost_ret (v := parseV (some ⟨[], true, a⟩)) (by simp [results, Tryz.results84, go_sem, r0, r1, r2, parseV, hostV, errI]) rfl ⟨by rw [HA.out], hbe⟩
end Go.Proofs.YtinjkpbpkedfnaaGreatDoor

/- The contracts of host.Text and of the document's answer. -/


namespace Go.Proofs.YtinjkpbpkedfnaaGreatDoor
open Go.RowKit

theorem itoa_any (n : Int) (w : World) (h0 : 0 ≤ n) (h1 : n ≤ 255) (hT : Tab w) : Calls Tryz.prog 56 #[.int .i64 n] w fun e w' => e = .returned (.string ⟨(Lib.itoa n).toArray⟩) ∧ Below w.heap.size w w' :=
  (Tryz.strconv_Itoa n (by omega) (by omega) w hT).mono (by rintro e w' ⟨rfl, k, os, rfl⟩; exact ⟨rfl, below_grow w k os⟩)

def quadI (a : Int) : List Int := [a / 16777216, a / 65536 % 256, a / 256 % 256, a % 256]
def quad (a : Int) : List (List UInt8) := (quadI a).map Lib.itoa
def textL (h : Hst.Host) : List UInt8 := if h.v4 then Oct.join 46 (quad h.addr) else h.name

theorem and255 (x : Int) (h0 : 0 ≤ x) (h1 : x ≤ 4294967295) : bits .and .u32 x 255 = x % 256 := by
  obtain ⟨n, rfl⟩ := Int.eq_ofNat_of_zero_le h0
  have h := u32_and_nat n 255 (by omega) (by omega)
  have e : n &&& 255 = n % 256 := by
    have := Nat.and_two_pow_sub_one_eq_mod n 8
    simpa using this
  rw [e] at h
  have e2 : ((255 : Nat) : Int) = 255 := rfl
  rw [e2] at h
  rw [h]
  omega

theorem owns_keep {w w' : World} {base : Nat} {v : Value} {k : Nat} {xs : List Value} (h : w.ownsRow base 9 1 v k xs) (hb : Below w.heap.size w w') : w'.ownsRow base 9 1 v k xs :=
  h.kept (row := none) ⟨hb.os, hb.tape, hb.output, hb.size, fun i hi _ => hb.block i hi⟩ (by cases hv : v.ownBlock <;> simp)
theorem join_lib (ps : List (List UInt8)) : Lib.join ps [46] = Oct.join 46 ps := by
  induction ps with
  | nil => rfl
  | cons p r ih =>
    cases r with
    | nil => rw [Lib.join_one]; rfl
    | cons q r => 
      rw [Lib.join_cons]
      rw [Lib.join_cons] at ih
      show _ = p ++ 46 :: Oct.join 46 (q :: r)
      rw [← ih]
      simp [Lib.joinTail]
theorem join_count : ∀ ps : List (List UInt8), ps.length ≤ (Oct.join 46 ps).length + 1
  | [] => by simp
  | [p] => by simp
  | p :: q :: r => by
    have := join_count (q :: r)
    simp only [Oct.join, List.length_append, List.length_cons] at this ⊢
    omega
theorem owns_view2 {w : World} {base : Nat} {v : Value} {ps : List (List UInt8)} (h : w.ownsRow base 9 1 v ps.length (ps.map Oct.strV)) :
    (v = .slice none 0 0 ∧ ps = []) ∨ ∃ g cap, v = .slice (some ⟨g, 0, none⟩) ps.length cap ∧ ps.length ≤ cap ∧ g < w.heap.size ∧ base ≤ g ∧ ∀ i (h : i < ps.length), w.cell? ⟨g, i, none⟩ = some (Oct.strV ps[i]) := by
  have hc := h
  obtain ⟨_, ⟨h1, h2⟩ | ⟨g, cap, cur, rfl, hb, hg, h3, h4, h5, h6⟩⟩ := h
  · exact .inl ⟨h1, List.length_eq_zero_iff.1 h2⟩
  · refine .inr ⟨g, cap, rfl, h3, lt_of_block hg, hb, fun i hi => ?_⟩
    have := World.ownsRow.cells hc (g := g) rfl i (Oct.strV ps[i]) (by simp [hi])
    rw [← this]; congr 1; simp [Addr.add]
/-- strings.Join with a point between, of texts that lie somewhere. -/
theorem join_any (g o cap : Nat) (ps : List (List UInt8)) (w : World) (hcells : ∀ i (h : i < ps.length), w.cell? ⟨g, o + i, none⟩ = some (Oct.strV ps[i])) (hg : g < w.heap.size) (hcap : ps.length ≤ cap) (hlen : (Oct.join 46 ps).length ≤ 1048576) :
    Calls Tryz.prog 74 #[.slice (some ⟨g, o, none⟩) ps.length cap, .string ⟨#[46]⟩] w fun e w' => e = .returned (.string ⟨(Oct.join 46 ps).toArray⟩) ∧ Below w.heap.size w w' := by
  have hm : (ps.map fun p => (⟨p.toArray⟩ : ByteArray)).map (·.data.toList) = ps := by
    rw [List.map_map]
    exact List.map_id' ps
  have hjo : Lib.join ((ps.map fun p => (⟨p.toArray⟩ : ByteArray)).map (·.data.toList)) (⟨#[46]⟩ : ByteArray).data.toList = Oct.join 46 ps := by rw [hm]; exact join_lib ps
  have hpl : ps.length ≤ (Oct.join 46 ps).length + 1 := join_count ps
  have h := Tryz.strings_Join g o cap (ps.map fun p => (⟨p.toArray⟩ : ByteArray)) ⟨#[46]⟩ w (fun j x hx => by
    rw [List.getElem?_map] at hx
    by_cases hj : j < ps.length
    · rw [List.getElem?_eq_getElem hj] at hx
      simp only [Option.map_some, Option.some.injEq] at hx
      rw [hcells j hj, ← hx]; rfl
    · rw [List.getElem?_eq_none (by omega)] at hx; cases hx) hg (by simp; omega) (by simpa using hcap) (by rw [hjo]; omega)
  rw [hjo, List.length_map] at h
  exact h
theorem itoa_len (x : Int) (h0 : 0 ≤ x) (h1 : x ≤ 255) : (Lib.itoa x).length ≤ 3 := by
  have : ∀ n : Fin 256, (Lib.itoa (n.val : Int)).length ≤ 3 := by decide +kernel
  have h := this ⟨x.toNat, by omega⟩
  rwa [show ((x.toNat : Nat) : Int) = x by omega] at h
theorem quad_join (a : Int) (a0 : 0 ≤ a) (a1 : a ≤ 4294967295) : (Oct.join 46 (quad a)).length ≤ 15 := by
  have h1 := itoa_len (a / 16777216) (by omega) (by omega)
  have h2 := itoa_len (a / 65536 % 256) (by omega) (by omega)
  have h3 := itoa_len (a / 256 % 256) (by omega) (by omega)
  have h4 := itoa_len (a % 256) (by omega) (by omega)
  simp only [quad, quadI, List.map_cons, List.map_nil, Oct.join, List.length_append, List.length_cons]
  omega
/-- What a round keeps: the texts of the numbers that have come. -/
structure TxInv (w wr : World) (xs : List Int) (k : Nat) (v : Value) : Prop where
  bel : Below w.heap.size w wr
  own : wr.ownsRow w.heap.size 9 1 v k (((xs.take k).map Lib.itoa).map Oct.strV)
theorem TxInv.tab {w wr : World} {xs : List Int} {k : Nat} {v : Value} (h : TxInv w wr xs k v) (hT : Tab w) : Tab wr := hT.below h.bel

theorem index4 (x0 x1 x2 x3 : Int) (k : Nat) (hk : k < 4) (w : World) : (Instr.index 85 (.agg #[.int .u32 x0, .int .u32 x1, .int .u32 x2, .int .u32 x3]) (.int .i64 (k : Int))).run Tryz.prog w = .ok (.int .u32 ([x0, x1, x2, x3].getD k 0)) w := by
  have h : k = 0 ∨ k = 1 ∨ k = 2 ∨ k = 3 := by omega
  have i0 : ∀ w : World, (Instr.index 85 (.agg #[.int .u32 x0, .int .u32 x1, .int .u32 x2, .int .u32 x3]) (.int .i64 0)).run Tryz.prog w = .ok (.int .u32 x0) w := fun _ => by kernel_rfl
  have i1 : ∀ w : World, (Instr.index 85 (.agg #[.int .u32 x0, .int .u32 x1, .int .u32 x2, .int .u32 x3]) (.int .i64 1)).run Tryz.prog w = .ok (.int .u32 x1) w := fun _ => by kernel_rfl
  have i2 : ∀ w : World, (Instr.index 85 (.agg #[.int .u32 x0, .int .u32 x1, .int .u32 x2, .int .u32 x3]) (.int .i64 2)).run Tryz.prog w = .ok (.int .u32 x2) w := fun _ => by kernel_rfl
  have i3 : ∀ w : World, (Instr.index 85 (.agg #[.int .u32 x0, .int .u32 x1, .int .u32 x2, .int .u32 x3]) (.int .i64 3)).run Tryz.prog w = .ok (.int .u32 x3) w := fun _ => by kernel_rfl
  rcases h with rfl | rfl | rfl | rfl
  · exact i0 w
  · exact i1 w
  · exact i2 w
  · exact i3 w
theorem get4 (x0 x1 x2 x3 : Int) (k : Nat) (hk : k < 4) (l0 : 0 ≤ x0 ∧ x0 ≤ 255) (l1 : 0 ≤ x1 ∧ x1 ≤ 255) (l2 : 0 ≤ x2 ∧ x2 ≤ 255) (l3 : 0 ≤ x3 ∧ x3 ≤ 255) : ∃ x, [x0, x1, x2, x3].getD k 0 = x ∧ 0 ≤ x ∧ x ≤ 255 ∧ [x0, x1, x2, x3].take (k + 1) = [x0, x1, x2, x3].take k ++ [x] := by
  match k, hk with
  | 0, _ => exact ⟨x0, rfl, l0.1, l0.2, rfl⟩
  | 1, _ => exact ⟨x1, rfl, l1.1, l1.2, rfl⟩
  | 2, _ => exact ⟨x2, rfl, l2.1, l2.2, rfl⟩
  | 3, _ => exact ⟨x3, rfl, l3.1, l3.2, rfl⟩

set_option maxHeartbeats 1000000 in
set_option maxRecDepth 100000 in
theorem text_any (n : ByteArray) (b : Bool) (a : Int) (w : World) (hT : Tab w) (a0 : 0 ≤ a) (a1 : a ≤ 4294967295) : Calls Tryz.prog 41 #[.agg #[.string n, .bool b, .int .u32 a]] w fun e w' => e = .returned (.string ⟨(textL ⟨n.data.toList, b, a⟩).toArray⟩) ∧ Below w.heap.size w w' := by
  cases b with
  | false =>
    go_enter Tryz.func41, Tryz.ntmps41
    go_wp2_with fail
    go_ret
    exact ⟨rfl, (Below.refl _ _).alloc (Nat.le_refl _) _⟩
  | true =>
    obtain ⟨i0, hi, hz0, hz1, hz2⟩ := info_parts info_string
    have HI := Lib.hid hi; have HZ0 := Lib.hid hz0; have HZ1 := Lib.hid hz1; have HZ2 := Lib.hid hz2
    clear hi hz0 hz1 hz2
    go_enter Tryz.func41, Tryz.ntmps41
    go_wp2_with fail
    rw [and255 (a / 65536) (by omega) (by omega), and255 (a / 256) (by omega) (by omega), and255 a a0 a1]
    obtain ⟨x0, hx0⟩ : ∃ x, a / 16777216 = x := ⟨_, rfl⟩
    obtain ⟨x1, hx1⟩ : ∃ x, a / 65536 % 256 = x := ⟨_, rfl⟩
    obtain ⟨x2, hx2⟩ : ∃ x, a / 256 % 256 = x := ⟨_, rfl⟩
    obtain ⟨x3, hx3⟩ : ∃ x, a % 256 = x := ⟨_, rfl⟩
    have l0 : 0 ≤ x0 ∧ x0 ≤ 255 := by omega
    have l1 : 0 ≤ x1 ∧ x1 ≤ 255 := by omega
    have l2 : 0 ≤ x2 ∧ x2 ≤ 255 := by omega
    have l3 : 0 ≤ x3 ∧ x3 ≤ 255 := by omega
    have hq : quad a = [x0, x1, x2, x3].map Lib.itoa := by unfold quad quadI; rw [hx0, hx1, hx2, hx3]
    rw [hx0, hx1, hx2, hx3]
    have HQ := Lib.hid hq
    clear hx0 hx1 hx2 hx3 hq
    go_loopw [4, 28] (fun v i wr => ∃ k : Nat, k ≤ 4 ∧ i = .int .i64 k ∧ TxInv w wr [x0, x1, x2, x3] k v) (fun _ i _ => 4 - (intOf i).toNat)
    case atStart => exact ⟨0, by omega, rfl, ((Below.refl _ _).alloc (Nat.le_refl _) _).alloc (by simp) _, World.ownsRow_nil _ _ _ _⟩
    case round =>
      obtain ⟨k, hk, rfl, hin⟩ := hrel
      by_cases hlt : k < 4
      · have hTr := Lib.hid (hin.tab hT)
        obtain ⟨hbel, hown⟩ := hin
        obtain ⟨x, hx, y0, y1, htk⟩ := get4 x0 x1 x2 x3 k hlt l0 l1 l2 l3
        have hix := index4 x0 x1 x2 x3 k hlt
        rw [hx] at hix
        have HTK := Lib.hid htk
        clear hx htk
        have hsz := hbel.size
        go_wp2_with fail
        refine (itoa_any x wr y0 y1 hTr.out).mono ?_
        rintro e w1 ⟨rfl, hb1⟩
        clear hix
        have hown1 := owns_keep hown hb1
        have hbel1 := Below.trans hbel (hb1.mono hsz)
        have hsz1 := hbel1.size
        clear hown hbel
        go_wp2_with (at_builtin; refine wpList_append_own _ rfl _ _ 34 rfl w.heap.size 9 i0 (.string ⟨#[]⟩) 1 16 Tryz.underlying34 HI.out HZ0.out HZ1.out HZ2.out rfl (by decide) _ _ _ rfl (hown1.alloc _) ⟨w1.heap.size, 0, none⟩ 1 1 [.string ⟨(Lib.itoa x).toArray⟩] rfl rfl ?c1 ?c2 ?c3 ?c4 ?c5 ?_)
        case c1 =>
          intro j u hj
          match j, hj with
          | 0, hj => simp at hj; subst hj; simp [Addr.add]
        case c2 => intro u hu; simp at hu; subst hu; rfl
        case c3 => unfold maxLen; omega
        case c4 => omega
        case c5 => simp; omega
        · intro v' w2 hown' hgrow _
          have hD : TxInv w w2 [x0, x1, x2, x3] (k + 1) v' := ⟨(hbel1.alloc hsz1 _).grown hgrow (by simp; omega) (fun g hg => (hown1.lt g hg).1), by rw [HTK.out]; simpa [Oct.strV] using hown'⟩
          clear hown' hgrow hown1 hbel1
          go_wp2_with fail
          go_roundw
          case rel => exact ⟨k + 1, by omega, by go_num, hD⟩
          case measure => simp [intOf]; omega
      · obtain rfl : k = 4 := by omega
        obtain ⟨hbel, hown⟩ := hin
        rw [show [x0, x1, x2, x3].take 4 = [x0, x1, x2, x3] from rfl, ← HQ.out] at hown
        have hql : (quad a).length = 4 := rfl
        have hj := quad_join a a0 a1
        rcases owns_view2 hown with ⟨rfl, h0⟩ | ⟨g, cap, rfl, hcap, hg, _, hcells⟩
        · exfalso; rw [h0] at hql; cases hql
        have hcall : Calls Tryz.prog 74 #[.slice (some ⟨g, 0, none⟩) 4 cap, .string ⟨#[46]⟩] wr fun e w' => e = .returned (.string ⟨(Oct.join 46 (quad a)).toArray⟩) ∧ Below wr.heap.size wr w' :=
          join_any g 0 cap (quad a) wr (fun i h => by rw [Nat.zero_add]; exact hcells i h) hg hcap (by omega)
        have HJ := Lib.hid hcall
        clear hcells hcall hown hql hcap
        go_wp2_with fail
        refine HJ.out.mono ?_
        rintro e w1 ⟨rfl, hb1⟩
        go_wp2_with fail
        go_ret
        exact ⟨rfl, hbel.trans (hb1.mono hbel.size)⟩
end Go.Proofs.YtinjkpbpkedfnaaGreatDoor

/- The contracts of host.endsWith, of the closure that holds the longest suffix, and of the document's ends. -/


namespace Go.Proofs.YtinjkpbpkedfnaaGreatDoor
open Go.RowKit

/-- Are a suffix's labels the last ones? -/
def hitB (ls ks : List (List UInt8)) : Bool := decide (ks.length ≤ ls.length) && ls.drop (ls.length - ks.length) == ks

theorem hit_long {ls ks : List (List UInt8)} (h : ls.length < ks.length) : false = hitB ls ks := by
  unfold hitB; rw [show decide (ks.length ≤ ls.length) = false by simp; omega]; rfl
theorem hit_eq {ls ks : List (List UInt8)} (h : ks.length ≤ ls.length) : (ls.drop (ls.length - ks.length) == ks) = hitB ls ks := by
  unfold hitB; rw [show decide (ks.length ≤ ls.length) = true by simpa using h]; rfl

/-- The longest so far, when one suffix more has come. -/
def stepN (ls : List (List UInt8)) (b : Nat) (ks : List (List UInt8)) : Nat := if decide (b < ks.length) && hitB ls ks then ks.length else b

/-- What the closure leaves: the longest in its box; every other block as it was. -/
def Held (W : World) (Bl : Nat) (b : Nat) (e : Ending) (w' : World) : Prop := e = .returned (.tuple #[]) ∧ Boxed w' Bl 3 (.int .i64 b) ∧ W.grownBy w' (some Bl)

theorem grown_drewN (W : World) (q : Nat) (row : Option Nat) : W.grownBy (W.drewN q) row := ⟨rfl, rfl, rfl, Nat.le_refl _, fun _ _ _ => rfl⟩
theorem boxed_drewN {W : World} {B : Nat} {t : TypeId} {v : Value} (h : Boxed W B t v) (q : Nat) : Boxed (W.drewN q) B t v := h

end Go.Proofs.YtinjkpbpkedfnaaGreatDoor

/- The contract of host.Site. -/

namespace Go.Proofs.YtinjkpbpkedfnaaGreatDoor
open Go.RowKit

def bestN (ls : List (List UInt8)) (sx : List (List UInt8)) : Nat := (sx.map Hst.parts).foldl (stepN ls) 1
def siteN (n : List UInt8) (sx : List (List UInt8)) : List UInt8 := Oct.join 46 ((Hst.parts n).drop ((Hst.parts n).length - bestN (Hst.parts n) sx - 1))
def siteL (h : Hst.Host) (sx : List (List UInt8)) : List UInt8 := if h.v4 then textL h else siteN h.name sx

/-- A slice of texts that lies somewhere, nil let in. -/
def Seen (w : World) (A : Option Addr) (sx : List (List UInt8)) : Prop := 0 < sx.length → ∃ a, A = some a ∧ a.block < w.heap.size ∧ ∀ i (h : i < sx.length), w.cell? (a.add i) = some (Oct.strV sx[i])
theorem add_block (a : Addr) (n : Nat) : (a.add n).block = a.block := by unfold Addr.add; split <;> rfl
theorem Seen.below {w w' : World} {A : Option Addr} {sx : List (List UInt8)} (h : Seen w A sx) (hb : Below w.heap.size w w') : Seen w' A sx := fun hn => by
  obtain ⟨a, rfl, hlt, hc⟩ := h hn
  exact ⟨a, rfl, Nat.lt_of_lt_of_le hlt hb.size, fun i hi => by rw [hb.cell (by rw [add_block]; exact hlt)]; exact hc i hi⟩

theorem step_le {ls : List (List UInt8)} {b : Nat} {ks : List (List UInt8)} {m : Nat} (hb : b ≤ m) (hk : ks.length ≤ m) : stepN ls b ks ≤ m := by unfold stepN; split <;> omega
theorem step_ge (ls : List (List UInt8)) (b : Nat) (ks : List (List UInt8)) : b ≤ stepN ls b ks := by
  unfold stepN; split
  · rename_i h; simp at h; omega
  · omega
theorem best_snoc (ls : List (List UInt8)) (sx : List (List UInt8)) (s : List UInt8) : bestN ls (sx ++ [s]) = stepN ls (bestN ls sx) (Hst.parts s) := by simp [bestN]
theorem best_take (ls : List (List UInt8)) (sx : List (List UInt8)) (k : Nat) (hk : k < sx.length) : bestN ls (sx.take (k + 1)) = stepN ls (bestN ls (sx.take k)) (Hst.parts sx[k]) := by
  rw [List.take_succ_eq_append_getElem hk, best_snoc]
theorem best_ge (ls sx : List (List UInt8)) : 1 ≤ bestN ls sx := by
  unfold bestN
  have : ∀ (l : List (List (List UInt8))) b, b ≤ l.foldl (stepN ls) b := by
    intro l
    induction l with
    | nil => intro b; exact Nat.le_refl _
    | cons x r ih => intro b; rw [List.foldl_cons]; exact Nat.le_trans (step_ge ls b x) (ih _)
  exact this _ 1
theorem best_le (ls sx : List (List UInt8)) (h : ∀ s ∈ sx, s.length ≤ 1000) : bestN ls sx ≤ 1001 := by
  unfold bestN
  have : ∀ (l : List (List (List UInt8))) b, b ≤ 1001 → (∀ x ∈ l, x.length ≤ 1001) → l.foldl (stepN ls) b ≤ 1001 := by
    intro l
    induction l with
    | nil => intro b hb _; exact hb
    | cons x r ih => intro b hb hx; rw [List.foldl_cons]; exact ih _ (step_le hb (hx x (by simp))) (fun y hy => hx y (by simp [hy]))
  refine this _ 1 (by omega) ?_
  intro x hx
  obtain ⟨s, hs, rfl⟩ := List.mem_map.1 hx
  have := Hst.parts_len s
  have := h s hs
  omega
theorem join_tail (p : List UInt8) (r : List (List UInt8)) : (Oct.join 46 r).length ≤ (Oct.join 46 (p :: r)).length := by
  cases r with
  | nil => simp [Oct.join]
  | cons q r => simp [Oct.join]; omega
theorem join_drop : ∀ (k : Nat) (ls : List (List UInt8)), (Oct.join 46 (ls.drop k)).length ≤ (Oct.join 46 ls).length
  | 0, ls => by simp
  | k + 1, [] => by simp
  | k + 1, p :: r => by
    rw [List.drop_succ_cons]
    exact Nat.le_trans (join_drop k r) (join_tail p r)

/-- What a round keeps. -/
structure SiInv (w wr : World) (Bl Bo g cap : Nat) (ls sx : List (List UInt8)) (k : Nat) : Prop where
  bel : Below w.heap.size w wr
  cells : ∀ i (h : i < ls.length), wr.cell? ⟨g, i, none⟩ = some (Oct.strV ls[i])
  lg : Boxed wr Bl 3 (.int .i64 (bestN ls (sx.take k)))
  ow : Boxed wr Bo 34 (.slice (some ⟨g, 0, none⟩) ls.length cap)
theorem hboxed_below {W W' : World} {B C : Nat} {t : TypeId} {v : Value} (h : Boxed W B t v) (hb : Below C W W') (hC : B < C) : Boxed W' B t v := (hb.block B hC).trans h

theorem size_list (p : List UInt8) : (⟨p.toArray⟩ : ByteArray).size = p.length := by simp [ByteArray.size]

end Go.Proofs.YtinjkpbpkedfnaaGreatDoor

/- The contract of the document's Parse. -/

namespace Go.Proofs.YtinjkpbpkedfnaaGreatDoor
open Go.RowKit

theorem read_len {n : List UInt8} (h : n.length < 1 ∨ 253 < n.length) : Hst.read n = none := by
  have e : Hst.domB n = false := by
    unfold Hst.domB
    rcases h with h | h
    · have : n = [] := List.length_eq_zero_iff.1 (by omega)
      subst this; rfl
    · rw [show decide (n.length ≤ 253) = false by simp; omega]; rfl
  unfold Hst.read; rw [e]; rfl
theorem read_bad {n : List UInt8} (k : Nat) (hk : k < (Hst.parts n).length) (h : Hst.labelB (Hst.parts n)[k] = false) : Hst.read n = none := by
  have e : Hst.domB n = false := by
    unfold Hst.domB
    rw [Bool.and_eq_false_iff]; right
    rw [List.all_eq_false]
    exact ⟨_, List.getElem_mem hk, by rw [h]; simp⟩
  unfold Hst.read; rw [e]; rfl
theorem dom_of {n : List UInt8} (hl : n.length ≤ 253) (h : (Hst.parts n).all Hst.labelB = true) : Hst.domB n = true := by
  unfold Hst.domB; rw [h, show decide (n.length ≤ 253) = true by simpa using hl]; rfl
theorem read_name {n : List UInt8} (hd : Hst.domB n = true) (h : Hst.digB (Hst.last n) = false) : Hst.read n = some ⟨n, false, 0⟩ := by
  unfold Hst.read; rw [hd, h]; rfl
theorem read_no {n : List UInt8} (hd : Hst.domB n = true) (h : Hst.digB (Hst.last n) = true) (hn : Hst.numsB (Hst.parts n) = false) : Hst.read n = none := by
  unfold Hst.read; rw [hd, h, hn]; rfl
theorem read_yes {n : List UInt8} (hd : Hst.domB n = true) (h : Hst.digB (Hst.last n) = true) (hn : Hst.numsB (Hst.parts n) = true) : Hst.read n = some ⟨[], true, Hst.addrOf (Hst.parts n)⟩ := by
  unfold Hst.read; rw [hd, h, hn]; rfl
theorem nums_len {ps : List (List UInt8)} (h : ¬ ps.length = 4) : Hst.numsB ps = false := by unfold Hst.numsB; simp [h]
theorem nums_bad {ps : List (List UInt8)} (k : Nat) (hk : k < ps.length) (h : Oct.numOk ps[k] 255 = false) : Hst.numsB ps = false := by
  unfold Hst.numsB
  rw [Bool.and_eq_false_iff]; right
  rw [List.all_eq_false]
  exact ⟨_, List.getElem_mem hk, by rw [h]; simp⟩
theorem nums_all {ps : List (List UInt8)} (hl : ps.length = 4) (h : ps.all (fun p => Oct.numOk p 255) = true) : Hst.numsB ps = true := by unfold Hst.numsB; simp [hl, h]
theorem all_next {p : List UInt8 → Bool} {ps : List (List UInt8)} {k : Nat} (hk : k < ps.length) (h : (ps.take k).all p = true) (hp : p ps[k] = true) : (ps.take (k + 1)).all p = true := by
  rw [List.take_succ_eq_append_getElem hk, List.all_append, h]; simp [hp]
theorem all_done {p : List UInt8 → Bool} {ps : List (List UInt8)} {k : Nat} (hk : ps.length ≤ k) (h : (ps.take k).all p = true) : ps.all p = true := by
  rwa [List.take_of_length_le hk] at h
theorem last_at (l : List UInt8) (h : (Hst.parts l).length - 1 < (Hst.parts l).length) : (Hst.parts l)[(Hst.parts l).length - 1] = Hst.last l := by
  unfold Hst.last
  generalize Hst.parts l = ps at *
  have hne : ps ≠ [] := by intro e; subst e; simp at h
  rw [← List.getLast_eq_getElem hne]
  cases ps with
  | nil => exact absurd rfl hne
  | cons a r => rw [List.getLastD_cons, List.getLast_eq_getLastD]
theorem addr_snoc (l : List (List UInt8)) (p : List UInt8) : Hst.addrOf (l ++ [p]) = 256 * Hst.addrOf l + Oct.val p := by simp [Hst.addrOf]
theorem addr_take (ps : List (List UInt8)) (k : Nat) (hk : k < ps.length) : Hst.addrOf (ps.take (k + 1)) = 256 * Hst.addrOf (ps.take k) + Oct.val ps[k] := by
  rw [List.take_succ_eq_append_getElem hk, addr_snoc]
theorem addr_bd (ps : List (List UInt8)) : ∀ k, k ≤ ps.length → (ps.take k).all (fun p => Oct.numOk p 255) = true → 0 ≤ Hst.addrOf (ps.take k) ∧ Hst.addrOf (ps.take k) < 256 ^ k
  | 0, _, _ => by simp [Hst.addrOf]
  | k + 1, hk, h => by
    have hk' : k < ps.length := by omega
    rw [List.take_succ_eq_append_getElem hk', List.all_append, Bool.and_eq_true] at h
    have ih := addr_bd ps k (by omega) h.1
    have hv := num_bd (l := ps[k]) (by simpa using h.2)
    rw [addr_take ps k hk', Int.pow_succ]
    omega
theorem addr_bd3 (ps : List (List UInt8)) (k : Nat) (hk : k < 4) (hl : k ≤ ps.length) (h : (ps.take k).all (fun p => Oct.numOk p 255) = true) : 0 ≤ Hst.addrOf (ps.take k) ∧ Hst.addrOf (ps.take k) ≤ 16777215 := by
  have := addr_bd ps k hl h
  refine ⟨this.1, ?_⟩
  have hp : (256 : Int) ^ k ≤ 16777216 := by
    match k, hk with
    | 0, _ => decide
    | 1, _ => decide
    | 2, _ => decide
    | 3, _ => decide
  omega

theorem rnumber_no (p : List UInt8) (w : World) (hs : p.length ≤ 1000) (hok : Oct.numOk p 255 = false) :
    Calls Tryz.prog 35 #[.string ⟨p.toArray⟩, .int .i64 255] w fun e w' => e = .returned (.tuple #[.int .i64 0, .bool false]) ∧ w = w' :=
  (rnumber_any ⟨p.toArray⟩ 255 w (by unfold maxLen; simp [ByteArray.size]; omega) (by decide) (by decide)).mono (by rintro e w' ⟨rfl, h⟩; exact ⟨(num_no hok).symm, h⟩)
theorem rnumber_ok (p : List UInt8) (v : Int) (w : World) (hs : p.length ≤ 1000) (hok : Oct.numOk p 255 = true) (hv : Oct.val p = v) :
    Calls Tryz.prog 35 #[.string ⟨p.toArray⟩, .int .i64 255] w fun e w' => e = .returned (.tuple #[.int .i64 v, .bool true]) ∧ w = w' :=
  (rnumber_any ⟨p.toArray⟩ 255 w (by unfold maxLen; simp [ByteArray.size]; omega) (by decide) (by decide)).mono (by rintro e w' ⟨rfl, h⟩; exact ⟨(num_yes hok hv.symm).symm, h⟩)

end Go.Proofs.YtinjkpbpkedfnaaGreatDoor

/- Laws of hosts: text and back, numbers, sites. No program is named here. -/

namespace Go.Proofs.YtinjkpbpkedfnaaGreatDoor
open Hst

theorem itoa_num (x : Int) (h0 : 0 ≤ x) (h1 : x ≤ 255) : Oct.numOk (Lib.itoa x) 255 = true ∧ Oct.val (Lib.itoa x) = x := by
  have : ∀ n : Fin 256, Oct.numOk (Lib.itoa (n.val : Int)) 255 = true ∧ Oct.val (Lib.itoa (n.val : Int)) = (n.val : Int) := by decide +kernel
  have h := this ⟨x.toNat, by omega⟩
  rwa [show ((x.toNat : Nat) : Int) = x by omega] at h
theorem itoa_lab (x : Int) (h0 : 0 ≤ x) (h1 : x ≤ 255) : labelB (Lib.itoa x) = true ∧ digB (Lib.itoa x) = true ∧ Oct.lower (Lib.itoa x) = Lib.itoa x ∧ (Lib.itoa x).all (fun b => !((b.toNat : Int) == 46)) = true := by
  have : ∀ n : Fin 256, labelB (Lib.itoa (n.val : Int)) = true ∧ digB (Lib.itoa (n.val : Int)) = true ∧ Oct.lower (Lib.itoa (n.val : Int)) = Lib.itoa (n.val : Int) ∧ (Lib.itoa (n.val : Int)).all (fun b => !((b.toNat : Int) == 46)) = true := by decide +kernel
  have h := this ⟨x.toNat, by omega⟩
  rwa [show ((x.toNat : Nat) : Int) = x by omega] at h

/-- A number's digits, told again, are those that told it. -/
theorem dec_val : ∀ (k : Nat) (p : List UInt8), p.length = k + 1 → Oct.allB Oct.digitI p = true → (1 < p.length → p.headD 0 ≠ 48) → Lib.decDigits (Oct.val p).toNat = p
  | 0, p, hl, ha, _ => by
    match p, hl with
    | [c], _ => 
      have hd := Oct.allB_at Oct.digitI [c] ha 0 (by simp)
      simp [Oct.digitI] at hd
      have hv : Oct.val [c] = (c.toNat : Int) - 48 := by simp [Oct.val]
      rw [hv, Lib.decDigits, dif_pos (by omega)]
      congr 1
      have : 48 + ((c.toNat : Int) - 48).toNat = c.toNat := by omega
      rw [this]; simp
  | k + 1, p, hl, ha, hh => by
    obtain ⟨q, c, rfl⟩ : ∃ q c, p = q ++ [c] := by
      have : p ≠ [] := by intro e; subst e; simp at hl
      exact ⟨p.dropLast, p.getLast this, (List.dropLast_concat_getLast this).symm⟩
    have hql : q.length = k + 1 := by simpa using hl
    have hqa : Oct.allB Oct.digitI q = true := by
      unfold Oct.allB at ha ⊢
      rw [List.all_append, Bool.and_eq_true] at ha
      exact ha.1
    have hcd : Oct.digitI c.toNat = true := by
      unfold Oct.allB at ha
      rw [List.all_append, Bool.and_eq_true] at ha
      simpa using ha.2
    simp [Oct.digitI] at hcd
    have hq0 : q.headD 0 ≠ 48 := by
      have := hh (by simp; omega)
      cases q with
      | nil => simp at hql
      | cons b r => simpa using this
    have ih := dec_val k q hql hqa (fun _ => hq0)
    have hpos : (10 : Int) ^ k ≤ Oct.val q := by
      have := Oct.val_pow q hqa hq0 k (by omega)
      rwa [show k + 1 = q.length by omega, List.take_length] at this
    have h10 : (0 : Int) < 10 ^ k := Int.pow_pos (by decide)
    have hv : Oct.val (q ++ [c]) = 10 * Oct.val q + ((c.toNat : Int) - 48) := Oct.val_snoc q c
    have e1 : (Oct.val (q ++ [c])).toNat / 10 = (Oct.val q).toNat := by omega
    have e2 : 48 + (Oct.val (q ++ [c])).toNat % 10 = c.toNat := by omega
    rw [Lib.decDigits, dif_neg (by omega), e1, e2, ih]
    simp
theorem itoa_val (p : List UInt8) (h : Oct.numOk p 255 = true) : Lib.itoa (Oct.val p) = p := by
  obtain ⟨h1, h2, h3, h4⟩ := Oct.numOk_parts _ _ h
  have h0 := Oct.val_nonneg _ h3
  unfold Lib.itoa
  rw [if_neg (by omega)]
  exact dec_val (p.length - 1) p (by omega) h3 h2

theorem nums_parts {ps : List (List UInt8)} (h : numsB ps = true) : ∃ p0 p1 p2 p3, ps = [p0, p1, p2, p3] ∧ Oct.numOk p0 255 = true ∧ Oct.numOk p1 255 = true ∧ Oct.numOk p2 255 = true ∧ Oct.numOk p3 255 = true := by
  unfold numsB at h
  rw [Bool.and_eq_true, decide_eq_true_eq] at h
  match ps, h with
  | [p0, p1, p2, p3], h => 
    have := h.2
    simp at this
    exact ⟨p0, p1, p2, p3, rfl, this.1, this.2.1, this.2.2.1, this.2.2.2⟩
theorem addr_range {ps : List (List UInt8)} (h : numsB ps = true) : 0 ≤ addrOf ps ∧ addrOf ps ≤ 4294967295 := by
  obtain ⟨p0, p1, p2, p3, rfl, h0, h1, h2, h3⟩ := nums_parts h
  have := num_bd h0; have := num_bd h1; have := num_bd h2; have := num_bd h3
  simp [addrOf]; omega
theorem quad_addr {ps : List (List UInt8)} (h : numsB ps = true) : quad (addrOf ps) = ps := by
  obtain ⟨p0, p1, p2, p3, rfl, h0, h1, h2, h3⟩ := nums_parts h
  have b0 := num_bd h0; have b1 := num_bd h1; have b2 := num_bd h2; have b3 := num_bd h3
  have e : quadI (addrOf [p0, p1, p2, p3]) = [Oct.val p0, Oct.val p1, Oct.val p2, Oct.val p3] := by
    simp only [quadI, addrOf, List.foldl_cons, List.foldl_nil, List.cons.injEq, and_true]
    refine ⟨by omega, by omega, by omega, by omega⟩
  unfold quad
  rw [e]
  simp [itoa_val, h0, h1, h2, h3]
/-- A host that is read has the text that it was read from. -/
theorem text_read {n : List UInt8} {h : Host} (hr : read n = some h) : textL h = n := by
  unfold Hst.read at hr
  split at hr
  · split at hr
    · split at hr
      · rename_i hn
        simp only [Option.some.injEq] at hr
        subst hr
        unfold textL
        simp only [if_true]
        rw [quad_addr hn, join_parts]
      · cases hr
    · simp only [Option.some.injEq] at hr
      subst hr; rfl
  · cases hr
theorem read_range {n : List UInt8} {h : Host} (hr : read n = some h) : 0 ≤ h.addr ∧ h.addr ≤ 4294967295 := by
  unfold Hst.read at hr
  split at hr
  · split at hr
    · split at hr
      · rename_i hn
        simp only [Option.some.injEq] at hr
        subst hr
        exact addr_range hn
      · cases hr
    · simp only [Option.some.injEq] at hr
      subst hr; exact ⟨Int.le_refl 0, show (0 : Int) ≤ 4294967295 by decide⟩
  · cases hr
theorem parse_lower (l : List UInt8) : parse (Oct.lower l) = parse l := by unfold parse; rw [Oct.lower_lower]
theorem read_dom {n : List UInt8} {h : Host} (hr : read n = some h) : domB n = true := by
  unfold Hst.read at hr
  split at hr
  · assumption
  · cases hr
theorem dom_len {n : List UInt8} (h : domB n = true) : n.length ≤ 253 ∧ ∀ q ∈ parts n, labelB q = true := by
  unfold domB at h
  rw [Bool.and_eq_true, decide_eq_true_eq, List.all_eq_true] at h
  exact h
theorem lab_pos {q : List UInt8} (h : labelB q = true) : 0 < q.length := by
  unfold labelB at h
  rw [Bool.and_eq_true, Bool.and_eq_true] at h
  have := h.1.2
  cases q with
  | nil => simp at this
  | cons a r => simp
/-- A name that is read is its own text. -/
theorem read_name_eq {n : List UInt8} {h : Host} (hr : read n = some h) (hv : h.v4 = false) : h = ⟨n, false, 0⟩ := by
  unfold Hst.read at hr
  split at hr
  · split at hr
    · split at hr
      · simp only [Option.some.injEq] at hr
        subst hr; cases hv
      · cases hr
    · simp only [Option.some.injEq] at hr
      exact hr.symm
  · cases hr

theorem quad_bd (a : Int) (a0 : 0 ≤ a) (a1 : a ≤ 4294967295) : ∀ x ∈ quadI a, 0 ≤ x ∧ x ≤ 255 := by
  intro x hx
  simp only [quadI, List.mem_cons, List.not_mem_nil, or_false] at hx
  rcases hx with rfl | rfl | rfl | rfl <;> omega
theorem quad_dot (a : Int) (a0 : 0 ≤ a) (a1 : a ≤ 4294967295) : parts (Oct.join 46 (quad a)) = quad a := by
  refine parts_join _ (by simp [quad, quadI]) ?_
  intro q hq b hb
  obtain ⟨x, hx, rfl⟩ := List.mem_map.1 hq
  have h := quad_bd a a0 a1 x hx
  have := (itoa_lab x h.1 h.2).2.2.2
  rw [List.all_eq_true] at this
  simpa using this b hb
theorem lower_append (a b : List UInt8) : Oct.lower (a ++ b) = Oct.lower a ++ Oct.lower b := by simp [Oct.lower]
theorem quad_lower (a : Int) (a0 : 0 ≤ a) (a1 : a ≤ 4294967295) : Oct.lower (Oct.join 46 (quad a)) = Oct.join 46 (quad a) := by
  have hl : ∀ x ∈ quadI a, Oct.lower (Lib.itoa x) = Lib.itoa x := fun x hx => (itoa_lab x (quad_bd a a0 a1 x hx).1 (quad_bd a a0 a1 x hx).2).2.2.1
  have h1 := hl (a / 16777216) (by simp [quadI])
  have h2 := hl (a / 65536 % 256) (by simp [quadI])
  have h3 := hl (a / 256 % 256) (by simp [quadI])
  have h4 := hl (a % 256) (by simp [quadI])
  have hd : ∀ r : List UInt8, Oct.lower (46 :: r) = 46 :: Oct.lower r := fun r => rfl
  simp only [quad, quadI, List.map_cons, List.map_nil, Oct.join, lower_append, hd, h1, h2, h3, h4]
/-- Any address is read from its text as itself. -/
theorem quad_read (a : Int) (a0 : 0 ≤ a) (a1 : a ≤ 4294967295) : parse (Oct.join 46 (quad a)) = some ⟨[], true, a⟩ := by
  unfold parse
  rw [quad_lower a a0 a1]
  have hp := quad_dot a a0 a1
  have hq : ∀ p ∈ quad a, labelB p = true ∧ digB p = true ∧ Oct.numOk p 255 = true := by
    intro p hp
    obtain ⟨x, hx, rfl⟩ := List.mem_map.1 hp
    have h := quad_bd a a0 a1 x hx
    exact ⟨(itoa_lab x h.1 h.2).1, (itoa_lab x h.1 h.2).2.1, (itoa_num x h.1 h.2).1⟩
  have hl := quad_join a a0 a1
  have hd : domB (Oct.join 46 (quad a)) = true := by
    unfold domB
    rw [hp, Bool.and_eq_true, decide_eq_true_eq, List.all_eq_true]
    exact ⟨by omega, fun p h => (hq p h).1⟩
  have hla : last (Oct.join 46 (quad a)) = Lib.itoa (a % 256) := by
    unfold last
    rw [hp]; rfl
  have hdg : digB (last (Oct.join 46 (quad a))) = true := by
    rw [hla]
    exact (hq (Lib.itoa (a % 256)) (by simp [quad, quadI])).2.1
  have hnm : numsB (parts (Oct.join 46 (quad a))) = true := by
    rw [hp]
    exact nums_all rfl (by rw [List.all_eq_true]; exact fun p h => (hq p h).2.2)
  rw [read_yes hd hdg hnm, hp]
  have hv : ∀ x ∈ quadI a, Oct.val (Lib.itoa x) = x := fun x hx => (itoa_num x (quad_bd a a0 a1 x hx).1 (quad_bd a a0 a1 x hx).2).2
  have h1 := hv (a / 16777216) (by simp [quadI])
  have h2 := hv (a / 65536 % 256) (by simp [quadI])
  have h3 := hv (a / 256 % 256) (by simp [quadI])
  have h4 := hv (a % 256) (by simp [quadI])
  simp only [quad, quadI, List.map_cons, List.map_nil, addrOf, List.foldl_cons, List.foldl_nil, h1, h2, h3, h4]
  congr 2
  omega
end Go.Proofs.YtinjkpbpkedfnaaGreatDoor

/- Laws of sites. No program is named here. -/
namespace Go.Proofs.YtinjkpbpkedfnaaGreatDoor
open Hst

/-- What the longest is: not less than any that matches, and one of them (or 1). -/
theorem fold_ge (ls : List (List UInt8)) : ∀ (l : List (List (List UInt8))) b, b ≤ l.foldl (stepN ls) b
  | [], _ => Nat.le_refl _
  | x :: r, b => Nat.le_trans (step_ge ls b x) (fold_ge ls r _)
theorem fold_all (ls : List (List UInt8)) : ∀ (l : List (List (List UInt8))) b, ∀ x ∈ l, hitB ls x = true → x.length ≤ l.foldl (stepN ls) b
  | [], _, x, h, _ => by simp at h
  | y :: r, b, x, h, hh => by
    rw [List.foldl_cons]
    rcases List.mem_cons.1 h with rfl | h
    · refine Nat.le_trans ?_ (fold_ge ls r _)
      unfold stepN
      by_cases hb : b < x.length
      · simp [hb, hh]
      · simp [hb]; omega
    · exact fold_all ls r _ x h hh
theorem fold_one (ls : List (List UInt8)) : ∀ (l : List (List (List UInt8))) b, l.foldl (stepN ls) b = b ∨ ∃ x ∈ l, hitB ls x = true ∧ l.foldl (stepN ls) b = x.length
  | [], b => .inl rfl
  | y :: r, b => by
    rw [List.foldl_cons]
    rcases fold_one ls r (stepN ls b y) with h | ⟨x, hx, hh, he⟩
    · rw [h]
      unfold stepN
      split
      · rename_i hc
        rw [Bool.and_eq_true] at hc
        exact .inr ⟨y, by simp, hc.2, rfl⟩
      · exact .inl rfl
    · exact .inr ⟨x, by simp [hx], hh, he⟩
theorem best_all (ls sx : List (List UInt8)) (s : List UInt8) (hs : s ∈ sx) (hh : hitB ls (parts s) = true) : (parts s).length ≤ bestN ls sx := fold_all ls _ 1 _ (List.mem_map.2 ⟨s, hs, rfl⟩) hh
theorem best_one (ls sx : List (List UInt8)) : bestN ls sx = 1 ∨ ∃ s ∈ sx, hitB ls (parts s) = true ∧ bestN ls sx = (parts s).length := by
  rcases fold_one ls (sx.map parts) 1 with h | ⟨x, hx, hh, he⟩
  · exact .inl h
  · obtain ⟨s, hs, rfl⟩ := List.mem_map.1 hx
    exact .inr ⟨s, hs, hh, he⟩
/-- The longest hangs on which suffixes there are, and which match, alone. -/
theorem best_le_of (ls ls' sx sx' : List (List UInt8)) (h : ∀ s ∈ sx, hitB ls (parts s) = true → ∃ s' ∈ sx', hitB ls' (parts s') = true ∧ (parts s).length ≤ (parts s').length) : bestN ls sx ≤ bestN ls' sx' := by
  rcases best_one ls sx with e | ⟨s, hs, hh, e⟩
  · rw [e]; exact best_ge ls' sx'
  · obtain ⟨s', hs', hh', hl⟩ := h s hs hh
    have := best_all ls' sx' s' hs' hh'
    omega
theorem best_turn (ls sx : List (List UInt8)) : bestN ls (sx ++ sx.reverse) = bestN ls sx := by
  apply Nat.le_antisymm
  · exact best_le_of _ _ _ _ (fun s hs hh => ⟨s, by simpa using hs, hh, Nat.le_refl _⟩)
  · exact best_le_of _ _ _ _ (fun s hs hh => ⟨s, by simp [hs], hh, Nat.le_refl _⟩)
theorem site_turn (h : Host) (sx : List (List UInt8)) : siteL h (sx ++ sx.reverse) = siteL h sx := by
  unfold siteL siteN
  rw [best_turn]

theorem hit_len {ls ks : List (List UInt8)} (h : hitB ls ks = true) : ks.length ≤ ls.length ∧ ls.drop (ls.length - ks.length) = ks := by
  unfold hitB at h
  rw [Bool.and_eq_true, decide_eq_true_eq, beq_iff_eq] at h
  exact h
theorem hit_mk {ls ks : List (List UInt8)} (h1 : ks.length ≤ ls.length) (h2 : ls.drop (ls.length - ks.length) = ks) : hitB ls ks = true := by
  unfold hitB
  rw [Bool.and_eq_true, decide_eq_true_eq, beq_iff_eq]
  exact ⟨h1, h2⟩
/-- Where the labels behind some place are at least as many, matching is the same there. -/
theorem hit_drop {ls ks : List (List UInt8)} (j : Nat) (h : ks.length ≤ ls.length - j) : hitB (ls.drop j) ks = hitB ls ks := by
  have e : (ls.drop j).drop ((ls.drop j).length - ks.length) = ls.drop (ls.length - ks.length) ∨ j > ls.length := by
    by_cases hj : j ≤ ls.length
    · left
      rw [List.drop_drop, List.length_drop]
      congr 1; omega
    · right; omega
  rcases e with e | e
  · unfold hitB
    rw [e, List.length_drop]
    congr 1
    rw [decide_eq_decide]
    omega
  · have hk : ks = [] := List.length_eq_zero_iff.1 (by omega)
    subst hk
    unfold hitB
    simp
    omega
theorem best_bound (ls sx : List (List UInt8)) (hl : 0 < ls.length) : bestN ls sx ≤ ls.length := by
  rcases best_one ls sx with e | ⟨s, _, hh, e⟩
  · omega
  · have := (hit_len hh).1; omega
/-- The site of a site is the site. -/
theorem best_drop (ls sx : List (List UInt8)) : (ls.drop (ls.length - bestN ls sx - 1)).length ≤ bestN (ls.drop (ls.length - bestN ls sx - 1)) sx + 1 := by
  obtain ⟨B, hB⟩ : ∃ B, bestN ls sx = B := ⟨_, rfl⟩
  rw [hB, List.length_drop]
  have h1 := best_ge (ls.drop (ls.length - B - 1)) sx
  rcases best_one ls sx with e | ⟨s, hs, hh, e⟩
  · rw [hB] at e; omega
  · rw [hB] at e
    have hk := (hit_len hh).1
    have h2 := best_all (ls.drop (ls.length - B - 1)) sx s hs (by rw [hit_drop _ (by omega)]; exact hh)
    omega

theorem join_app (a b : List (List UInt8)) (ha : a ≠ []) (hb : b ≠ []) : Oct.join 46 (a ++ b) = Oct.join 46 a ++ 46 :: Oct.join 46 b := by
  induction a with
  | nil => exact absurd rfl ha
  | cons p r ih =>
    cases r with
    | nil =>
      cases b with
      | nil => exact absurd rfl hb
      | cons q t => rfl
    | cons q t =>
      have := ih (by simp)
      simp only [List.cons_append] at this ⊢
      simp only [Oct.join]
      rw [this]
      simp
theorem parts_drop (n : List UInt8) (k : Nat) (hk : k < (parts n).length) : parts (Oct.join 46 ((parts n).drop k)) = (parts n).drop k := by
  refine parts_join _ ?_ ?_
  · intro e
    have := congrArg List.length e
    simp at this; omega
  · intro q hq
    exact parts_none n q (List.mem_of_mem_drop hq)
theorem siteN_site (n : List UInt8) (sx : List (List UInt8)) : siteN (siteN n sx) sx = siteN n sx := by
  unfold siteN
  have hp := parts_pos n
  have h1 := best_ge (parts n) sx
  rw [parts_drop n _ (by omega)]
  have h2 := best_drop (parts n) sx
  rw [show ((parts n).drop ((parts n).length - bestN (parts n) sx - 1)).length - bestN ((parts n).drop ((parts n).length - bestN (parts n) sx - 1)) sx - 1 = 0 by omega]
  rfl
/-- A name is what stands ahead of its site, a point, and the site; or the site. -/
theorem site_end (n : List UInt8) (sx : List (List UInt8)) : siteN n sx = n ∨ ∃ pre, n = pre ++ 46 :: siteN n sx := by
  unfold siteN
  obtain ⟨k, hk⟩ : ∃ k, (parts n).length - bestN (parts n) sx - 1 = k := ⟨_, rfl⟩
  rw [hk]
  have hp := parts_pos n
  have h1 := best_ge (parts n) sx
  rcases Nat.eq_zero_or_pos k with h0 | h0
  · left; rw [h0, List.drop_zero, join_parts]
  · right
    refine ⟨Oct.join 46 ((parts n).take k), ?_⟩
    rw [← join_app]
    · rw [List.take_append_drop, join_parts]
    · intro e
      have := congrArg List.length e
      rw [List.length_take] at this
      simp only [List.length_nil] at this
      omega
    · intro e
      have := congrArg List.length e
      simp at this; omega
theorem site_ne (n : List UInt8) (sx : List (List UInt8)) (h : domB n = true) : siteN n sx ≠ [] := by
  unfold siteN
  obtain ⟨k, hk⟩ : ∃ k, (parts n).length - bestN (parts n) sx - 1 = k := ⟨_, rfl⟩
  rw [hk]
  have hp := parts_pos n
  have h1 := best_ge (parts n) sx
  obtain ⟨q, r, e⟩ : ∃ q r, (parts n).drop k = q :: r := by
    cases hd : (parts n).drop k with
    | nil => have := congrArg List.length hd; simp at this; omega
    | cons q r => exact ⟨q, r, rfl⟩
  have hq : q ∈ parts n := List.mem_of_mem_drop (by rw [e]; simp)
  have hl := lab_pos ((dom_len h).2 q hq)
  rw [e]
  cases r with
  | nil => intro e2; simp [Oct.join] at e2; subst e2; simp at hl
  | cons q2 r => simp [Oct.join]
theorem site_len (n : List UInt8) (sx : List (List UInt8)) : (siteN n sx).length ≤ n.length := by
  rcases site_end n sx with e | ⟨pre, e⟩
  · rw [e]; exact Nat.le_refl _
  · have := congrArg List.length e
    simp at this; omega
/-- A label ahead changes no site, if no suffix is as long as all of the host. -/
theorem site_more (p n : List UInt8) (sx : List (List UInt8)) (hw : ∀ s ∈ sx, (parts s).length < (parts n).length) (hp : (parts (p ++ 46 :: n)).length = (parts n).length + 1) (h3 : ¬ (siteN n sx = n ∧ (parts (p ++ 46 :: n)).length < 3)) :
    siteN (p ++ 46 :: n) sx = siteN n sx := by
  have hs : parts (p ++ 46 :: n) = parts p ++ parts n := by
    have := Oct.split_glue (fun x => x == 46) p n 46 rfl
    rw [List.append_assoc] at this
    exact this
  have hl := parts_pos n
  have h1 := best_ge (parts n) sx
  have hd : (parts p ++ parts n).drop 1 = parts n := by
    rw [hs, List.length_append] at hp
    have h1p : (parts p).length = 1 := by omega
    rw [← h1p, List.drop_left]
  have hlen : (parts p ++ parts n).length = (parts n).length + 1 := by rw [← hs]; exact hp
  have hbe : bestN (parts p ++ parts n) sx = bestN (parts n) sx := by
    have hh : ∀ s ∈ sx, hitB (parts n) (parts s) = hitB (parts p ++ parts n) (parts s) := fun s hs => by
      have := hit_drop (ls := parts p ++ parts n) (ks := parts s) 1 (by have := hw s hs; omega)
      rwa [hd] at this
    apply Nat.le_antisymm
    · exact best_le_of _ _ _ _ (fun s hs hx => ⟨s, hs, by rw [hh s hs]; exact hx, Nat.le_refl _⟩)
    · exact best_le_of _ _ _ _ (fun s hs hx => ⟨s, hs, by rw [← hh s hs]; exact hx, Nat.le_refl _⟩)
  have hB : bestN (parts n) sx < (parts n).length ∨ (parts n).length = 1 := by
    rcases best_one (parts n) sx with e | ⟨s, hs, _, e⟩
    · rw [e]; omega
    · rw [e]; exact .inl (hw s hs)
  rcases hB with hB | hB
  · unfold siteN
    rw [hs, hbe, hlen, show (parts n).length + 1 - bestN (parts n) sx - 1 = 1 + ((parts n).length - bestN (parts n) sx - 1) by omega, ← List.drop_drop, hd]
  · exfalso
    apply h3
    refine ⟨?_, by omega⟩
    unfold siteN
    rw [show (parts n).length - bestN (parts n) sx - 1 = 0 by omega, List.drop_zero, join_parts]
end Go.Proofs.YtinjkpbpkedfnaaGreatDoor

/- The contract of the document's Text. -/

namespace Go.Proofs.YtinjkpbpkedfnaaGreatDoor
open Go.RowKit

theorem and255i (x : Int) (h0 : 0 ≤ x) (h1 : x ≤ 4294967295) : bits .and .i64 x 255 = x % 256 := by
  obtain ⟨n, rfl⟩ := Int.eq_ofNat_of_zero_le h0
  have of64 : ∀ m : Nat, m < 4294967296 → (BitVec.ofInt 64 (m : Int)).toNat = m := fun m hm => by
    rw [BitVec.ofInt_natCast, BitVec.toNat_ofNat]; exact Nat.mod_eq_of_lt (by omega)
  have e : n &&& 255 = n % 256 := by
    have := Nat.and_two_pow_sub_one_eq_mod n 8
    simpa using this
  show IntKind.i64.wrap ((BitVec.ofInt 64 (n : Int) &&& BitVec.ofInt 64 ((255 : Nat) : Int)).toNat : Int) = _
  rw [BitVec.toNat_and, of64 n (by omega), of64 255 (by omega), e, IntKind.wrap_i64]
  omega

theorem text_size (z : ByteArray) (l : List UInt8) (hz : z = ⟨l.toArray⟩) (hl : l.length ≤ 3) : z.size ≤ 3 := by
  rw [hz]; simpa [ByteArray.size] using hl
theorem size_dot : (⟨#[46]⟩ : ByteArray).size = 1 := rfl
/-- What a round keeps: the text gathered so far. -/
structure RtInv (w wr : World) (a : Int) (k : Nat) (t : ByteArray) : Prop where
  bel : Below w.heap.size w wr
  txt : t.data.toList = Oct.join 46 ((quad a).take k)
  box : ∃ n, HoBox wr w.heap.size n true a

set_option maxHeartbeats 1000000 in
theorem rtext_any (n : ByteArray) (b : Bool) (a : Int) (w : World) (hT : Tab w) (a0 : 0 ≤ a) (a1 : a ≤ 4294967295) : Calls Tryz.prog 78 #[.agg #[.string n, .bool b, .int .u32 a]] w fun e w' => e = .returned (.string ⟨(textL ⟨n.data.toList, b, a⟩).toArray⟩) ∧ Below w.heap.size w w' := by
  cases b with
  | false =>
    go_enter Tryz.func78, Tryz.ntmps78
    go_wp2_with fail
    go_ret
    exact ⟨rfl, (Below.refl _ _).alloc (Nat.le_refl _) _⟩
  | true =>
    go_enter Tryz.func78, Tryz.ntmps78
    go_wp2_with fail
    go_loopw [3, 4] (fun v i wr => ∃ k : Nat, ∃ t : ByteArray, k ≤ 4 ∧ i = .int .i64 k ∧ v = .string t ∧ t.size ≤ 4 * k ∧ RtInv w wr a k t) (fun _ i _ => 4 - (intOf i).toNat)
    case atStart => exact ⟨0, ⟨#[]⟩, by omega, rfl, rfl, by decide, (Below.refl _ _).alloc (Nat.le_refl _) _, rfl, n, HoBox.new w n true a⟩
    case round =>
      obtain ⟨k, t, hk, rfl, rfl, hts, hin⟩ := hrel
      obtain ⟨hbel, htx, n', hbox⟩ := hin
      have c2 := hbox.c2
      have hTr := Lib.hid (hT.below hbel)
      by_cases hlt : k < 4
      · have h : k = 0 ∨ k = 1 ∨ k = 2 ∨ k = 3 := by omega
        rcases h with rfl | rfl | rfl | rfl
        · rw [show ((0 : Nat) : Int) = 0 from rfl]
          have hl := itoa_len (a / 16777216) (by omega) (by omega)
          have hsz := text_size (⟨(Lib.itoa (a / 16777216)).toArray⟩ : ByteArray) _ rfl hl
          go_wp2_with fail
          rw [and255i (a / 16777216) (by omega) (by omega), show a / 16777216 % 256 = a / 16777216 by omega]
          refine (itoa_any _ wr (by omega) (by omega) hTr.out).mono ?_
          rintro e w1 ⟨rfl, hb1⟩
          obtain ⟨z, hz⟩ : ∃ z : ByteArray, z = ⟨(Lib.itoa (a / 16777216)).toArray⟩ := ⟨_, rfl⟩
          rw [← hz] at hsz ⊢
          have HZ := Lib.hid hz
          clear hz hl
          go_wp2_with fail
          go_roundw
          case rel => exact ⟨1, _, by omega, rfl, rfl, by simp only [ByteArray.size_append]; omega, hbel.trans (hb1.mono hbel.size), by rw [HZ.out]; simp [htx, quad, quadI, Oct.join], n', hbox.below hb1 hbox.lt⟩
          case measure => simp [intOf]
        · rw [show ((1 : Nat) : Int) = 1 from rfl]
          have hl := itoa_len (a / 65536 % 256) (by omega) (by omega)
          have hsz := text_size (⟨(Lib.itoa (a / 65536 % 256)).toArray⟩ : ByteArray) _ rfl hl
          go_wp2_with fail
          rw [and255i (a / 65536) (by omega) (by omega)]
          refine (itoa_any _ wr (by omega) (by omega) hTr.out).mono ?_
          rintro e w1 ⟨rfl, hb1⟩
          obtain ⟨z, hz⟩ : ∃ z : ByteArray, z = ⟨(Lib.itoa (a / 65536 % 256)).toArray⟩ := ⟨_, rfl⟩
          rw [← hz] at hsz ⊢
          have HZ := Lib.hid hz
          clear hz hl
          go_wp2_with fail
          go_roundw
          case rel => exact ⟨2, _, by omega, rfl, rfl, by simp only [ByteArray.size_append, size_dot]; omega, hbel.trans (hb1.mono hbel.size), by rw [HZ.out]; simp [htx, quad, quadI, Oct.join], n', hbox.below hb1 hbox.lt⟩
          case measure => simp [intOf]
        · rw [show ((2 : Nat) : Int) = 2 from rfl]
          have hl := itoa_len (a / 256 % 256) (by omega) (by omega)
          have hsz := text_size (⟨(Lib.itoa (a / 256 % 256)).toArray⟩ : ByteArray) _ rfl hl
          go_wp2_with fail
          rw [and255i (a / 256) (by omega) (by omega)]
          refine (itoa_any _ wr (by omega) (by omega) hTr.out).mono ?_
          rintro e w1 ⟨rfl, hb1⟩
          obtain ⟨z, hz⟩ : ∃ z : ByteArray, z = ⟨(Lib.itoa (a / 256 % 256)).toArray⟩ := ⟨_, rfl⟩
          rw [← hz] at hsz ⊢
          have HZ := Lib.hid hz
          clear hz hl
          go_wp2_with fail
          go_roundw
          case rel => exact ⟨3, _, by omega, rfl, rfl, by simp only [ByteArray.size_append, size_dot]; omega, hbel.trans (hb1.mono hbel.size), by rw [HZ.out]; simp [htx, quad, quadI, Oct.join], n', hbox.below hb1 hbox.lt⟩
          case measure => simp [intOf]
        · rw [show ((3 : Nat) : Int) = 3 from rfl]
          have hl := itoa_len (a % 256) (by omega) (by omega)
          have hsz := text_size (⟨(Lib.itoa (a % 256)).toArray⟩ : ByteArray) _ rfl hl
          go_wp2_with fail
          rw [and255i (a) (by omega) (by omega)]
          refine (itoa_any _ wr (by omega) (by omega) hTr.out).mono ?_
          rintro e w1 ⟨rfl, hb1⟩
          obtain ⟨z, hz⟩ : ∃ z : ByteArray, z = ⟨(Lib.itoa (a % 256)).toArray⟩ := ⟨_, rfl⟩
          rw [← hz] at hsz ⊢
          have HZ := Lib.hid hz
          clear hz hl
          go_wp2_with fail
          go_roundw
          case rel => exact ⟨4, _, by omega, rfl, rfl, by simp only [ByteArray.size_append, size_dot]; omega, hbel.trans (hb1.mono hbel.size), by rw [HZ.out]; simp [htx, quad, quadI, Oct.join], n', hbox.below hb1 hbox.lt⟩
          case measure => simp [intOf]
      · obtain rfl : k = 4 := by omega
        have hfin : t = ⟨(textL ⟨n.data.toList, true, a⟩).toArray⟩ := by
          cases t
          congr 1
          apply Array.toList_inj.1
          simpa [textL, quad, quadI] using htx
        subst hfin
        go_wp2_with fail
        go_ret
        exact ⟨rfl, hbel⟩
end Go.Proofs.YtinjkpbpkedfnaaGreatDoor
