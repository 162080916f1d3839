/- Texts of one layer, joined. -/
import Derived.Test.YtogjekjklknfeaaGreatDoorPkRead
import Derived.Test.YtogjekjklknfeaaGreatDoorShelf
import Derived.Test.YtogjekjklknfeaaGreatDoorPkOct
import Derived.Laws.BitsAll
import Derived.Lib.SmallJoins
import Derived.Lib.Repeat
import Derived.Laws.IdiomStrings
import Derived.Deep.LoopGhost
import Derived.Maps.AppendAt
import Derived.Test.YtogjekjklknfeaaGreatDoorPkSfm

/- The contracts of a reader's token, sequence, truth and key. -/

namespace Go.Proofs.YtogjekjklknfeaaGreatDoor
open Go.RowKit Go.Shelf

/-- What a reading call comes to: a value, and what is left; or the panic. -/
def Got (b : Nat) (w : World) (o : Option (Value × List UInt8)) (e : Ending) (w' : World) : Prop :=
  w.grownBy w' (some b) ∧ ((∃ v r, o = some (v, r) ∧ e = .returned v ∧ Rd b r w') ∨ (o = none ∧ e = .panicked [fault]))
theorem Got.ok {b : Nat} {w w' : World} {v : Value} {r : List UInt8} (hg : w.grownBy w' (some b)) (hr : Rd b r w') : Got b w (some (v, r)) (.returned v) w' := ⟨hg, .inl ⟨v, r, rfl, rfl, hr⟩⟩
theorem Got.no {b : Nat} {w w' : World} (hg : w.grownBy w' (some b)) : Got b w none (.panicked [fault]) w' := ⟨hg, .inr ⟨rfl, rfl⟩⟩
theorem Rd.alloc {b : Nat} {s : List UInt8} {w : World} (h : Rd b s w) (o : Obj) : Rd b s (w.alloc o) := Boxed.alloc h o
theorem Rd.lt {b : Nat} {s : List UInt8} {w : World} (h : Rd b s w) : b < w.heap.size := Boxed.lt h

theorem Rd.kept {b : Nat} {s : List UInt8} {w w' : World} {row : Option Nat} (h : Rd b s w) (hg : w.grownBy w' row) (hne : some b ≠ row) : Rd b s w' := Boxed.kept h hg hne
theorem Rd.other {b C i : Nat} {s : List UInt8} {w : World} {v : Value} (h : Rd b s w) (hne : C ≠ b) : Rd b s (w.setCell ⟨C, i, none⟩ v) := CBox.other h hne
theorem Rd.other3 {b C : Nat} {s : List UInt8} {w : World} (h : Rd b s w) (hne : C ≠ b) (x y z : Value) : Rd b s (set3 w C x y z) := CBox.other3 h hne x y z
theorem Rd.other4 {b C : Nat} {s : List UInt8} {w : World} (h : Rd b s w) (hne : C ≠ b) (x y z u : Value) : Rd b s (set4 w C x y z u) := CBox.other4 h hne x y z u

/-- The zero value, where a result is to lie. -/
def zC : Array Value := #[.int .i64 0, .int .i64 0, .string ⟨#[]⟩]
set_option maxHeartbeats 400000 in
theorem token_any (b : Nat) (s : List UInt8) (w : World) (hR : Rd b s w) (hs : s.length ≤ 140737488355328) : Calls Tryz.prog 131 #[.pointer (some ⟨b, 0, none⟩)] w (Got b w (some (valV (Sf.kv 4 0 (Sf.tw Sf.tokI s)), Sf.dw Sf.tokI s))) := by
  have hlt := hR.lt
  have H := Lib.hid (take_any _ _ tellsTok b s _ (hR.alloc (.cells zC 65)) hs)
  have hb := Lib.hid (CBox.new w 65 zC)
  clear hR
  go_enter Tryz.func131, Tryz.ntmps131
  go_wp2_with fail
  refine H.out.mono ?_
  rintro e w1 ⟨rfl, hr, hg⟩
  have hb1 := hb.out.kept hg (by simp; omega)
  obtain ⟨c0, c1, c2, f0, f1, f2⟩ := hb1.all3
  have hG := Lib.hid (g_trans (World.grownBy_alloc w _ _) hg)
  have HB := Lib.hid hb1
  clear hg hb hb1
  go_wp2_with fail
  refine bodyPost_ret (results_val (x := Sf.kv 4 0 (Sf.tw Sf.tokI s)) rfl _ _ rfl (HB.out.set3 _ _ _)) rfl (Got.ok ?_ ?_)
  · exact g_set3 hG.out _ _ _ (.inl (Nat.le_refl _))
  · exact hr.other3 (by omega) _ _ _

theorem truthV_any (n : Int) (w : World) : Calls Tryz.prog 69 #[.int .i64 n] w fun e w' => e = .returned (valV (Sf.kv 6 n [])) ∧ Below w.heap.size w w' := by
  go_enter Tryz.func69, Tryz.ntmps69
  go_wp2
  refine bodyPost_ret (results_val (x := Sf.kv 6 n []) rfl _ _ rfl (CBox.new w _ _)) rfl ⟨rfl, ?_⟩
  exact (Below.refl _ _).alloc (Nat.le_refl _) _
/-- What stands behind a colon. -/
def seqOf (r : List UInt8) : Option (Sf.Par × List UInt8) := if (Sf.dw Sf.baseI r).headD 0 = 58 then some (Sf.kv 5 0 (Sf.tw Sf.baseI r), (Sf.dw Sf.baseI r).drop 1) else none
/-- What stands behind a question mark. -/
def truOf (r : List UInt8) : Option (Sf.Par × List UInt8) := if r.headD 0 = 48 then some (Sf.kv 6 0 [], r.drop 1) else if r.headD 0 = 49 then some (Sf.kv 6 1 [], r.drop 1) else none
def mapV (o : Option (Sf.Par × List UInt8)) : Option (Value × List UInt8) := o.map fun x => (valV x.1, x.2)
theorem ne_byte {d : UInt8} {c : Nat} (h : ¬ d.toNat = c) : ¬ (d.toNat : Int) = (c : Int) := by omega

set_option maxHeartbeats 400000 in
theorem sequence_any (b : Nat) (r : List UInt8) (w : World) (hR : Rd b (58 :: r) w) (hs : r.length ≤ 140737488355327) : Calls Tryz.prog 132 #[.pointer (some ⟨b, 0, none⟩)] w (Got b w (mapV (seqOf r))) := by
  have hlt := hR.lt
  have H := Lib.hid (skip_yes b 58 58 rfl r _ (hR.alloc (.cells zC 65)))
  have hb := Lib.hid (CBox.new w 65 zC)
  clear hR
  obtain ⟨o, ho⟩ : ∃ o, mapV (seqOf r) = o := ⟨_, rfl⟩
  rw [ho]
  have HO := Lib.hid ho
  clear ho
  go_enter Tryz.func132, Tryz.ntmps132
  go_wp2_with fail
  refine H.out.mono ?_
  rintro e w1 ⟨rfl, hR1, hg1⟩
  have H2 := Lib.hid (take_any _ _ tellsBase b r w1 hR1 (by omega))
  clear hR1
  go_wp2_with fail
  refine H2.out.mono ?_
  rintro e w2 ⟨rfl, hR2, hg2⟩
  have hb1 := Lib.hid (hb.out.kept (g_trans hg1 hg2) (by simp; omega))
  have hg := Lib.hid (g_trans (World.grownBy_alloc w _ _) (g_trans hg1 hg2))
  clear hg1 hg2 hb
  cases hd : Sf.dw Sf.baseI r with
  | nil =>
    rw [hd] at hR2
    have H3 := Lib.hid (skip_nil b 58 w2 hR2)
    have hn : o = none := by rw [← HO.out]; simp [seqOf, mapV, hd]
    have HN := Lib.hid hn
    clear hn hR2 hd
    go_wp2_with (first | (go_at_call 109; refine H3.out.mono ?_; rintro e w3 ⟨rfl, rfl⟩) | (go_at_call 103; refine (need_no _).mono ?_; rintro e w3 ⟨rfl, rfl⟩))
    refine ⟨rfl, ?_⟩
    rw [HN.out]
    exact Got.no hg.out
  | cons d t =>
    rw [hd] at hR2
    by_cases h58 : d = 58
    · subst h58
      have H3 := Lib.hid (skip_yes b 58 58 rfl t w2 hR2)
      have hn : o = some (valV (Sf.kv 5 0 (Sf.tw Sf.baseI r)), t) := by rw [← HO.out]; simp [seqOf, mapV, hd]
      have HN := Lib.hid hn
      clear hn hR2 hd
      go_wp2_with fail
      refine H3.out.mono ?_
      rintro e w3 ⟨rfl, hr3, hg3⟩
      have hb3 := hb1.out.kept hg3 (by simp; omega)
      obtain ⟨c0, c1, c2, f0, f1, f2⟩ := hb3.all3
      have HB := Lib.hid hb3
      clear hb3
      go_wp2_with (go_at_call 103; refine (need_yes _).mono ?_; rintro e w4 ⟨rfl, rfl⟩)
      rw [HN.out]
      refine bodyPost_ret (results_val (x := Sf.kv 5 0 (Sf.tw Sf.baseI r)) rfl _ _ rfl (HB.out.set3 _ _ _)) rfl (Got.ok ?_ ?_)
      · exact g_set3 (g_trans hg.out hg3) _ _ _ (.inl (Nat.le_refl _))
      · exact hr3.other3 (by omega) _ _ _
    · have H3 := Lib.hid (skip_off b 58 d (ne_byte (c := 58) fun e => h58 (UInt8.toNat_inj.1 e)) t w2 hR2)
      have hn : o = none := by rw [← HO.out]; simp [seqOf, mapV, hd, h58]
      have HN := Lib.hid hn
      clear hn hR2 hd h58
      go_wp2_with (first | (go_at_call 109; refine H3.out.mono ?_; rintro e w3 ⟨rfl, rfl⟩) | (go_at_call 103; refine (need_no _).mono ?_; rintro e w3 ⟨rfl, rfl⟩))
      refine ⟨rfl, ?_⟩
      rw [HN.out]
      exact Got.no hg.out
end Go.Proofs.YtogjekjklknfeaaGreatDoor

/- The contracts of a reader's truth and key. -/

namespace Go.Proofs.YtogjekjklknfeaaGreatDoor
open Go.RowKit Go.Shelf

theorem byte_ne {d c : UInt8} (h : ¬ d = c) : ¬ (d.toNat : Int) = (c.toNat : Int) := fun e => h (UInt8.toNat_inj.1 (by omega))

set_option maxHeartbeats 400000 in
theorem truth_any (b : Nat) (r : List UInt8) (w : World) (hR : Rd b (63 :: r) w) : Calls Tryz.prog 133 #[.pointer (some ⟨b, 0, none⟩)] w (Got b w (mapV (truOf r))) := by
  have hlt := hR.lt
  have H := Lib.hid (skip_yes b 63 63 rfl r _ (hR.alloc (.cells zC 65)))
  have hb := Lib.hid (CBox.new w 65 zC)
  clear hR
  obtain ⟨o, ho⟩ : ∃ o, mapV (truOf r) = o := ⟨_, rfl⟩
  rw [ho]
  have HO := Lib.hid ho
  clear ho
  go_enter Tryz.func133, Tryz.ntmps133
  go_wp2_with fail
  refine H.out.mono ?_
  rintro e w2 ⟨rfl, hR2, hg1⟩
  have hb1 := Lib.hid (hb.out.kept hg1 (by simp; omega))
  have hg := Lib.hid (g_trans (World.grownBy_alloc w _ _) hg1)
  clear hg1 hb
  cases r with
  | nil =>
    have H3 := Lib.hid (skip_nil b 49 w2 hR2)
    have H4 := Lib.hid (skip_nil b 48 w2 hR2)
    have hn : o = none := by rw [← HO.out]; simp [truOf, mapV]
    have HN := Lib.hid hn
    clear hn hR2
    go_wp2_with fail
    refine H3.out.mono ?_
    rintro e w3 ⟨rfl, rfl⟩
    go_wp2_with fail
    refine H4.out.mono ?_
    rintro e w3 ⟨rfl, rfl⟩
    go_wp2_with (go_at_call 103; refine (need_no _).mono ?_; rintro e w3 ⟨rfl, rfl⟩)
    refine ⟨rfl, ?_⟩
    rw [HN.out]
    exact Got.no hg.out
  | cons d t =>
    by_cases h49 : d = 49
    · subst h49
      have H3 := Lib.hid (skip_yes b 49 49 rfl t w2 hR2)
      have hn : o = some (valV (Sf.kv 6 1 []), t) := by rw [← HO.out]; simp [truOf, mapV]
      have HN := Lib.hid hn
      clear hn hR2
      go_wp2_with fail
      refine H3.out.mono ?_
      rintro e w3 ⟨rfl, hr3, hg3⟩
      go_wp2_with fail
      refine (truthV_any 1 w3).mono ?_
      rintro e w4 ⟨rfl, hb4⟩
      have hG := Lib.hid (g_below (g_trans hg.out hg3) hb4)
      have hr4 := Lib.hid (hr3.kept (g_below (g_refl _ none) hb4) (by simp))
      have hb3 := (hb1.out.kept hg3 (by simp; omega)).keep hb4
      obtain ⟨c0, c1, c2, f0, f1, f2⟩ := hb3.all3
      have HB := Lib.hid hb3
      clear hb3 hr3 hg3 hb4
      unfold valV vC
      go_wp2_with fail
      rw [HN.out]
      refine bodyPost_ret (results_val (x := Sf.kv 6 1 []) rfl _ _ rfl (HB.out.set3 _ _ _)) rfl (Got.ok ?_ ?_)
      · exact g_set3 hG.out _ _ _ (.inl (Nat.le_refl _))
      · exact hr4.out.other3 (by omega) _ _ _
    · have H3 := Lib.hid (skip_off b 49 d (byte_ne (c := 49) h49) t w2 hR2)
      by_cases h48 : d = 48
      · subst h48
        have H4 := Lib.hid (skip_yes b 48 48 rfl t w2 hR2)
        have hn : o = some (valV (Sf.kv 6 0 []), t) := by rw [← HO.out]; simp [truOf, mapV]
        have HN := Lib.hid hn
        clear hn hR2 h49
        go_wp2_with fail
        refine H3.out.mono ?_
        rintro e w3 ⟨rfl, rfl⟩
        go_wp2_with fail
        refine H4.out.mono ?_
        rintro e w3 ⟨rfl, hr3, hg3⟩
        go_wp2_with (go_at_call 103; refine (need_yes _).mono ?_; rintro e w4 ⟨rfl, rfl⟩)
        refine (truthV_any 0 w3).mono ?_
        rintro e w4 ⟨rfl, hb4⟩
        have hG := Lib.hid (g_below (g_trans hg.out hg3) hb4)
        have hr4 := Lib.hid (hr3.kept (g_below (g_refl _ none) hb4) (by simp))
        have hb3 := (hb1.out.kept hg3 (by simp; omega)).keep hb4
        obtain ⟨c0, c1, c2, f0, f1, f2⟩ := hb3.all3
        have HB := Lib.hid hb3
        clear hb3 hr3 hg3 hb4
        unfold valV vC
        go_wp2_with fail
        rw [HN.out]
        refine bodyPost_ret (results_val (x := Sf.kv 6 0 []) rfl _ _ rfl (HB.out.set3 _ _ _)) rfl (Got.ok ?_ ?_)
        · exact g_set3 hG.out _ _ _ (.inl (Nat.le_refl _))
        · exact hr4.out.other3 (by omega) _ _ _
      · have H4 := Lib.hid (skip_off b 48 d (byte_ne (c := 48) h48) t w2 hR2)
        have hn : o = none := by rw [← HO.out]; simp [truOf, mapV, h48, h49]
        have HN := Lib.hid hn
        clear hn hR2 h48 h49
        go_wp2_with fail
        refine H3.out.mono ?_
        rintro e w3 ⟨rfl, rfl⟩
        go_wp2_with fail
        refine H4.out.mono ?_
        rintro e w3 ⟨rfl, rfl⟩
        go_wp2_with (go_at_call 103; refine (need_no _).mono ?_; rintro e w3 ⟨rfl, rfl⟩)
        refine ⟨rfl, ?_⟩
        rw [HN.out]
        exact Got.no hg.out

def mapK (o : Option (List UInt8 × List UInt8)) : Option (Value × List UInt8) := o.map fun x => (.string (bA x.1), x.2)
theorem key1_is (c : Int) : Sf.key1I c = (lowI c || c == 42) := rfl
theorem key1_key {c : Int} (h : Sf.key1I c = true) : Sf.keyI c = true := by unfold Sf.keyI; rw [h]; rfl
theorem key_is {c : UInt8} {r : List UInt8} (h : Sf.key1I c.toNat = true) : mapK (Sf.keyOf (c :: r)) = some (.string (bA (Sf.tw Sf.keyI (c :: r))), Sf.dw Sf.keyI (c :: r)) := by
  have e1 : Sf.tw Sf.keyI (c :: r) = c :: Sf.tw Sf.keyI r := by simp [Sf.tw, key1_key h]
  have e2 : Sf.dw Sf.keyI (c :: r) = Sf.dw Sf.keyI r := by simp [Sf.dw, key1_key h]
  rw [e1, e2]
  simp [mapK, Sf.keyOf, h]
set_option maxHeartbeats 400000 in
theorem key_any (b : Nat) (s : List UInt8) (w : World) (hR : Rd b s w) (hs : s.length ≤ 140737488355328) : Calls Tryz.prog 80 #[.pointer (some ⟨b, 0, none⟩)] w (Got b w (mapK (Sf.keyOf s))) := by
  cases s with
  | nil =>
    have H := Lib.hid (first_no b w hR)
    clear hR
    go_enter Tryz.func80, Tryz.ntmps80
    go_wp2_with (go_at_call 105; refine H.out.mono ?_; rintro e w3 ⟨rfl, rfl⟩)
    exact ⟨rfl, Got.no (g_refl _ _)⟩
  | cons c r =>
    have H := Lib.hid (first_yes b c r w hR)
    cases hk : Sf.key1I c.toNat with
    | true =>
      have HK := Lib.hid (key_is (r := r) hk)
      have HT := Lib.hid (take_any _ _ tellsKey b (c :: r) w hR hs)
      rw [key1_is] at hk
      obtain ⟨o, ho⟩ : ∃ o, mapK (Sf.keyOf (c :: r)) = o := ⟨_, rfl⟩
      rw [ho] at HK ⊢
      have HL := Lib.hid (isLower_any c.toNat w)
      obtain ⟨a, ha⟩ : ∃ a, lowI c.toNat = a := ⟨_, rfl⟩
      rw [ha] at HL hk
      clear ha ho hR
      cases a with
      | true =>
        clear hk
        go_enter Tryz.func80, Tryz.ntmps80
        go_wp2_with (first | (go_at_call 105; refine H.out.mono ?_; rintro e w3 ⟨rfl, rfl⟩) | (go_at_call 104; refine HL.out.mono ?_; rintro e w3 ⟨rfl, rfl⟩) | (go_at_call 103; refine (need_yes _).mono ?_; rintro e w3 ⟨rfl, rfl⟩) | (go_at_call 106; refine HT.out.mono ?_; rintro e w3 ⟨rfl, hr, hg⟩))
        go_ret
        rw [HK.out]
        exact Got.ok hg hr
      | false =>
        have h42 : ((c.toNat : Int) == 42) = true := by simpa using hk
        clear hk
        go_enter Tryz.func80, Tryz.ntmps80
        go_wp2_with (first | (go_at_call 105; refine H.out.mono ?_; rintro e w3 ⟨rfl, rfl⟩) | (go_at_call 104; refine HL.out.mono ?_; rintro e w3 ⟨rfl, rfl⟩) | (go_at_call 103; refine (need_yes _).mono ?_; rintro e w3 ⟨rfl, rfl⟩) | (go_at_call 106; refine HT.out.mono ?_; rintro e w3 ⟨rfl, hr, hg⟩))
        go_ret
        rw [HK.out]
        exact Got.ok hg hr
    | false =>
      have hn : mapK (Sf.keyOf (c :: r)) = none := by simp [mapK, Sf.keyOf, hk]
      rw [hn]
      rw [key1_is] at hk
      simp only [Bool.or_eq_false_iff] at hk
      obtain ⟨h1, h42⟩ := hk
      have HL := Lib.hid (isLower_any c.toNat w)
      rw [h1] at HL
      clear h1 hR hn
      go_enter Tryz.func80, Tryz.ntmps80
      go_wp2_with (first | (go_at_call 105; refine H.out.mono ?_; rintro e w3 ⟨rfl, rfl⟩) | (go_at_call 104; refine HL.out.mono ?_; rintro e w3 ⟨rfl, rfl⟩) | (go_at_call 103; refine (need_no _).mono ?_; rintro e w3 ⟨rfl, rfl⟩))
      exact ⟨rfl, Got.no (g_refl _ _)⟩
end Go.Proofs.YtogjekjklknfeaaGreatDoor

/- The library's Itoa. -/

namespace Go.Proofs.YtogjekjklknfeaaGreatDoor
open Go.RowKit

/-- The library's table of powers of ten is what it is. -/
def Tab (w : World) : Prop := Lib.TabIs Tryz.prog w "internal/strconv.uint64pow10" .u64 Lib.pow10Tab
theorem Tab.below {w w' : World} (h : Tab w) (hb : Below w.heap.size w w') : Tab w' := by
  unfold Tab Lib.TabIs World.var? at *
  cases hg : Tryz.prog.globalNamed "internal/strconv.uint64pow10" with
  | none => rw [hg] at h; cases h
  | some g =>
    rw [hg] at h
    simp only [Option.bind_some] at h ⊢
    have hlt : g < w.heap.size := by
      rcases Nat.lt_or_ge g w.heap.size with hlt | hge
      · exact hlt
      · rw [Array.getElem?_eq_none hge] at h; cases h
    rw [hb.block g hlt]; exact h
theorem below_grow (w : World) (k : Nat) (os : Array Obj) : Below w.heap.size w (Go.Sort.grow (w.drewN k) os) := by
  refine ⟨rfl, rfl, rfl, ?_, fun i hi => ?_⟩
  · show w.heap.size ≤ (w.heap ++ os).size
    simp
  · show (w.heap ++ os)[i]? = w.heap[i]?
    rw [Array.getElem?_append_left hi]
theorem itoa_all (n : Int) (w : World) (h0 : -9223372036854775808 ≤ n) (h1 : n ≤ 9223372036854775807) (hT : Tab w) : Calls Tryz.prog 85 #[.int .i64 n] w fun e w' => e = .returned (.string (bA (Lib.itoa n))) ∧ Below w.heap.size w w' :=
  (Tryz.strconv_Itoa n h0 h1 w hT).mono (by rintro e w' ⟨rfl, k, os, rfl⟩; exact ⟨rfl, below_grow w k os⟩)
end Go.Proofs.YtogjekjklknfeaaGreatDoor

/- The contract of a reader's number. -/


namespace Go.Proofs.YtogjekjklknfeaaGreatDoor
open Go.RowKit Go.Shelf

theorem decFrom_val (l : List UInt8) (h : Oct.allB Oct.digitI l = true) : ∀ acc : Nat, ∃ m : Nat, Lib.decFrom acc l = some m ∧ (m : Int) = l.foldl (fun n b => 10 * n + ((b.toNat : Int) - 48)) (acc : Int) := by
  induction l with
  | nil => intro acc; exact ⟨acc, rfl, rfl⟩
  | cons c r ih =>
    intro acc
    simp only [Oct.allB, List.all_cons, Bool.and_eq_true] at h
    have hc := h.1
    simp only [Oct.digitI, Bool.and_eq_true, decide_eq_true_eq] at hc
    have e : Lib.digitVal c = some (c.toNat - 48) := by unfold Lib.digitVal; rw [if_pos (by omega)]
    obtain ⟨m, h1, h2⟩ := ih h.2 (acc * 10 + (c.toNat - 48))
    refine ⟨m, by rw [Lib.decFrom, e]; exact h1, ?_⟩
    rw [h2, List.foldl_cons]
    congr 1
    omega
theorem atoi_val {l : List UInt8} (h : Oct.allB Oct.digitI l = true) (h0 : 0 < l.length) : Lib.atoi l = some (Oct.val l) := by
  obtain ⟨m, h1, h2⟩ := decFrom_val l h 0
  cases l with
  | nil => simp at h0
  | cons c r =>
    have hc : Oct.digitI c.toNat = true := by simp [Oct.allB] at h; exact h.1
    simp only [Oct.digitI, Bool.and_eq_true, decide_eq_true_eq] at hc
    have n45 : (c == 45) = false := by rw [beq_eq_false_iff_ne]; intro e; subst e; simp at hc
    have n43 : (c == 43) = false := by rw [beq_eq_false_iff_ne]; intro e; subst e; simp at hc
    have hd : Lib.decNat (c :: r) = some m := by unfold Lib.decNat; exact h1
    rw [Lib.atoi, n45, n43, hd]
    simp only [Bool.false_eq_true, if_false, Option.map_some, Option.some.injEq]
    exact h2
theorem atoi_any {l : List UInt8} (h : Oct.allB Oct.digitI l = true) (h0 : 0 < l.length) (h1 : l.length ≤ 18) (w : World) : Calls Tryz.prog 148 #[.string (bA l)] w fun e w' => e = .returned (.tuple #[.int .i64 (Oct.val l), .nilIface]) ∧ Below w.heap.size w w' := by
  refine (Tryz.strconv_Atoi (bA l) (Oct.val l) h1 (atoi_val h h0) w).mono ?_
  rintro e w' ⟨rfl, t, rfl⟩
  exact ⟨rfl, Joins.below_bytesWorld _ w _ t (Nat.le_refl _)⟩
theorem repeatL_zeros (k : Nat) : Lib.repeatL [48] k = List.replicate k 48 := by
  induction k with
  | zero => rfl
  | succ k ih => rw [Lib.repeatL, ih]; rfl
theorem repeat_any (k : Nat) (hk : k ≤ 4) (ki : Int) (hki : ki = k) (w : World) : Calls Tryz.prog 124 #[.string ⟨#[48]⟩, .int .i64 ki] w fun e w' => e = .returned (.string (bA (List.replicate k 48))) ∧ Below w.heap.size w w' := by
  subst hki
  refine (Tryz.strings_Repeat ⟨#[48]⟩ k w (by omega) (by show 1 * k ≤ _; omega)).mono ?_
  rintro e w' ⟨rfl, hb⟩
  exact ⟨by rw [show (⟨#[48]⟩ : ByteArray).data.toList = [48] from rfl, repeatL_zeros], hb⟩
theorem val_zeros (l : List UInt8) (k : Nat) : Oct.val (l ++ List.replicate k 48) = Oct.val l * 10 ^ k := by
  rw [Sf.val_app, List.length_replicate]
  have : Oct.val (List.replicate k 48) = 0 := by
    induction k with
    | zero => rfl
    | succ k ih => rw [List.replicate_succ', Oct.val_snoc, ih]; rfl
  rw [this]; omega

theorem need_yes' {x : Bool} (h : x = true) (w : World) : Calls Tryz.prog 103 #[.bool x] w fun e w' => e = .returned (.tuple #[]) ∧ w = w' := by subst h; exact need_yes w
theorem need_no' {x : Bool} (h : x = false) (w : World) : Calls Tryz.prog 103 #[.bool x] w fun e w' => e = .panicked [fault] ∧ w = w' := by subst h; exact need_no w
/-- A byte is taken off, if it stands there. -/
def Skip (b : Nat) (c : UInt8) (s : List UInt8) (w : World) (e : Ending) (w' : World) : Prop := ∃ g s', e = .returned (.bool g) ∧ Rd b s' w' ∧ w.grownBy w' (some b) ∧ Hid ((g = true ∧ s = c :: s') ∨ (g = false ∧ s' = s ∧ s.head? ≠ some c))
theorem skip_all (b : Nat) (ci : Int) (c : UInt8) (hci : ci = (c.toNat : Int)) (s : List UInt8) (w : World) (hR : Rd b s w) : Calls Tryz.prog 109 #[.pointer (some ⟨b, 0, none⟩), .int .u8 ci] w (Skip b c s w) := by
  cases s with
  | nil => exact (skip_nil b ci w hR).mono (by rintro e w' ⟨rfl, rfl⟩; exact ⟨false, [], rfl, hR, g_refl _ _, .inr ⟨rfl, rfl, by simp⟩⟩)
  | cons d t =>
    by_cases h : d = c
    · subst h
      exact (skip_yes b ci d hci t w hR).mono (by rintro e w' ⟨rfl, h1, h2⟩; exact ⟨true, t, rfl, h1, h2, .inl ⟨rfl, rfl⟩⟩)
    · exact (skip_off b ci d (by rw [hci]; exact byte_ne h) t w hR).mono (by rintro e w' ⟨rfl, rfl⟩; exact ⟨false, d :: t, rfl, hR, g_refl _ _, .inr ⟨rfl, rfl, by simpa using h⟩⟩)
end Go.Proofs.YtogjekjklknfeaaGreatDoor

/- The contract of a reader's number: the walk. -/

namespace Go.Proofs.YtogjekjklknfeaaGreatDoor
open Go.RowKit Go.Shelf

def sgn (g : Bool) : Int := if g then -1 else 1
/-- The number that a text begins with, its sign too. -/
def numOf (s : List UInt8) : Option (Sf.Par × List UInt8) := if s.head? = some 45 then Sf.num (-1) (s.drop 1) else Sf.num 1 s
theorem numOf_sgn {g : Bool} {s s' : List UInt8} (h : (g = true ∧ s = 45 :: s') ∨ (g = false ∧ s' = s ∧ s.head? ≠ some 45)) : numOf s = Sf.num (sgn g) s' := by
  rcases h with ⟨rfl, rfl⟩ | ⟨rfl, rfl, h⟩
  · simp [numOf, sgn]
  · simp [numOf, sgn, h]
theorem num_none {sg : Int} {s : List UInt8} (h : (Sf.tw Oct.digitI s).length = 0 ∨ 15 < (Sf.tw Oct.digitI s).length) : Sf.num sg s = none := by unfold Sf.num; rw [if_pos h]
theorem num_whole {sg : Int} {s : List UInt8} (h0 : (Sf.tw Oct.digitI s).length ≠ 0) (h1 : (Sf.tw Oct.digitI s).length ≤ 15) (h : (Sf.dw Oct.digitI s).head? ≠ some 46) : Sf.num sg s = some (Sf.kv 1 (sg * Oct.val (Sf.tw Oct.digitI s)) [], Sf.dw Oct.digitI s) := by
  unfold Sf.num
  have : (Sf.dw Oct.digitI s).headD 0 ≠ 46 := by
    cases hd : Sf.dw Oct.digitI s with
    | nil => simp
    | cons c r => rw [hd] at h; simpa using h
  rw [if_neg (by omega), if_neg this]
theorem num_bad {sg : Int} {s t : List UInt8} (h0 : (Sf.tw Oct.digitI s).length ≠ 0) (h1 : (Sf.tw Oct.digitI s).length ≤ 15) (h : Sf.dw Oct.digitI s = 46 :: t) (h2 : 12 < (Sf.tw Oct.digitI s).length ∨ (Sf.tw Oct.digitI t).length = 0 ∨ 3 < (Sf.tw Oct.digitI t).length) : Sf.num sg s = none := by
  unfold Sf.num
  rw [if_neg (by omega), h, if_pos (show (46 :: t).headD 0 = 46 from rfl), if_pos (by simp only [List.drop_succ_cons, List.drop_zero]; omega)]
theorem num_part {sg : Int} {s t : List UInt8} (h0 : (Sf.tw Oct.digitI s).length ≠ 0) (h1 : (Sf.tw Oct.digitI s).length ≤ 12) (h : Sf.dw Oct.digitI s = 46 :: t) (h2 : (Sf.tw Oct.digitI t).length ≠ 0) (h3 : (Sf.tw Oct.digitI t).length ≤ 3) :
    Sf.num sg s = some (Sf.kv 2 (sg * Oct.val (Sf.tw Oct.digitI s ++ Sf.tw Oct.digitI t ++ List.replicate (3 - (Sf.tw Oct.digitI t).length) 48)) [], Sf.dw Oct.digitI t) := by
  unfold Sf.num
  rw [if_neg (by omega), h, if_pos (show (46 :: t).headD 0 = 46 from rfl), if_neg (by simp only [List.drop_succ_cons, List.drop_zero]; omega), val_zeros]
  rfl
theorem digs_zeros {a b : List UInt8} (ha : Oct.allB Oct.digitI a = true) (hb : Oct.allB Oct.digitI b = true) (k : Nat) : Oct.allB Oct.digitI (a ++ b ++ List.replicate k 48) = true := by
  unfold Oct.allB at *
  simp only [List.all_append, ha, hb, Bool.true_and, List.all_eq_true]
  intro x hx
  rw [List.eq_of_mem_replicate hx]; rfl

set_option maxHeartbeats 1000000 in
theorem number_any (b : Nat) (s : List UInt8) (w : World) (hR : Rd b s w) (hs : s.length ≤ 140737488355328) : Calls Tryz.prog 128 #[.pointer (some ⟨b, 0, none⟩)] w (Got b w (mapV (numOf s))) := by
  have hlt := hR.lt
  have H := Lib.hid (skip_all b 45 45 rfl s _ (hR.alloc (.cells zC 65)))
  have hb := Lib.hid (CBox.new w 65 zC)
  clear hR
  obtain ⟨o, ho⟩ : ∃ o, mapV (numOf s) = o := ⟨_, rfl⟩
  rw [ho]
  have HO := Lib.hid ho
  clear ho
  go_enter Tryz.func128, Tryz.ntmps128
  go_wp2_with fail
  refine H.out.mono ?_
  rintro e w1 ⟨g, s', rfl, hR1, hg1, hs1⟩
  have hsl : s'.length ≤ 140737488355328 := by
    rcases hs1.out with ⟨_, h⟩ | ⟨_, h, _⟩
    · rw [h] at hs; simp at hs; omega
    · rw [h]; exact hs
  replace HO : Hid (mapV (Sf.num (sgn g) s') = o) := by rw [Hid, ← numOf_sgn hs1.out]; exact HO.out
  have H2 := Lib.hid (take_any _ _ tellsDigit b s' w1 hR1 hsl)
  clear hR1 hs1 H hs
  go_wp2_with fail
  refine H2.out.mono ?_
  rintro e w2 ⟨rfl, hR2, hg2⟩
  have hb2 := Lib.hid (hb.out.kept (g_trans hg1 hg2) (by simp; omega))
  have hg := Lib.hid (g_trans (World.grownBy_alloc w _ _) (g_trans hg1 hg2))
  clear hg1 hg2 hb H2
  have hlen : (Sf.dw Oct.digitI s').length ≤ s'.length := by
    have := congrArg List.length (Sf.tw_dw Oct.digitI s'); simp at this; omega
  obtain ⟨d, hd⟩ : ∃ d, Sf.tw Oct.digitI s' = d := ⟨_, rfl⟩
  obtain ⟨t, ht⟩ : ∃ t, Sf.dw Oct.digitI s' = t := ⟨_, rfl⟩
  have hda : Oct.allB Oct.digitI d = true := by rw [← hd]; exact Sf.tw_all _ _
  rw [ht] at hR2 hlen
  rw [hd]
  have HD := Lib.hid hd
  have HT := Lib.hid ht
  have HA := Lib.hid hda
  clear hd ht hda
  cases hdd : d with
  | nil =>
    subst hdd
    have hn : o = none := by rw [← HO.out, num_none (by rw [HD.out]; exact .inl rfl)]; rfl
    have HN := Lib.hid hn
    clear hn hR2
    go_wp2_with (go_at_call 103; refine (need_no _).mono ?_; rintro e w3 ⟨rfl, rfl⟩)
    refine ⟨rfl, ?_⟩
    rw [HN.out]
    exact Got.no hg.out
  | cons c d' =>
    have hd0 : (Sf.tw Oct.digitI s').length ≠ 0 := by rw [HD.out, hdd]; simp
    have HD0 := Lib.hid hd0
    have hl : d.length = d'.length + 1 := by rw [hdd]; rfl
    have HL := Lib.hid hl
    have HDD := Lib.hid hdd
    clear hd0 hl hdd
    by_cases h15 : d'.length + 1 ≤ 15
    · have H3 := Lib.hid (skip_all b 46 46 rfl t w2 hR2)
      clear hR2
      go_wp2_with fail
      refine (need_yes' (by simp <;> omega) _).mono ?_
      rintro e w2' ⟨rfl, rfl⟩
      go_wp2_with fail
      refine H3.out.mono ?_
      rintro e w3 ⟨g2, t', rfl, hR3, hg3, hs3⟩
      have hb3 := Lib.hid (hb2.out.kept hg3 (by simp; omega))
      have hG3 := Lib.hid (g_trans hg.out hg3)
      clear H3 hg3 hg hb2
      cases hg2 : g2 with
      | false =>
        have hx : t' = t ∧ t.head? ≠ some 46 := by
          rcases hs3.out with ⟨h, _⟩ | ⟨_, h1, h2⟩
          · rw [hg2] at h; cases h
          · exact ⟨h1, h2⟩
        obtain ⟨rfl, hx2⟩ := hx
        have hn : o = some (valV (Sf.kv 1 (sgn g * Oct.val d) []), t') := by
          rw [← HO.out, num_whole HD0.out (by rw [HD.out, HL.out]; exact h15) (by rw [HT.out]; exact hx2), HD.out, HT.out]; rfl
        have HN := Lib.hid hn
        have H4 := Lib.hid (fun W => atoi_any HA.out (by rw [HL.out]; omega) (by rw [HL.out]; omega) W)
        rw [HDD.out] at H4
        have hv : Oct.val (c :: d') = Oct.val d := by rw [HDD.out]
        have hv0 := Oct.val_nonneg d HA.out
        have hv1 := Sf.val_bound HA.out 15 (by rw [HL.out]; exact h15)
        rw [hv] at H4
        obtain ⟨v, hvv⟩ : ∃ v, Oct.val d = v := ⟨_, rfl⟩
        rw [hvv] at H4 HN hv0 hv1
        simp only [Int.reducePow, Int.reduceSub] at hv1
        clear hn hx2 hv hvv hs3 hg2
        go_wp2_with fail
        refine (H4.out _).mono ?_
        rintro e w4 ⟨rfl, hb4⟩
        have hb5 := hb3.out.keep hb4
        have hG5 := Lib.hid (g_below hG3.out hb4)
        have hR5 := Lib.hid (hR3.kept (g_below (g_refl _ none) hb4) (by simp))
        obtain ⟨c0, c1, c2, f0, f1, f2⟩ := hb5.all3
        have HB := Lib.hid hb5
        clear hb5 hR3 hb4 H4
        cases g with
        | true =>
          go_wp2_with fail
          rw [HN.out]
          refine bodyPost_ret (results_val (x := Sf.kv 1 (sgn true * v) []) rfl _ _ rfl ?_) rfl (Got.ok ?_ ?_)
          · have := HB.out.set3 (.int .i64 1) (.int .i64 (-v)) (.string ⟨#[]⟩)
            rw [show sgn true * v = -v by simp [sgn]]
            exact this
          · exact g_set3 hG5.out _ _ _ (.inl (Nat.le_refl _))
          · exact hR5.out.other3 (by omega) _ _ _
        | false =>
          go_wp2_with fail
          rw [HN.out]
          refine bodyPost_ret (results_val (x := Sf.kv 1 (sgn false * v) []) rfl _ _ rfl ?_) rfl (Got.ok ?_ ?_)
          · have := HB.out.set3 (.int .i64 1) (.int .i64 v) (.string ⟨#[]⟩)
            rw [show sgn false * v = v by simp [sgn]]
            exact this
          · exact g_set3 hG5.out _ _ _ (.inl (Nat.le_refl _))
          · exact hR5.out.other3 (by omega) _ _ _
      | true =>
        have hx : t = 46 :: t' := by
          rcases hs3.out with ⟨_, h⟩ | ⟨h, _⟩
          · exact h
          · rw [hg2] at h; cases h
        have ht' : t'.length ≤ 140737488355328 := by rw [hx] at hlen; simp at hlen; omega
        have HX := Lib.hid hx
        have H4 := Lib.hid (take_any _ _ tellsDigit b t' w3 hR3 ht')
        clear hx hR3 hs3 hg2 ht'
        go_wp2_with fail
        refine H4.out.mono ?_
        rintro e w4 ⟨rfl, hR4, hg4⟩
        have hb4 := Lib.hid (hb3.out.kept hg4 (by simp; omega))
        have hG4 := Lib.hid (g_trans hG3.out hg4)
        clear hg4 hG3 hb3 H4
        obtain ⟨m, hm⟩ : ∃ m, Sf.tw Oct.digitI t' = m := ⟨_, rfl⟩
        obtain ⟨u, hu⟩ : ∃ u, Sf.dw Oct.digitI t' = u := ⟨_, rfl⟩
        have hma : Oct.allB Oct.digitI m = true := by rw [← hm]; exact Sf.tw_all _ _
        rw [hu] at hR4
        rw [hm]
        have HM := Lib.hid hm
        have HU := Lib.hid hu
        have HMA := Lib.hid hma
        clear hm hu hma
        by_cases h12 : d'.length + 1 ≤ 12
        · cases hmm : m with
          | nil =>
            subst hmm
            have hn : o = none := by rw [← HO.out, num_bad HD0.out (by rw [HD.out, HL.out]; exact h15) (by rw [HT.out]; exact HX.out) (by rw [HM.out]; exact .inr (.inl rfl))]; rfl
            have HN := Lib.hid hn
            have h12' : (d'.length : Int) + 1 ≤ 12 := by omega
            clear hn hR4 h12
            go_wp2_with fail
            refine (need_no' (by simp) _).mono ?_
            rintro e w5 ⟨rfl, rfl⟩
            refine ⟨rfl, ?_⟩
            rw [HN.out]
            exact Got.no hG4.out
          | cons c2 m' =>
            have hml : m.length = m'.length + 1 := by rw [hmm]; rfl
            have HML := Lib.hid hml
            have HMM := Lib.hid hmm
            have h12' : (d'.length : Int) + 1 ≤ 12 := by omega
            clear hml hmm
            by_cases h3 : m'.length + 1 ≤ 3
            · have h3' : (m'.length : Int) + 1 ≤ 3 := by omega
              go_wp2_with fail
              refine (need_yes' (by simp <;> omega) _).mono ?_
              rintro e w4' ⟨rfl, rfl⟩
              go_wp2_with fail
              refine (repeat_any (3 - m.length) (by omega) _ (by rw [HML.out]; omega) _).mono ?_
              rintro e w5 ⟨rfl, hb5⟩
              have hb6 := Lib.hid (hb4.out.keep hb5)
              have hG6 := Lib.hid (g_below hG4.out hb5)
              have hR6 := Lib.hid (hR4.kept (g_below (g_refl _ none) hb5) (by simp))
              clear hb5 hR4 hb4 hG4
              have hn : o = some (valV (Sf.kv 2 (sgn g * Oct.val (d ++ m ++ List.replicate (3 - m.length) 48)) []), u) := by
                rw [← HO.out, num_part HD0.out (by rw [HD.out, HL.out]; exact h12) (by rw [HT.out]; exact HX.out) (by rw [HM.out, HML.out]; omega) (by rw [HM.out, HML.out]; omega), HD.out, HM.out, HU.out]; rfl
              have hzd := digs_zeros HA.out HMA.out (3 - m.length)
              have hzl : (d ++ m ++ List.replicate (3 - m.length) 48).length ≤ 15 := by simp only [List.length_append, List.length_replicate, HL.out, HML.out]; omega
              have hz0 : 0 < (d ++ m ++ List.replicate (3 - m.length) 48).length := by simp only [List.length_append, HL.out]; omega
              have H4 := Lib.hid (fun W => atoi_any hzd hz0 (by omega) W)
              have hv0 := Oct.val_nonneg _ hzd
              have hv1 := Sf.val_bound hzd 15 hzl
              have HN := Lib.hid hn
              clear hn hzd hzl hz0
              obtain ⟨z, hz⟩ : ∃ z : List UInt8, List.replicate (3 - m.length) 48 = z := ⟨_, rfl⟩
              have hzz : z.length ≤ 3 := by rw [← hz, List.length_replicate]; omega
              rw [hz] at H4 HN hv0 hv1
              rw [hz]
              obtain ⟨v, hv⟩ : ∃ v, Oct.val (d ++ m ++ z) = v := ⟨_, rfl⟩
              rw [hv] at H4 HN hv0 hv1
              rw [HDD.out, HMM.out] at H4
              simp only [Int.reducePow, Int.reduceSub] at hv1
              clear hz hv
              go_wp2_with fail
              rw [bA_app, bA_app]
              refine (H4.out _).mono ?_
              rintro e w6 ⟨rfl, hb7⟩
              have hb8 := hb6.out.keep hb7
              have hG8 := Lib.hid (g_below hG6.out hb7)
              have hR8 := Lib.hid (hR6.out.kept (g_below (g_refl _ none) hb7) (by simp))
              obtain ⟨c0, c1, c2, f0, f1, f2⟩ := hb8.all3
              have HB := Lib.hid hb8
              clear hb8 hb7 H4 hG6 hR6 hb6
              cases g with
              | true =>
                go_wp2_with fail
                rw [HN.out]
                refine bodyPost_ret (results_val (x := Sf.kv 2 (sgn true * v) []) rfl _ _ rfl ?_) rfl (Got.ok ?_ ?_)
                · have := HB.out.set3 (.int .i64 2) (.int .i64 (-v)) (.string ⟨#[]⟩)
                  rw [show sgn true * v = -v by simp [sgn]]
                  exact this
                · exact g_set3 hG8.out _ _ _ (.inl (Nat.le_refl _))
                · exact hR8.out.other3 (by omega) _ _ _
              | false =>
                go_wp2_with fail
                rw [HN.out]
                refine bodyPost_ret (results_val (x := Sf.kv 2 (sgn false * v) []) rfl _ _ rfl ?_) rfl (Got.ok ?_ ?_)
                · have := HB.out.set3 (.int .i64 2) (.int .i64 v) (.string ⟨#[]⟩)
                  rw [show sgn false * v = v by simp [sgn]]
                  exact this
                · exact g_set3 hG8.out _ _ _ (.inl (Nat.le_refl _))
                · exact hR8.out.other3 (by omega) _ _ _
            · have hn : o = none := by rw [← HO.out, num_bad HD0.out (by rw [HD.out, HL.out]; exact h15) (by rw [HT.out]; exact HX.out) (by rw [HM.out, HML.out]; omega)]; rfl
              have HN := Lib.hid hn
              clear hn hR4 h12
              go_wp2_with fail
              refine (need_no' (by simp <;> omega) _).mono ?_
              rintro e w5 ⟨rfl, rfl⟩
              refine ⟨rfl, ?_⟩
              rw [HN.out]
              exact Got.no hG4.out
        · have hn : o = none := by rw [← HO.out, num_bad HD0.out (by rw [HD.out, HL.out]; exact h15) (by rw [HT.out]; exact HX.out) (by rw [HD.out, HL.out]; omega)]; rfl
          have HN := Lib.hid hn
          have h12' : ¬ ((d'.length : Int) + 1 ≤ 12) := by omega
          clear hn hR4 h12
          go_wp2_with fail
          refine (need_no' (by simp <;> omega) _).mono ?_
          rintro e w5 ⟨rfl, rfl⟩
          refine ⟨rfl, ?_⟩
          rw [HN.out]
          exact Got.no hG4.out
    · have hn : o = none := by rw [← HO.out, num_none (by rw [HD.out, HL.out]; omega)]; rfl
      have HN := Lib.hid hn
      clear hn hR2
      go_wp2_with fail
      refine (need_no' (by simp <;> omega) _).mono ?_
      rintro e w3 ⟨rfl, rfl⟩
      refine ⟨rfl, ?_⟩
      rw [HN.out]
      exact Got.no hg.out
end Go.Proofs.YtogjekjklknfeaaGreatDoor

/- The contract of a reader's quotation. -/


namespace Go.Proofs.YtogjekjklknfeaaGreatDoor
open Go.RowKit Go.Shelf Go.Deep

def byteV (x : UInt8) : Value := .int .u8 (x.toNat : Int)
/-- What a text between quotes comes to, some of it read already. -/
def qpre (out rest : List UInt8) : Option (List UInt8 × List UInt8) := (Sf.quo rest).map fun x => (out ++ x.1, x.2)
theorem qpre_end (out t : List UInt8) : qpre out (34 :: t) = some (out, t) := by unfold qpre; rw [Sf.quo_cons, if_pos rfl]; simp
theorem qpre_nil (out : List UInt8) : qpre out [] = none := by unfold qpre; rw [Sf.quo]; rfl
theorem qpre_bad {c : UInt8} (out t : List UInt8) (h1 : c ≠ 34) (h2 : Sf.prI c.toNat = false) : qpre out (c :: t) = none := by unfold qpre; rw [Sf.quo_cons, if_neg h1, h2]; rfl
theorem qpre_step {c : UInt8} (out t : List UInt8) (h1 : c ≠ 34) (h2 : Sf.prI c.toNat = true) (h3 : c ≠ 92) : qpre out (c :: t) = qpre (out ++ [c]) t := by
  unfold qpre; rw [Sf.quo_cons, if_neg h1, if_pos h2, if_neg h3]
  cases Sf.quo t <;> simp
theorem qpre_esc0 (out : List UInt8) : qpre out [92] = none := by unfold qpre; rw [Sf.quo_cons, if_neg (by decide), if_pos (by decide), if_pos rfl]; rfl
theorem qpre_esc {d : UInt8} (out t : List UInt8) (h : d = 34 ∨ d = 92) : qpre out (92 :: d :: t) = qpre (out ++ [d]) t := by
  unfold qpre; rw [Sf.quo_cons, if_neg (by decide), if_pos (by decide), if_pos rfl]
  simp only [h, if_true]
  cases Sf.quo t <;> simp
theorem qpre_escno {d : UInt8} (out t : List UInt8) (h : ¬ (d = 34 ∨ d = 92)) : qpre out (92 :: d :: t) = none := by
  unfold qpre; rw [Sf.quo_cons, if_neg (by decide), if_pos (by decide), if_pos rfl]
  simp only [h, if_false]; rfl
theorem g_row {a b c : World} {row row' : Option Nat} (h : a.grownBy b row) (k : b.grownBy c row') (hr : ∀ j, row' = some j → a.heap.size ≤ j) : a.grownBy c row :=
  ⟨k.os.trans h.os, k.tape.trans h.tape, k.output.trans h.output, Nat.le_trans h.size k.size, fun i hi hn => (k.block i (Nat.lt_of_lt_of_le hi h.size) (fun e => by have := hr i e.symm; omega)).trans (h.block i hi hn)⟩

def QInv (w : World) (b : Nat) (r : List UInt8) (k : Nat) (v : Value) (wr : World) : Prop := ∃ out rest : List UInt8, rest.length = k ∧ out.length + rest.length ≤ r.length ∧ wr.ownsRow (w.heap.size + 1) 5 1 v out.length (out.map byteV) ∧ Rd b rest wr ∧ CBox wr w.heap.size 65 zC ∧ w.grownBy wr (some b) ∧ w.heap.size + 1 ≤ wr.heap.size ∧ qpre out rest = Sf.quo r
theorem info_u8 : (Tryz.prog.info? 5).map (fun i => (i.zero, i.size, i.bytes)) = some (some (.int .u8 0), 1, 1) := by kernel_rfl
theorem not_own {w : World} {base : Nat} {e : TypeId} {v : Value} {n b : Nat} {xs : List Value} (h : w.ownsRow base e 1 v n xs) (hb : b < base) : v.ownBlock = none ∨ v.ownBlock ≠ some b := by
  cases hv : v.ownBlock with
  | none => exact .inl rfl
  | some k => exact .inr (by intro e; have := (h.lt k hv).1; cases e; omega)
theorem own_ne {w : World} {base : Nat} {e : TypeId} {v : Value} {n b : Nat} {xs : List Value} (h : w.ownsRow base e 1 v n xs) (hb : b < base) : some b ≠ v.ownBlock := by
  intro e; have := (h.lt b e.symm).1; omega
theorem convert_nil (w : World) : (convert 68 9 (.slice none 0 0)).run Tryz.prog w = .ok (.string ⟨#[]⟩) w := by kernel_rfl
theorem bytes_string {w : World} {base : Nat} {v : Value} {l : List UInt8} (h : w.ownsRow base 5 1 v l.length (l.map byteV)) : (convert 68 9 v).run Tryz.prog w = .ok (.string (bA l)) w := by
  have hc := h
  obtain ⟨_, ⟨h1, h2⟩ | ⟨g, cap, cur, rfl, hb, hg, h3, h4, h5, h6⟩⟩ := h
  · obtain rfl : l = [] := List.length_eq_zero_iff.1 h2
    subst h1
    exact convert_nil w
  · refine run_convert_bytes_back w 68 9 5 ⟨g, 0, none⟩ cap l Tryz.underlying68 Tryz.underlying5 Tryz.underlying9 (fun j hj => ?_)
    exact World.ownsRow.cells hc (g := g) rfl j (byteV l[j]) (by simp [hj])
theorem slice_is {w : World} {base : Nat} {e : TypeId} {v : Value} {n : Nat} {xs : List Value} (h : w.ownsRow base e 1 v n xs) : ∃ a cap, v = .slice a n cap := by
  obtain ⟨_, ⟨h1, h2⟩ | ⟨g, cap, _, hv, _⟩⟩ := h
  · exact ⟨none, 0, by rw [h1, h2]⟩
  · exact ⟨_, _, hv⟩
def quoOf (r : List UInt8) : Option (Sf.Par × List UInt8) := (Sf.quo r).map fun x => (Sf.kv 3 0 x.1, x.2)

set_option maxHeartbeats 2000000 in
theorem quotation_any (b : Nat) (r : List UInt8) (w : World) (hR : Rd b (34 :: r) w) (hs : r.length ≤ 140737488355300) : Calls Tryz.prog 129 #[.pointer (some ⟨b, 0, none⟩)] w (Got b w (mapV (quoOf r))) := by
  have hlt := hR.lt
  have H := Lib.hid (skip_yes b 34 34 rfl r _ (hR.alloc (.cells zC 65)))
  have hb := Lib.hid (CBox.new w 65 zC)
  clear hR
  obtain ⟨o, ho⟩ : ∃ o, mapV (quoOf r) = o := ⟨_, rfl⟩
  rw [ho]
  have HO := Lib.hid ho
  clear ho
  obtain ⟨i0, hi, hz0, hz1, hz2⟩ := info_parts info_u8
  have HI := Lib.hid hi; have HZ0 := Lib.hid hz0; have HZ1 := Lib.hid hz1; have HZ2 := Lib.hid hz2
  clear hi hz0 hz1 hz2
  go_enter Tryz.func129, Tryz.ntmps129
  go_wp2_with fail
  refine H.out.mono ?_
  rintro e w1 ⟨rfl, hR1, hg1⟩
  have hst : QInv w b r r.length (.slice none 0 0) w1 := ⟨[], r, rfl, by simp, World.ownsRow_nil _ _ _ _, hR1, hb.out.kept hg1 (by simp; omega), g_trans (World.grownBy_alloc w _ _) hg1, by have := hg1.size; simpa using this, by unfold qpre; cases Sf.quo r <;> simp⟩
  have HS := Lib.hid hst
  clear hst hR1 hg1 hb H
  go_wp2_with fail
  go_loopg [3] r.length (fun k v wr => QInv w b r k v wr)
  case atStart => exact HS.out
  case round =>
    obtain ⟨out, rest, hk, hlen, hown, hR, hb, hg, hsz, hq⟩ := hrel
    obtain ⟨va, vc, rfl⟩ := slice_is hown
    have HQ := Lib.hid hq; have HK := Lib.hid hk; have HW := Lib.hid hown; have HB := Lib.hid hb; have HG := Lib.hid hg; have HR := Lib.hid hR
    clear hq hk hown hb hg hR HS
    cases rest with
    | nil =>
      have H1 := Lib.hid (skip_nil b 34 wr HR.out)
      have H2 := Lib.hid (skip_nil b 92 wr HR.out)
      have H3 := Lib.hid (first_no b wr HR.out)
      have hn : o = none := by rw [← HO.out, quoOf, ← HQ.out, qpre_nil]; rfl
      have HN := Lib.hid hn
      clear hn
      go_wp2_with fail
      refine H1.out.mono ?_
      rintro e w2 ⟨rfl, rfl⟩
      go_wp2_with fail
      refine H2.out.mono ?_
      rintro e w2 ⟨rfl, rfl⟩
      go_wp2_with fail
      refine H3.out.mono ?_
      rintro e w2 ⟨rfl, rfl⟩
      go_wp2_with fail
      refine ⟨rfl, ?_⟩
      rw [HN.out]
      exact Got.no HG.out
    | cons c t =>
      by_cases h34 : c = 34
      · subst h34
        have H1 := Lib.hid (skip_yes b 34 34 rfl t wr HR.out)
        have hn : o = some (valV (Sf.kv 3 0 out), t) := by rw [← HO.out, quoOf, ← HQ.out, qpre_end]; rfl
        have HN := Lib.hid hn
        clear hn
        go_wp2_with fail
        refine H1.out.mono ?_
        rintro e w2 ⟨rfl, hR2, hg2⟩
        have hown2 := HW.out.kept hg2 (not_own HW.out (by omega))
        have hcv := bytes_string hown2
        have hb2 := HB.out.kept hg2 (by simp; omega)
        obtain ⟨c0, c1, c2, f0, f1, f2⟩ := hb2.all3
        have HB2 := Lib.hid hb2
        have HG2 := Lib.hid (g_trans HG.out hg2)
        clear hb2 hg2 hown2
        go_wp2_with fail
        rw [HN.out]
        refine bodyPost_ret (results_val (x := Sf.kv 3 0 out) rfl _ _ rfl (HB2.out.set3 _ _ _)) rfl (Got.ok ?_ ?_)
        · exact g_set3 HG2.out _ _ _ (.inl (Nat.le_refl _))
        · exact hR2.other3 (by omega) _ _ _
      · have H1 := Lib.hid (skip_off b 34 c (byte_ne (c := 34) h34) t wr HR.out)
        go_wp2_with fail
        refine H1.out.mono ?_
        rintro e w2 ⟨rfl, rfl⟩
        by_cases h92 : c = 92
        · subst h92
          have H2 := Lib.hid (skip_yes b 92 92 rfl t wr HR.out)
          go_wp2_with fail
          refine H2.out.mono ?_
          rintro e w2 ⟨rfl, hR2, hg2⟩
          replace HW := Lib.hid (HW.out.kept hg2 (not_own HW.out (by omega)))
          replace HB := Lib.hid (HB.out.kept hg2 (by simp; omega))
          replace HG := Lib.hid (g_trans HG.out hg2)
          have hsz2 := Nat.le_trans hsz hg2.size
          clear hg2 HR hsz
          cases t with
          | nil =>
            have H3 := Lib.hid (first_no b w2 hR2)
            have hn : o = none := by rw [← HO.out, quoOf, ← HQ.out, qpre_esc0]; rfl
            have HN := Lib.hid hn
            clear hn hR2
            go_wp2_with fail
            refine H3.out.mono ?_
            rintro e w3 ⟨rfl, rfl⟩
            go_wp2_with fail
            refine ⟨rfl, ?_⟩
            rw [HN.out]
            exact Got.no HG.out
          | cons d t =>
            have H3 := Lib.hid (first_yes b d t w2 hR2)
            have HR := Lib.hid hR2
            clear hR2
            by_cases hd : d = 34 ∨ d = 92
            · have hpr : Sf.prI d.toNat = true := by rcases hd with rfl | rfl <;> decide
              have hstep := qpre_esc out t hd
              rcases hd with rfl | rfl
              · have HST := Lib.hid hstep
                have HP := Lib.hid (isPrintable_any (((34 : UInt8)).toNat : Int) w2)
                rw [hpr] at HP
                clear hstep hpr
                go_wp2_with (first | (go_at_call 105; refine H3.out.mono ?_; rintro e w3 ⟨rfl, rfl⟩) | (go_at_call 149; refine HP.out.mono ?_; rintro e w3 ⟨rfl, rfl⟩) | (go_at_call 103; refine (need_yes _).mono ?_; rintro e w3 ⟨rfl, rfl⟩) | (at_builtin; go_loud (refine wpList_append_own _ rfl _ _ 68 rfl (w.heap.size + 1) 5 i0 (.int .u8 0) 1 1 Tryz.underlying68 HI.out HZ0.out HZ1.out HZ2.out rfl (by decide) _ _ _ rfl (HW.out.alloc _) ⟨w2.heap.size, 0, none⟩ 1 1 [.int .u8 34] rfl rfl (cell_one_new _ _ _) ?_ ?_ ?_ ?_ ?_)))
                · intro u hu; simp at hu; subst hu; rfl
                · unfold maxLen; simp at hlen; omega
                · simp at hlen; omega
                · simp; omega
                intro v' w4 hown4 hg4 _
                obtain ⟨va4, vc4, rfl⟩ := slice_is hown4
                have hR4 : Rd b (((34 : UInt8)) :: t) w4 := (HR.out.alloc _).kept hg4 (own_ne HW.out (by omega))
                have HB4 := Lib.hid ((HB.out.alloc _).kept hg4 (own_ne HW.out (by omega)))
                have HG4 := Lib.hid (g_row (g_alloc HG.out _) hg4 (fun j hj => by have := (HW.out.lt j hj).1; omega))
                have hs4 := hg4.size
                have HW4 := Lib.hid hown4
                have hc4 := hR4.cell
                have hf4 := hR4.frozen
                have HR4 := Lib.hid hR4
                clear hown4 hg4 hR4
                go_wp2_with fail
                have hx : (bA (((34 : UInt8)) :: t)).extract 1 (t.length + 1) = bA t := by have := Byt.drop_ext (bA (((34 : UInt8)) :: t)) 1; exact this
                rw [hx]
                go_roundg t.length
                case measure => have := HK.out; simp at this; omega
                case rel =>
                  have hs := HR4.out.set t
                  refine ⟨out ++ [(34 : UInt8)], t, rfl, by simp at hlen ⊢; omega, ?_, hs.1, ?_, g_trans HG4.out hs.2, ?_, by rw [← HST.out]; exact HQ.out⟩
                  · have := HW4.out.kept hs.2 (not_own HW4.out (by omega))
                    rw [List.length_append, List.map_append]
                    exact this
                  · exact HB4.out.kept hs.2 (by simp; omega)
                  · have := hs.2.size; simp at hs4; omega
              · have HST := Lib.hid hstep
                have HP := Lib.hid (isPrintable_any (((92 : UInt8)).toNat : Int) w2)
                rw [hpr] at HP
                clear hstep hpr
                go_wp2_with (first | (go_at_call 105; refine H3.out.mono ?_; rintro e w3 ⟨rfl, rfl⟩) | (go_at_call 149; refine HP.out.mono ?_; rintro e w3 ⟨rfl, rfl⟩) | (go_at_call 103; refine (need_yes _).mono ?_; rintro e w3 ⟨rfl, rfl⟩) | (at_builtin; go_loud (refine wpList_append_own _ rfl _ _ 68 rfl (w.heap.size + 1) 5 i0 (.int .u8 0) 1 1 Tryz.underlying68 HI.out HZ0.out HZ1.out HZ2.out rfl (by decide) _ _ _ rfl (HW.out.alloc _) ⟨w2.heap.size, 0, none⟩ 1 1 [.int .u8 92] rfl rfl (cell_one_new _ _ _) ?_ ?_ ?_ ?_ ?_)))
                · intro u hu; simp at hu; subst hu; rfl
                · unfold maxLen; simp at hlen; omega
                · simp at hlen; omega
                · simp; omega
                intro v' w4 hown4 hg4 _
                obtain ⟨va4, vc4, rfl⟩ := slice_is hown4
                have hR4 : Rd b (((92 : UInt8)) :: t) w4 := (HR.out.alloc _).kept hg4 (own_ne HW.out (by omega))
                have HB4 := Lib.hid ((HB.out.alloc _).kept hg4 (own_ne HW.out (by omega)))
                have HG4 := Lib.hid (g_row (g_alloc HG.out _) hg4 (fun j hj => by have := (HW.out.lt j hj).1; omega))
                have hs4 := hg4.size
                have HW4 := Lib.hid hown4
                have hc4 := hR4.cell
                have hf4 := hR4.frozen
                have HR4 := Lib.hid hR4
                clear hown4 hg4 hR4
                go_wp2_with fail
                have hx : (bA (((92 : UInt8)) :: t)).extract 1 (t.length + 1) = bA t := by have := Byt.drop_ext (bA (((92 : UInt8)) :: t)) 1; exact this
                rw [hx]
                go_roundg t.length
                case measure => have := HK.out; simp at this; omega
                case rel =>
                  have hs := HR4.out.set t
                  refine ⟨out ++ [(92 : UInt8)], t, rfl, by simp at hlen ⊢; omega, ?_, hs.1, ?_, g_trans HG4.out hs.2, ?_, by rw [← HST.out]; exact HQ.out⟩
                  · have := HW4.out.kept hs.2 (not_own HW4.out (by omega))
                    rw [List.length_append, List.map_append]
                    exact this
                  · exact HB4.out.kept hs.2 (by simp; omega)
                  · have := hs.2.size; simp at hs4; omega
            · have hn : o = none := by rw [← HO.out, quoOf, ← HQ.out, qpre_escno out t hd]; rfl
              have HN := Lib.hid hn
              have h1 : ((d.toNat : Int) == 34) = false := by rw [beq_eq_false_iff_ne]; exact byte_ne (c := 34) (fun e => hd (.inl e))
              have h2 : ((d.toNat : Int) == 92) = false := by rw [beq_eq_false_iff_ne]; exact byte_ne (c := 92) (fun e => hd (.inr e))
              clear hn hd
              go_wp2_with (first | (go_at_call 105; refine H3.out.mono ?_; rintro e w3 ⟨rfl, rfl⟩) | (go_at_call 103; refine (need_no _).mono ?_; rintro e w3 ⟨rfl, rfl⟩))
              refine ⟨rfl, ?_⟩
              rw [HN.out]
              exact Got.no HG.out
        · have H2 := Lib.hid (skip_off b 92 c (byte_ne (c := 92) h92) t wr HR.out)
          have H3 := Lib.hid (first_yes b c t wr HR.out)
          go_wp2_with fail
          refine H2.out.mono ?_
          rintro e w2 ⟨rfl, rfl⟩
          cases hp : Sf.prI c.toNat with
          | false =>
            have hn : o = none := by rw [← HO.out, quoOf, ← HQ.out, qpre_bad out t h34 hp]; rfl
            have HN := Lib.hid hn
            have HP := Lib.hid (isPrintable_any c.toNat wr)
            rw [hp] at HP
            clear hn hp h34 h92
            go_wp2_with (first | (go_at_call 105; refine H3.out.mono ?_; rintro e w3 ⟨rfl, rfl⟩) | (go_at_call 149; refine HP.out.mono ?_; rintro e w3 ⟨rfl, rfl⟩) | (go_at_call 103; refine (need_no _).mono ?_; rintro e w3 ⟨rfl, rfl⟩))
            refine ⟨rfl, ?_⟩
            rw [HN.out]
            exact Got.no HG.out
          | true =>
            have hstep := qpre_step out t h34 hp h92
            have HST := Lib.hid hstep
            have HP := Lib.hid (isPrintable_any ((c).toNat : Int) wr)
            rw [hp] at HP
            clear hstep hp
            go_wp2_with (first | (go_at_call 105; refine H3.out.mono ?_; rintro e w3 ⟨rfl, rfl⟩) | (go_at_call 149; refine HP.out.mono ?_; rintro e w3 ⟨rfl, rfl⟩) | (go_at_call 103; refine (need_yes _).mono ?_; rintro e w3 ⟨rfl, rfl⟩) | (at_builtin; go_loud (refine wpList_append_own _ rfl _ _ 68 rfl (w.heap.size + 1) 5 i0 (.int .u8 0) 1 1 Tryz.underlying68 HI.out HZ0.out HZ1.out HZ2.out rfl (by decide) _ _ _ rfl (HW.out.alloc _) ⟨wr.heap.size, 0, none⟩ 1 1 [.int .u8 (c.toNat : Int)] rfl rfl (cell_one_new _ _ _) ?_ ?_ ?_ ?_ ?_)))
            · intro u hu; simp at hu; subst hu; rfl
            · unfold maxLen; simp at hlen; omega
            · simp at hlen; omega
            · simp; omega
            intro v' w4 hown4 hg4 _
            obtain ⟨va4, vc4, rfl⟩ := slice_is hown4
            have hR4 : Rd b ((c) :: t) w4 := (HR.out.alloc _).kept hg4 (own_ne HW.out (by omega))
            have HB4 := Lib.hid ((HB.out.alloc _).kept hg4 (own_ne HW.out (by omega)))
            have HG4 := Lib.hid (g_row (g_alloc HG.out _) hg4 (fun j hj => by have := (HW.out.lt j hj).1; omega))
            have hs4 := hg4.size
            have HW4 := Lib.hid hown4
            have hc4 := hR4.cell
            have hf4 := hR4.frozen
            have HR4 := Lib.hid hR4
            clear hown4 hg4 hR4
            go_wp2_with fail
            have hx : (bA ((c) :: t)).extract 1 (t.length + 1) = bA t := by have := Byt.drop_ext (bA ((c) :: t)) 1; exact this
            rw [hx]
            go_roundg t.length
            case measure => have := HK.out; simp at this; omega
            case rel =>
              have hs := HR4.out.set t
              refine ⟨out ++ [c], t, rfl, by simp at hlen ⊢; omega, ?_, hs.1, ?_, g_trans HG4.out hs.2, ?_, by rw [← HST.out]; exact HQ.out⟩
              · have := HW4.out.kept hs.2 (not_own HW4.out (by omega))
                rw [List.length_append, List.map_append]
                exact this
              · exact HB4.out.kept hs.2 (by simp; omega)
              · have := hs.2.size; simp at hs4; omega
end Go.Proofs.YtogjekjklknfeaaGreatDoor

/- The contracts of a reader's form and value. -/
namespace Go.Proofs.YtogjekjklknfeaaGreatDoor
open Go.RowKit Go.Shelf

theorem form_nil (b : Nat) (w : World) (hR : Rd b [] w) : Calls Tryz.prog 96 #[.pointer (some ⟨b, 0, none⟩)] w fun e w' => e = .panicked [fault] ∧ w = w' := by
  have H := Lib.hid (first_no b w hR)
  clear hR
  go_enter Tryz.func96, Tryz.ntmps96
  go_wp2_with (go_at_call 105; refine H.out.mono ?_; rintro e w3 ⟨rfl, rfl⟩)
  exact ⟨rfl, rfl, rfl⟩
set_option maxHeartbeats 400000 in
theorem form_neg (b : Nat) (c : UInt8) (r : List UInt8) (w : World) (hR : Rd b (c :: r) w) (h45 : ((c.toNat : Int) == 45) = true) : Calls Tryz.prog 96 #[.pointer (some ⟨b, 0, none⟩)] w fun e w' => e = .returned (.func (.func 128) #[.pointer (some ⟨b, 0, none⟩)] #[]) ∧ w = w' := by
  have H := Lib.hid (first_yes b c r w hR)
  clear hR
  go_enter Tryz.func96, Tryz.ntmps96
  go_wp2_with (first | (go_at_call 105; refine H.out.mono ?_; rintro e w3 ⟨rfl, rfl⟩))
  go_ret
  exact ⟨rfl, rfl⟩
set_option maxHeartbeats 400000 in
theorem form_dig (b : Nat) (c : UInt8) (r : List UInt8) (w : World) (hR : Rd b (c :: r) w) (h45 : ((c.toNat : Int) == 45) = false) (hD : Oct.digitI c.toNat = true) : Calls Tryz.prog 96 #[.pointer (some ⟨b, 0, none⟩)] w fun e w' => e = .returned (.func (.func 128) #[.pointer (some ⟨b, 0, none⟩)] #[]) ∧ w = w' := by
  have H := Lib.hid (first_yes b c r w hR)
  clear hR
  have HD := Lib.hid (isDigit_any c.toNat w)
  rw [hD] at HD
  clear hD
  go_enter Tryz.func96, Tryz.ntmps96
  go_wp2_with (first | (go_at_call 105; refine H.out.mono ?_; rintro e w3 ⟨rfl, rfl⟩) | (go_at_call 127; refine HD.out.mono ?_; rintro e w3 ⟨rfl, rfl⟩))
  go_ret
  exact ⟨rfl, rfl⟩
set_option maxHeartbeats 400000 in
theorem form_quo (b : Nat) (c : UInt8) (r : List UInt8) (w : World) (hR : Rd b (c :: r) w) (h45 : ((c.toNat : Int) == 45) = false) (hD : Oct.digitI c.toNat = false) (h34 : ((c.toNat : Int) == 34) = true) : Calls Tryz.prog 96 #[.pointer (some ⟨b, 0, none⟩)] w fun e w' => e = .returned (.func (.func 129) #[.pointer (some ⟨b, 0, none⟩)] #[]) ∧ w = w' := by
  have H := Lib.hid (first_yes b c r w hR)
  clear hR
  have HD := Lib.hid (isDigit_any c.toNat w)
  rw [hD] at HD
  clear hD
  go_enter Tryz.func96, Tryz.ntmps96
  go_wp2_with (first | (go_at_call 105; refine H.out.mono ?_; rintro e w3 ⟨rfl, rfl⟩) | (go_at_call 127; refine HD.out.mono ?_; rintro e w3 ⟨rfl, rfl⟩))
  go_ret
  exact ⟨rfl, rfl⟩
set_option maxHeartbeats 400000 in
theorem form_let (b : Nat) (c : UInt8) (r : List UInt8) (w : World) (hR : Rd b (c :: r) w) (h45 : ((c.toNat : Int) == 45) = false) (hD : Oct.digitI c.toNat = false) (h34 : ((c.toNat : Int) == 34) = false) (hL : Oct.letterI c.toNat = true) : Calls Tryz.prog 96 #[.pointer (some ⟨b, 0, none⟩)] w fun e w' => e = .returned (.func (.func 131) #[.pointer (some ⟨b, 0, none⟩)] #[]) ∧ w = w' := by
  have H := Lib.hid (first_yes b c r w hR)
  clear hR
  have HD := Lib.hid (isDigit_any c.toNat w)
  rw [hD] at HD
  clear hD
  have HL := Lib.hid (isLetter_any c.toNat w)
  rw [hL] at HL
  clear hL
  go_enter Tryz.func96, Tryz.ntmps96
  go_wp2_with (first | (go_at_call 105; refine H.out.mono ?_; rintro e w3 ⟨rfl, rfl⟩) | (go_at_call 127; refine HD.out.mono ?_; rintro e w3 ⟨rfl, rfl⟩) | (go_at_call 130; refine HL.out.mono ?_; rintro e w3 ⟨rfl, rfl⟩))
  go_ret
  exact ⟨rfl, rfl⟩
set_option maxHeartbeats 400000 in
theorem form_star (b : Nat) (c : UInt8) (r : List UInt8) (w : World) (hR : Rd b (c :: r) w) (h45 : ((c.toNat : Int) == 45) = false) (hD : Oct.digitI c.toNat = false) (h34 : ((c.toNat : Int) == 34) = false) (hL : Oct.letterI c.toNat = false) (h42 : ((c.toNat : Int) == 42) = true) : Calls Tryz.prog 96 #[.pointer (some ⟨b, 0, none⟩)] w fun e w' => e = .returned (.func (.func 131) #[.pointer (some ⟨b, 0, none⟩)] #[]) ∧ w = w' := by
  have H := Lib.hid (first_yes b c r w hR)
  clear hR
  have HD := Lib.hid (isDigit_any c.toNat w)
  rw [hD] at HD
  clear hD
  have HL := Lib.hid (isLetter_any c.toNat w)
  rw [hL] at HL
  clear hL
  go_enter Tryz.func96, Tryz.ntmps96
  go_wp2_with (first | (go_at_call 105; refine H.out.mono ?_; rintro e w3 ⟨rfl, rfl⟩) | (go_at_call 127; refine HD.out.mono ?_; rintro e w3 ⟨rfl, rfl⟩) | (go_at_call 130; refine HL.out.mono ?_; rintro e w3 ⟨rfl, rfl⟩))
  go_ret
  exact ⟨rfl, rfl⟩
set_option maxHeartbeats 400000 in
theorem form_seq (b : Nat) (c : UInt8) (r : List UInt8) (w : World) (hR : Rd b (c :: r) w) (h45 : ((c.toNat : Int) == 45) = false) (hD : Oct.digitI c.toNat = false) (h34 : ((c.toNat : Int) == 34) = false) (hL : Oct.letterI c.toNat = false) (h42 : ((c.toNat : Int) == 42) = false) (h58 : ((c.toNat : Int) == 58) = true) : Calls Tryz.prog 96 #[.pointer (some ⟨b, 0, none⟩)] w fun e w' => e = .returned (.func (.func 132) #[.pointer (some ⟨b, 0, none⟩)] #[]) ∧ w = w' := by
  have H := Lib.hid (first_yes b c r w hR)
  clear hR
  have HD := Lib.hid (isDigit_any c.toNat w)
  rw [hD] at HD
  clear hD
  have HL := Lib.hid (isLetter_any c.toNat w)
  rw [hL] at HL
  clear hL
  go_enter Tryz.func96, Tryz.ntmps96
  go_wp2_with (first | (go_at_call 105; refine H.out.mono ?_; rintro e w3 ⟨rfl, rfl⟩) | (go_at_call 127; refine HD.out.mono ?_; rintro e w3 ⟨rfl, rfl⟩) | (go_at_call 130; refine HL.out.mono ?_; rintro e w3 ⟨rfl, rfl⟩))
  go_ret
  exact ⟨rfl, rfl⟩
set_option maxHeartbeats 400000 in
theorem form_tru (b : Nat) (c : UInt8) (r : List UInt8) (w : World) (hR : Rd b (c :: r) w) (h45 : ((c.toNat : Int) == 45) = false) (hD : Oct.digitI c.toNat = false) (h34 : ((c.toNat : Int) == 34) = false) (hL : Oct.letterI c.toNat = false) (h42 : ((c.toNat : Int) == 42) = false) (h58 : ((c.toNat : Int) == 58) = false) (h63 : ((c.toNat : Int) == 63) = true) : Calls Tryz.prog 96 #[.pointer (some ⟨b, 0, none⟩)] w fun e w' => e = .returned (.func (.func 133) #[.pointer (some ⟨b, 0, none⟩)] #[]) ∧ w = w' := by
  have H := Lib.hid (first_yes b c r w hR)
  clear hR
  have HD := Lib.hid (isDigit_any c.toNat w)
  rw [hD] at HD
  clear hD
  have HL := Lib.hid (isLetter_any c.toNat w)
  rw [hL] at HL
  clear hL
  go_enter Tryz.func96, Tryz.ntmps96
  go_wp2_with (first | (go_at_call 105; refine H.out.mono ?_; rintro e w3 ⟨rfl, rfl⟩) | (go_at_call 127; refine HD.out.mono ?_; rintro e w3 ⟨rfl, rfl⟩) | (go_at_call 130; refine HL.out.mono ?_; rintro e w3 ⟨rfl, rfl⟩))
  go_ret
  exact ⟨rfl, rfl⟩
set_option maxHeartbeats 400000 in
theorem form_no (b : Nat) (c : UInt8) (r : List UInt8) (w : World) (hR : Rd b (c :: r) w) (h45 : ((c.toNat : Int) == 45) = false) (hD : Oct.digitI c.toNat = false) (h34 : ((c.toNat : Int) == 34) = false) (hL : Oct.letterI c.toNat = false) (h42 : ((c.toNat : Int) == 42) = false) (h58 : ((c.toNat : Int) == 58) = false) (h63 : ((c.toNat : Int) == 63) = false) : Calls Tryz.prog 96 #[.pointer (some ⟨b, 0, none⟩)] w fun e w' => e = .panicked [fault] ∧ w = w' := by
  have H := Lib.hid (first_yes b c r w hR)
  clear hR
  have HD := Lib.hid (isDigit_any c.toNat w)
  rw [hD] at HD
  clear hD
  have HL := Lib.hid (isLetter_any c.toNat w)
  rw [hL] at HL
  clear hL
  go_enter Tryz.func96, Tryz.ntmps96
  go_wp2_with (first | (go_at_call 105; refine H.out.mono ?_; rintro e w3 ⟨rfl, rfl⟩) | (go_at_call 127; refine HD.out.mono ?_; rintro e w3 ⟨rfl, rfl⟩) | (go_at_call 130; refine HL.out.mono ?_; rintro e w3 ⟨rfl, rfl⟩))
  exact ⟨rfl, rfl, rfl⟩
end Go.Proofs.YtogjekjklknfeaaGreatDoor

/- The contract of a reader's value. -/
namespace Go.Proofs.YtogjekjklknfeaaGreatDoor
open Go.RowKit Go.Shelf

set_option maxHeartbeats 400000 in
theorem value_by (b : Nat) (s : List UInt8) (o : Option (Sf.Par × List UInt8)) (w : World) (hR : Rd b s w) (F : FuncId)
    (hF : ∀ W, Rd b s W → Calls Tryz.prog 96 #[.pointer (some ⟨b, 0, none⟩)] W fun e w' => e = .returned (.func (.func F) #[.pointer (some ⟨b, 0, none⟩)] #[]) ∧ W = w')
    (hen : ∀ args w, (callFunc F args).run Tryz.prog w = .ok (.enter F args) w)
    (hC : ∀ W, Rd b s W → Calls Tryz.prog F #[.pointer (some ⟨b, 0, none⟩)] W (Got b W (mapV o))) : Calls Tryz.prog 68 #[.pointer (some ⟨b, 0, none⟩)] w (Got b w (mapV o)) := by
  have hlt := hR.lt
  have hR0 := hR.alloc (.cells zC 65)
  have H1 := Lib.hid (hF _ hR0)
  have H2 := Lib.hid (hC _ hR0)
  have hb := Lib.hid (CBox.new w 65 zC)
  obtain ⟨m, hm⟩ : ∃ m, mapV o = m := ⟨_, rfl⟩
  rw [hm] at H2 ⊢
  have HM := Lib.hid hm
  clear hR hR0 hF hC hm
  go_enter Tryz.func68, Tryz.ntmps68
  go_wp2_with fail
  refine H1.out.mono ?_
  rintro e w1 ⟨rfl, rfl⟩
  go_wp2_with fail
  refine H2.out.mono ?_
  rintro e w2 ⟨hg, ⟨v, r, ho, rfl, hr⟩ | ⟨ho, rfl⟩⟩
  · obtain ⟨⟨x, r'⟩, hx, hy⟩ : ∃ x, o = some x ∧ (valV x.1, x.2) = (v, r) := by
      cases ho' : o with
      | none => rw [ho'] at HM; rw [← HM.out] at ho; cases ho
      | some x => exact ⟨x, rfl, by rw [ho'] at HM; rw [← HM.out] at ho; simpa [mapV] using ho⟩
    simp only [Prod.mk.injEq] at hy
    obtain ⟨rfl, rfl⟩ := hy
    have hb1 := hb.out.kept hg (by simp; omega)
    obtain ⟨c0, c1, c2, f0, f1, f2⟩ := hb1.all3
    have hG := Lib.hid (g_trans (World.grownBy_alloc w _ _) hg)
    have HB := Lib.hid hb1
    have HO := Lib.hid ho
    clear hg hb hb1 hx ho HM
    unfold valV vC
    go_wp2_with fail
    rw [HO.out]
    refine bodyPost_ret (results_val (x := x) rfl _ _ rfl (HB.out.set3 _ _ _)) rfl (Got.ok ?_ ?_)
    · exact g_set3 hG.out _ _ _ (.inl (Nat.le_refl _))
    · exact hr.other3 (by omega) _ _ _
  · have HO := Lib.hid ho
    clear ho
    go_wp2_with fail
    refine ⟨rfl, ?_⟩
    rw [HO.out]
    exact Got.no (g_trans (World.grownBy_alloc w _ _) hg)
set_option maxHeartbeats 400000 in
theorem value_not (b : Nat) (s : List UInt8) (w : World) (hR : Rd b s w)
    (hF : ∀ W, Rd b s W → Calls Tryz.prog 96 #[.pointer (some ⟨b, 0, none⟩)] W fun e w' => e = .panicked [fault] ∧ W = w') : Calls Tryz.prog 68 #[.pointer (some ⟨b, 0, none⟩)] w (Got b w (mapV none)) := by
  have H1 := Lib.hid (hF _ (hR.alloc (.cells zC 65)))
  clear hR hF
  go_enter Tryz.func68, Tryz.ntmps68
  go_wp2_with fail
  refine H1.out.mono ?_
  rintro e w1 ⟨rfl, rfl⟩
  go_wp2_with fail
  exact ⟨rfl, Got.no (World.grownBy_alloc w _ _)⟩

theorem beqI {c : UInt8} {k : Nat} (hk : k < 256) : ((c.toNat : Int) == (k : Int)) = (c == UInt8.ofNat k) := by
  rw [Bool.eq_iff_iff, beq_iff_eq, beq_iff_eq]
  constructor
  · intro h; apply UInt8.toNat_inj.1; simp; omega
  · intro h; subst h; simp; omega
theorem beqT {c : UInt8} {k : UInt8} : ((c.toNat : Int) == (k.toNat : Int)) = (c == k) := by
  rw [Bool.eq_iff_iff, beq_iff_eq, beq_iff_eq]
  exact ⟨fun h => UInt8.toNat_inj.1 (by omega), fun h => by rw [h]⟩
theorem bneF {c k : UInt8} (h : ¬ c = k) : ((c.toNat : Int) == (k.toNat : Int)) = false := by rw [beqT]; simpa using h
theorem num_is_dig {c : UInt8} {r : List UInt8} (h : ¬ c = 45) : numOf (c :: r) = Sf.num 1 (c :: r) := by simp [numOf, h]
theorem num_is_neg (r : List UInt8) : numOf (45 :: r) = Sf.num (-1) r := by simp [numOf]
theorem tok_cons {c : UInt8} {r : List UInt8} (h : Sf.tokI c.toNat = true) : Sf.tw Sf.tokI (c :: r) = c :: Sf.tw Sf.tokI r ∧ Sf.dw Sf.tokI (c :: r) = Sf.dw Sf.tokI r := by
  constructor
  · simp [Sf.tw, h]
  · simp [Sf.dw, h]
/-- What a reader's value comes to. -/
theorem value_any (b : Nat) (s : List UInt8) (w : World) (hR : Rd b s w) (hs : s.length ≤ 140737488355300) : Calls Tryz.prog 68 #[.pointer (some ⟨b, 0, none⟩)] w (Got b w (mapV (Sf.value s))) := by
  cases s with
  | nil => exact value_not b [] w hR (fun W h => form_nil b W h)
  | cons c r =>
    have hs' : r.length ≤ 140737488355299 := by simp at hs; omega
    rw [Sf.value_cons]
    by_cases h45 : c = 45
    · subst h45
      rw [if_pos rfl, ← num_is_neg]
      exact value_by b _ _ w hR 128 (fun W h => form_neg b _ r W h rfl) (enters_of Tryz.func128 (by kernel_rfl) rfl) (fun W h => number_any b _ W h (by simp; omega))
    rw [if_neg h45]
    have f45 : ((c.toNat : Int) == 45) = false := bneF (k := 45) h45
    cases hD : Oct.digitI c.toNat with
    | true =>
      rw [if_pos rfl, ← num_is_dig h45]
      exact value_by b _ _ w hR 128 (fun W h => form_dig b _ r W h f45 hD) (enters_of Tryz.func128 (by kernel_rfl) rfl) (fun W h => number_any b _ W h (by simp; omega))
    | false =>
    rw [if_neg (by simp)]
    by_cases h34 : c = 34
    · subst h34
      rw [if_pos rfl]
      exact value_by b _ _ w hR 129 (fun W h => form_quo b _ r W h f45 hD rfl) (enters_of Tryz.func129 (by kernel_rfl) rfl) (fun W h => quotation_any b r W h (by omega))
    rw [if_neg h34]
    have f34 : ((c.toNat : Int) == 34) = false := bneF (k := 34) h34
    cases hL : Oct.letterI c.toNat with
    | true =>
      have ht : Sf.tokI c.toNat = true := by rw [tok_is, hL]; rfl
      have htk := tok_cons (r := r) ht
      rw [if_pos (by simp), ← htk.1, ← htk.2]
      exact value_by b _ _ w hR 131 (fun W h => form_let b _ r W h f45 hD f34 hL) (enters_of Tryz.func131 (by kernel_rfl) rfl) (fun W h => token_any b _ W h (by simp; omega))
    | false =>
    rw [Bool.false_or]
    by_cases h42 : c = 42
    · subst h42
      have htk := tok_cons (r := r) (c := 42) (by decide)
      rw [if_pos (by simp), ← htk.1, ← htk.2]
      exact value_by b _ _ w hR 131 (fun W h => form_star b _ r W h f45 hD f34 hL rfl) (enters_of Tryz.func131 (by kernel_rfl) rfl) (fun W h => token_any b _ W h (by simp; omega))
    rw [if_neg (by simpa using h42)]
    have f42 : ((c.toNat : Int) == 42) = false := bneF (k := 42) h42
    by_cases h58 : c = 58
    · subst h58
      rw [if_pos rfl]
      exact value_by b _ _ w hR 132 (fun W h => form_seq b _ r W h f45 hD f34 hL f42 rfl) (enters_of Tryz.func132 (by kernel_rfl) rfl) (fun W h => sequence_any b r W h (by omega))
    rw [if_neg h58]
    have f58 : ((c.toNat : Int) == 58) = false := bneF (k := 58) h58
    by_cases h63 : c = 63
    · subst h63
      rw [if_pos rfl]
      exact value_by b _ _ w hR 133 (fun W h => form_tru b _ r W h f45 hD f34 hL f42 f58 rfl) (enters_of Tryz.func133 (by kernel_rfl) rfl) (fun W h => truth_any b r W h)
    rw [if_neg h63]
    have f63 : ((c.toNat : Int) == 63) = false := bneF (k := 63) h63
    exact value_not b _ w hR (fun W h => form_no b _ r W h f45 hD f34 hL f42 f58 f63)
end Go.Proofs.YtogjekjklknfeaaGreatDoor
