/- The contracts of a reader's token, sequence, truth and key. -/
import Derived.Test.YtgddmihojladfaaGreatDoorSfBox
namespace Go.Proofs.YtgddmihojladfaaGreatDoor
open Go.RowKit Go.Shelf

/-- What a reading call comes to: a value, and what is left; or the panic. -/
def Got (b : Nat) (w : World) (o : Option (Value × List UInt8)) (e : Ending) (w' : World) : Prop :=
  w.grownBy w' (some b) ∧ ((∃ v r, o = some (v, r) ∧ e = .returned v ∧ Rd b r w') ∨ (o = none ∧ e = .panicked [fault]))
theorem Got.ok {b : Nat} {w w' : World} {v : Value} {r : List UInt8} (hg : w.grownBy w' (some b)) (hr : Rd b r w') : Got b w (some (v, r)) (.returned v) w' := ⟨hg, .inl ⟨v, r, rfl, rfl, hr⟩⟩
theorem Got.no {b : Nat} {w w' : World} (hg : w.grownBy w' (some b)) : Got b w none (.panicked [fault]) w' := ⟨hg, .inr ⟨rfl, rfl⟩⟩
theorem Rd.alloc {b : Nat} {s : List UInt8} {w : World} (h : Rd b s w) (o : Obj) : Rd b s (w.alloc o) := Boxed.alloc h o
theorem Rd.lt {b : Nat} {s : List UInt8} {w : World} (h : Rd b s w) : b < w.heap.size := Boxed.lt h

theorem Rd.kept {b : Nat} {s : List UInt8} {w w' : World} {row : Option Nat} (h : Rd b s w) (hg : w.grownBy w' row) (hne : some b ≠ row) : Rd b s w' := Boxed.kept h hg hne
theorem Rd.other {b C i : Nat} {s : List UInt8} {w : World} {v : Value} (h : Rd b s w) (hne : C ≠ b) : Rd b s (w.setCell ⟨C, i, none⟩ v) := CBox.other h hne
theorem Rd.other3 {b C : Nat} {s : List UInt8} {w : World} (h : Rd b s w) (hne : C ≠ b) (x y z : Value) : Rd b s (set3 w C x y z) := CBox.other3 h hne x y z
theorem Rd.other4 {b C : Nat} {s : List UInt8} {w : World} (h : Rd b s w) (hne : C ≠ b) (x y z u : Value) : Rd b s (set4 w C x y z u) := CBox.other4 h hne x y z u

/-- The zero value, where a result is to lie. -/
def zC : Array Value := #[.int .i64 0, .int .i64 0, .string ⟨#[]⟩]
set_option maxHeartbeats 400000 in
theorem token_any (b : Nat) (s : List UInt8) (w : World) (hR : Rd b s w) (hs : s.length ≤ 140737488355328) : Calls Tryz.prog 113 #[.pointer (some ⟨b, 0, none⟩)] w (Got b w (some (valV (Sf.kv 4 0 (Sf.tw Sf.tokI s)), Sf.dw Sf.tokI s))) := by
  have hlt := hR.lt
  have H := Lib.hid (take_any _ _ tellsTok b s _ (hR.alloc (.cells zC 111)) hs)
  have hb := Lib.hid (CBox.new w 111 zC)
  clear hR
  go_enter Tryz.func113, Tryz.ntmps113
  go_wp2_with fail
  refine H.out.mono ?_
  rintro e w1 ⟨rfl, hr, hg⟩
  have hb1 := hb.out.kept hg (by simp; omega)
  obtain ⟨c0, c1, c2, f0, f1, f2⟩ := hb1.all3
  have hG := Lib.hid (g_trans (World.grownBy_alloc w _ _) hg)
  have HB := Lib.hid hb1
  clear hg hb hb1
  go_wp2_with fail
  refine bodyPost_ret (results_val (x := Sf.kv 4 0 (Sf.tw Sf.tokI s)) rfl _ _ rfl (HB.out.set3 _ _ _)) rfl (Got.ok ?_ ?_)
  · exact g_set3 hG.out _ _ _ (.inl (Nat.le_refl _))
  · exact hr.other3 (by omega) _ _ _

theorem truthV_any (n : Int) (w : World) : Calls Tryz.prog 117 #[.int .i64 n] w fun e w' => e = .returned (valV (Sf.kv 6 n [])) ∧ Below w.heap.size w w' := by
  go_enter Tryz.func117, Tryz.ntmps117
  go_wp2
  refine bodyPost_ret (results_val (x := Sf.kv 6 n []) rfl _ _ rfl (CBox.new w _ _)) rfl ⟨rfl, ?_⟩
  exact (Below.refl _ _).alloc (Nat.le_refl _) _
/-- What stands behind a colon. -/
def seqOf (r : List UInt8) : Option (Sf.Par × List UInt8) := if (Sf.dw Sf.baseI r).headD 0 = 58 then some (Sf.kv 5 0 (Sf.tw Sf.baseI r), (Sf.dw Sf.baseI r).drop 1) else none
/-- What stands behind a question mark. -/
def truOf (r : List UInt8) : Option (Sf.Par × List UInt8) := if r.headD 0 = 48 then some (Sf.kv 6 0 [], r.drop 1) else if r.headD 0 = 49 then some (Sf.kv 6 1 [], r.drop 1) else none
def mapV (o : Option (Sf.Par × List UInt8)) : Option (Value × List UInt8) := o.map fun x => (valV x.1, x.2)
theorem ne_byte {d : UInt8} {c : Nat} (h : ¬ d.toNat = c) : ¬ (d.toNat : Int) = (c : Int) := by omega

set_option maxHeartbeats 400000 in
theorem sequence_any (b : Nat) (r : List UInt8) (w : World) (hR : Rd b (58 :: r) w) (hs : r.length ≤ 140737488355327) : Calls Tryz.prog 114 #[.pointer (some ⟨b, 0, none⟩)] w (Got b w (mapV (seqOf r))) := by
  have hlt := hR.lt
  have H := Lib.hid (skip_yes b 58 58 rfl r _ (hR.alloc (.cells zC 111)))
  have hb := Lib.hid (CBox.new w 111 zC)
  clear hR
  obtain ⟨o, ho⟩ : ∃ o, mapV (seqOf r) = o := ⟨_, rfl⟩
  rw [ho]
  have HO := Lib.hid ho
  clear ho
  go_enter Tryz.func114, Tryz.ntmps114
  go_wp2_with fail
  refine H.out.mono ?_
  rintro e w1 ⟨rfl, hR1, hg1⟩
  have H2 := Lib.hid (take_any _ _ tellsBase b r w1 hR1 (by omega))
  clear hR1
  go_wp2_with fail
  refine H2.out.mono ?_
  rintro e w2 ⟨rfl, hR2, hg2⟩
  have hb1 := Lib.hid (hb.out.kept (g_trans hg1 hg2) (by simp; omega))
  have hg := Lib.hid (g_trans (World.grownBy_alloc w _ _) (g_trans hg1 hg2))
  clear hg1 hg2 hb
  cases hd : Sf.dw Sf.baseI r with
  | nil =>
    rw [hd] at hR2
    have H3 := Lib.hid (skip_nil b 58 w2 hR2)
    have hn : o = none := by rw [← HO.out]; simp [seqOf, mapV, hd]
    have HN := Lib.hid hn
    clear hn hR2 hd
    go_wp2_with (first | (go_at_call 97; refine H3.out.mono ?_; rintro e w3 ⟨rfl, rfl⟩) | (go_at_call 123; refine (need_no _).mono ?_; rintro e w3 ⟨rfl, rfl⟩))
    refine ⟨rfl, ?_⟩
    rw [HN.out]
    exact Got.no hg.out
  | cons d t =>
    rw [hd] at hR2
    by_cases h58 : d = 58
    · subst h58
      have H3 := Lib.hid (skip_yes b 58 58 rfl t w2 hR2)
      have hn : o = some (valV (Sf.kv 5 0 (Sf.tw Sf.baseI r)), t) := by rw [← HO.out]; simp [seqOf, mapV, hd]
      have HN := Lib.hid hn
      clear hn hR2 hd
      go_wp2_with fail
      refine H3.out.mono ?_
      rintro e w3 ⟨rfl, hr3, hg3⟩
      have hb3 := hb1.out.kept hg3 (by simp; omega)
      obtain ⟨c0, c1, c2, f0, f1, f2⟩ := hb3.all3
      have HB := Lib.hid hb3
      clear hb3
      go_wp2_with (go_at_call 123; refine (need_yes _).mono ?_; rintro e w4 ⟨rfl, rfl⟩)
      rw [HN.out]
      refine bodyPost_ret (results_val (x := Sf.kv 5 0 (Sf.tw Sf.baseI r)) rfl _ _ rfl (HB.out.set3 _ _ _)) rfl (Got.ok ?_ ?_)
      · exact g_set3 (g_trans hg.out hg3) _ _ _ (.inl (Nat.le_refl _))
      · exact hr3.other3 (by omega) _ _ _
    · have H3 := Lib.hid (skip_off b 58 d (ne_byte (c := 58) fun e => h58 (UInt8.toNat_inj.1 e)) t w2 hR2)
      have hn : o = none := by rw [← HO.out]; simp [seqOf, mapV, hd, h58]
      have HN := Lib.hid hn
      clear hn hR2 hd h58
      go_wp2_with (first | (go_at_call 97; refine H3.out.mono ?_; rintro e w3 ⟨rfl, rfl⟩) | (go_at_call 123; refine (need_no _).mono ?_; rintro e w3 ⟨rfl, rfl⟩))
      refine ⟨rfl, ?_⟩
      rw [HN.out]
      exact Got.no hg.out
end Go.Proofs.YtgddmihojladfaaGreatDoor
