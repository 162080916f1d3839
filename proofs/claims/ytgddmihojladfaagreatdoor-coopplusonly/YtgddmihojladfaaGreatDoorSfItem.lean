/- The contract of a reader's item. -/
import Derived.Test.YtgddmihojladfaaGreatDoorSfParams
import Derived.Deep.RegionHeld3
import Derived.RegionDies
namespace Go.Proofs.YtgddmihojladfaaGreatDoor
open Go.RowKit Go.Shelf Go.Maps Go.Deep

/-- What reading an item comes to. -/
def GotI (b : Nat) (w : World) (o : Option (Sf.Itm × List UInt8)) (e : Ending) (w' : World) : Prop :=
  w.grownBy w' (some b) ∧ ((∃ x r v, o = some (x, r) ∧ e = .returned (itmV x.kind x.n x.text v) ∧ Rd b r w' ∧ w'.ownsRow w.heap.size 72 4 v x.params.length (parsRow x.params)) ∨ (o = none ∧ e = .panicked [fault]))
theorem GotI.no {b : Nat} {w w' : World} (hg : w.grownBy w' (some b)) : GotI b w none (.panicked [fault]) w' := ⟨hg, .inr ⟨rfl, rfl⟩⟩
def zI : Array Value := #[.int .i64 0, .int .i64 0, .string ⟨#[]⟩, .slice none 0 0]
theorem params_ok (b : Nat) (s : List UInt8) (l : List Sf.Par) (r : List UInt8) (w : World) (hR : Rd b s w) (hs : s.length ≤ 1000000) (h : Sf.pars s = some (l, r)) : Calls Tryz.prog 80 #[.pointer (some ⟨b, 0, none⟩)] w fun e w' => ∃ a c, e = .returned (.slice a l.length c) ∧ Rd b r w' ∧ w.grownBy w' (some b) ∧ w'.ownsRow w.heap.size 72 4 (.slice a l.length c) l.length (parsRow l) := by
  refine (params_any b s w hR hs).mono ?_
  rintro e w' ⟨hg, ⟨l', r', v, ho, rfl, hr, hw⟩ | ⟨ho, _⟩⟩
  · rw [h] at ho
    cases ho
    obtain ⟨a, c, rfl⟩ := slice4 hw
    exact ⟨a, c, rfl, hr, hg, hw⟩
  · rw [h] at ho; cases ho
theorem params_no (b : Nat) (s : List UInt8) (w : World) (hR : Rd b s w) (hs : s.length ≤ 1000000) (h : Sf.pars s = none) : Calls Tryz.prog 80 #[.pointer (some ⟨b, 0, none⟩)] w fun e w' => e = .panicked [fault] ∧ w.grownBy w' (some b) := by
  refine (params_any b s w hR hs).mono ?_
  rintro e w' ⟨hg, ⟨l', r', v, ho, rfl, hr, hw⟩ | ⟨_, rfl⟩⟩
  · rw [h] at ho; cases ho
  · exact ⟨rfl, hg⟩
/-- What the item's last statement asks of the world. -/
structure RdyI (w : World) (b : Nat) (x : Sf.Par) (Bv : Nat) (W : World) : Prop where
  g : w.grownBy W (some b)
  vbox : CBox W Bv 111 (vC x)
theorem RdyI.all {w : World} {b : Nat} {x : Sf.Par} {Bv : Nat} {W : World} (h : RdyI w b x Bv W) : W.cell? ⟨Bv, 0, none⟩ = some (.int .i64 x.kind) ∧ W.cell? ⟨Bv, 1, none⟩ = some (.int .i64 x.n) ∧ W.cell? ⟨Bv, 2, none⟩ = some (.string (bA x.text)) ∧ RdyI w b x Bv W := ⟨h.vbox.c 0, h.vbox.c 1, h.vbox.c 2, h⟩
theorem RdyI.drew {w : World} {b : Nat} {x : Sf.Par} {Bv : Nat} {W : World} (h : RdyI w b x Bv W) : RdyI w b x Bv W.drew := ⟨⟨h.g.os, h.g.tape, h.g.output, h.g.size, h.g.block⟩, h.vbox⟩
theorem RdyI.on {w : World} {b : Nat} {x : Sf.Par} {Bv : Nat} {W W' : World} (h : RdyI w b x Bv W) (hg : W.grownBy W' (some b)) (h2 : b ≠ Bv) : RdyI w b x Bv W' := ⟨g_trans h.g hg, h.vbox.kept hg (by simpa using h2.symm)⟩
theorem RdyI.set {w : World} {b : Nat} {x : Sf.Par} {Bv : Nat} {W : World} (h : RdyI w b x Bv W) (hne : w.heap.size ≠ Bv) (p q r s : Value) : RdyI w b x Bv (set4 W w.heap.size p q r s) := ⟨g_set4 h.g _ _ _ _ (.inl (Nat.le_refl _)), h.vbox.other4 hne _ _ _ _⟩
theorem value_len {s r : List UInt8} {x : Sf.Par} (h : Sf.value s = some (x, r)) : r.length ≤ s.length := by
  obtain ⟨a, t, hr⟩ := Sf.value_reads h
  rw [hr.eq]; simp
theorem Rd.drew {b : Nat} {s : List UInt8} {w : World} (h : Rd b s w) : Rd b s w.drew := h

set_option maxHeartbeats 4000000 in
set_option maxRecDepth 100000 in
theorem item_any (b : Nat) (s : List UInt8) (w : World) (hR : Rd b s w) (hs : s.length ≤ 1000000) : Calls Tryz.prog 62 #[.pointer (some ⟨b, 0, none⟩)] w (GotI b w (Sf.next s)) := by
  have hlt := hR.lt
  have hR0 := hR.alloc (.cells zI 66)
  have H1 := Lib.hid (value_any b s _ hR0 (by omega))
  have hb := Lib.hid (CBox.new w 66 zI)
  obtain ⟨o, ho⟩ : ∃ o, Sf.next s = o := ⟨_, rfl⟩
  rw [ho]
  have HO := Lib.hid ho
  clear hR hR0 ho
  go_enter Tryz.func62, Tryz.ntmps62
  go_wp2_with fail
  refine H1.out.mono ?_
  rintro e w1 ⟨hg1, ⟨v, r, hk, rfl, hr1⟩ | ⟨hk, rfl⟩⟩
  · obtain ⟨x, rfl, hv⟩ := val_split hk
    have hrl := value_len hv
    have hb1 := hb.out.kept hg1 (by simp; omega)
    have hsz : w.heap.size < w1.heap.size := hb1.lt
    obtain ⟨w2, hw2⟩ : ∃ w2, w1.alloc (.cells (vC x) 111) = w2 := ⟨_, rfl⟩
    have hrd : RdyI w b x w1.heap.size w2 := by
      rw [← hw2]
      exact ⟨g_alloc (g_trans (World.grownBy_alloc w _ _) hg1) _, CBox.new _ _ _⟩
    have hbx : CBox w2 w.heap.size 66 zI := by rw [← hw2]; exact hb1.alloc _
    have hR2 : Rd b r w2 := by rw [← hw2]; exact hr1.alloc _
    have hw2' : w1.alloc (.cells #[.int .i64 x.kind, .int .i64 x.n, .string (bA x.text)] 111) = w2 := hw2
    have HW2 := Lib.hid hw2'
    clear hk hb hb1 hg1 hr1 hw2 hw2' H1
    unfold valV vC
    go_wp2_with fail
    rw [HW2.out]
    clear HW2
    cases hp : Sf.pars r with
    | none =>
      have hn : o = none := by rw [← HO.out]; unfold Sf.next; rw [hv]; simp only [hp]
      have HN := Lib.hid hn
      have H2 := Lib.hid (fun W (h : Rd b r W) => params_no b r W h (by omega) hp)
      have c0 := hrd.vbox.c 0
      have c1 := hrd.vbox.c 1
      have c2 := hrd.vbox.c 2
      simp only [vC] at c0 c1 c2
      have HG := Lib.hid hrd.drew.g
      have HR2 := Lib.hid hR2.drew
      clear hn hv hp hrd hR2
      go_region_dies
      all_goals (refine (H2.out _ HR2.out).mono ?_; rintro e w3 ⟨rfl, hg3⟩; exact ⟨rfl, by rw [HN.out]; exact GotI.no (g_trans HG.out hg3)⟩)
    | some y =>
      obtain ⟨l, r'⟩ := y
      have hn : o = some (⟨x.kind, x.n, x.text, l⟩, r') := by rw [← HO.out]; unfold Sf.next; rw [hv]; simp only [hp]
      have HN := Lib.hid hn
      have H2 := Lib.hid (fun W (h : Rd b r W) => params_ok b r l r' W h (by omega) hp)
      clear hn hv hp
      have hne1 : some w.heap.size ≠ some b := by simp; omega
      have hne2 : b ≠ w1.heap.size := by omega
      go_region_held3 (fun w' => w'.cell? ⟨w1.heap.size, 0, none⟩ = some (.int .i64 x.kind) ∧ w'.cell? ⟨w1.heap.size, 1, none⟩ = some (.int .i64 x.n) ∧ w'.cell? ⟨w1.heap.size, 2, none⟩ = some (.string (bA x.text)) ∧ RdyI w b x w1.heap.size w')
        (first
          | exact hrd.all
          | exact hrd.drew.all
          | exact hrd3.all
          | exact (hrd3.set (by omega) _ _ _ _).all)
        (first
          | (go_at_call 80; refine (H2.out _ hR2.drew).mono ?_; rintro e w3 ⟨pa, pc, rfl, hR3, hg3, hw3⟩; have hrd3 := hrd.drew.on hg3 hne2; have hbx3 := CBox.kept (W := w2.drew) hbx hg3 hne1; obtain ⟨c0, c1, c2, c3, f0, f1, f2, f3⟩ := hbx3.all4))
      have hvl := hrd.vbox.lt
      have hg4 : w3.grownBy (set4 w3 w.heap.size (.int .i64 x.kind) (.int .i64 x.n) (.string (bA x.text)) (.slice pa l.length pc)) (some w.heap.size) := g_set4 (g_refl _ _) _ _ _ _ (.inr rfl)
      have hw4 := owns_base4 (hw3.kept hg4 (not_own4 hw3 (by show w.heap.size < w2.heap.size; omega))) (show w.heap.size ≤ w2.heap.size by omega)
      have HW4 := Lib.hid hw4; have HRD3 := Lib.hid hrd3; have HBX3 := Lib.hid hbx3; have HR3 := Lib.hid hR3
      rename_i hHeld
      clear hHeld hw4 hg4 hrd hbx hR2 H2 hg3 hw3 hrd3 hbx3 hR3 c0 c1 c2 c3 f0 f1 f2 f3
      go_wp2_with fail
      rw [HN.out]
      refine bodyPost_ret (results_itm rfl _ _ rfl (HBX3.out.set4 _ _ _ _)) rfl ⟨?_, .inl ⟨_, r', .slice pa l.length pc, rfl, rfl, ?_, HW4.out⟩⟩
      · exact g_set4 HRD3.out.g _ _ _ _ (.inl (Nat.le_refl _))
      · exact HR3.out.other4 (by omega) _ _ _ _
  · have hn : o = none := by rw [← HO.out]; unfold Sf.next; rw [map_no hk]
    have HN := Lib.hid hn
    clear hn hk
    go_wp2_with fail
    refine ⟨rfl, ?_⟩
    rw [HN.out]
    exact GotI.no (g_trans (World.grownBy_alloc w _ _) hg1)
end Go.Proofs.YtgddmihojladfaaGreatDoor
