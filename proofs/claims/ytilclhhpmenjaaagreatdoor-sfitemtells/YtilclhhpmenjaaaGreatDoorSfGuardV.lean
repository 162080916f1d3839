/- The contracts of guard at values, at lists of parameters and at strings. -/
import Derived.Test.YtilclhhpmenjaaaGreatDoorSfGuardI
namespace Go.Proofs.YtilclhhpmenjaaaGreatDoor
open Go.RowKit Go.Shelf Go.Maps Go.Deep

/-- What guard answers of a value. -/
def GrdV (w : World) (b : Nat) (o : Option (Sf.Par × List UInt8)) (e : Ending) (w' : World) : Prop :=
  w.grownBy w' (some b) ∧ ((∃ x r, o = some (x, r) ∧ e = .returned (.tuple #[valV x, .string (bA r), .int .i64 0])) ∨ (o = none ∧ e = .returned (.tuple #[valV ⟨[], 0, 0, []⟩, .string ⟨#[]⟩, .int .i64 50])))
theorem results_grdV {fn : Func} (h : fn.results = #[.cell 4 64, .tmp 5, .cell 6 26]) (tmps : Array Value) (w : World) {B C : Nat} {x : Sf.Par} {m : Int} (hp : tmps[4]?.getD undef = .pointer (some ⟨B, 0, none⟩)) (hq : tmps[6]?.getD undef = .pointer (some ⟨C, 0, none⟩)) (hb : CBox w B 64 (vC x)) (hc : Boxed w C 26 (.int .i64 m)) :
    (results fn tmps).run Tryz.prog w = .ok (.tuple #[valV x, tmps.getD 5 undef, .int .i64 m]) w := by
  have hl := load_val hb
  have hm := load_err hc
  simp [results, h, hp, hq, hl, hm, asAddr]
theorem results_grdS {fn : Func} (h : fn.results = #[.tmp 4, .tmp 5, .cell 6 26]) (tmps : Array Value) (w : World) {C : Nat} {m : Int} (hq : tmps[6]?.getD undef = .pointer (some ⟨C, 0, none⟩)) (hc : Boxed w C 26 (.int .i64 m)) :
    (results fn tmps).run Tryz.prog w = .ok (.tuple #[tmps.getD 4 undef, tmps.getD 5 undef, .int .i64 m]) w := by
  have hm := load_err hc
  simp [results, h, hq, hm, asAddr]

set_option maxHeartbeats 1000000 in
set_option maxRecDepth 20000 in
theorem guardV_any (b : Nat) (s : List UInt8) (o : Option (Sf.Par × List UInt8)) (w : World) (hR : Rd b s w) (F : FuncId)
    (hen : ∀ args w, (callFunc F args).run Tryz.prog w = .ok (.enter F args) w)
    (hC : ∀ W, Rd b s W → Calls Tryz.prog F #[.pointer (some ⟨b, 0, none⟩)] W (Got b W (mapV o))) :
    Calls Tryz.prog 71 #[.pointer (some ⟨b, 0, none⟩), .func (.func F) #[.pointer (some ⟨b, 0, none⟩)] #[]] w (GrdV w b o) := by
  have hmf : ∀ (fn : Fn) (first cap : Array Value) (w : World), (Instr.makeFunc fn first cap).run Tryz.prog w = .ok (.func fn first cap) w := fun _ _ _ _ => rfl
  have hlt := hR.lt
  have hR0 := (hR.alloc (.cells zC 64)).alloc (.cells #[.int .i64 0] 26)
  have H1 := Lib.hid (hC _ hR0)
  have hbI := Lib.hid ((CBox.new w 64 zC).alloc (.cells #[.int .i64 0] 26))
  have hbE := Lib.hid (Boxed.new (w.alloc (.cells zC 64)) 26 (.int .i64 0))
  have hsz : (w.alloc (.cells zC 64)).heap.size = w.heap.size + 1 := by simp
  rw [hsz] at hbE
  obtain ⟨m, hm⟩ : ∃ m, mapV o = m := ⟨_, rfl⟩
  rw [hm] at H1
  have HM := Lib.hid hm
  clear hR hR0 hC hsz hm
  go_enter_defers Tryz.func71, Tryz.ntmps71
  go_wp2_with fail
  refine H1.out.mono ?_
  rintro e w1 ⟨hg1, ⟨v, r, ho, rfl, hr⟩ | ⟨ho, rfl⟩⟩
  · obtain ⟨x, rfl, ho'⟩ := val_split (HM.out.trans ho)
    have hI1 := hbI.out.kept hg1 (by simp; omega)
    have hE1 := hbE.out.kept hg1 (by simp; omega)
    have hG1 := g_trans (g_alloc (World.grownBy_alloc w (.cells zC 64) (some b)) (.cells #[.int .i64 0] 26)) hg1
    have hs1 := hE1.lt
    obtain ⟨c0, c1, c2, f0, f1, f2⟩ := hI1.all3
    have HI1 := Lib.hid hI1; have HE1 := Lib.hid hE1; have HG1 := Lib.hid hG1; have HR1 := Lib.hid hr; have HO := Lib.hid ho'
    clear hI1 hE1 hG1 hr ho ho' hbI hbE hg1 H1 HM
    unfold valV vC
    go_wp2_with fail
    obtain ⟨w2, hw2⟩ : ∃ w2, set3 w1 w.heap.size (.int .i64 x.kind) (.int .i64 x.n) (.string (bA x.text)) = w2 := ⟨_, rfl⟩
    have hg2 : w1.grownBy w2 (some w.heap.size) := by rw [← hw2]; exact g_set3 (g_refl _ _) _ _ _ (.inr rfl)
    have HI2 := Lib.hid (show CBox w2 w.heap.size 64 (vC x) by rw [← hw2]; exact HI1.out.set3 _ _ _)
    have HE2 := Lib.hid (HE1.out.kept hg2 (by simp))
    have HR2 := Lib.hid (HR1.out.kept hg2 (by simp; omega))
    have HG2 := Lib.hid (g_row HG1.out hg2 (fun j hj => by cases hj; omega))
    unfold set3 at hw2
    rw [hw2]
    clear hw2 c0 c1 c2 f0 f1 f2 hg2 HI1 HE1 HR1 HG1
    obtain ⟨c0, c1, c2, f0, f1, f2⟩ := HI2.out.all3
    have d0 := HE2.out.cell
    have d1 := HE2.out.frozen
    have r0 := HR2.out.cell
    go_region
    go_wp2_with fail
    have hgA : w2.grownBy (set3 w2 w.heap.size (.int .i64 x.kind) (.int .i64 x.n) (.string (bA x.text))) (some w.heap.size) := g_set3 (g_refl _ _) _ _ _ (.inr rfl)
    have hI3 := HI2.out.set3 (.int .i64 x.kind) (.int .i64 x.n) (.string (bA x.text))
    have hE3 := HE2.out.kept hgA (by simp)
    have hG3 := g_row HG2.out hgA (fun j hj => by cases hj; omega)
    have hgB := g_drew (grownBy_setCell' (set3 w2 w.heap.size (.int .i64 x.kind) (.int .i64 x.n) (.string (bA x.text))) (w.heap.size + 1) (.int .i64 0))
    have hE4 : Boxed (((set3 w2 w.heap.size (.int .i64 x.kind) (.int .i64 x.n) (.string (bA x.text))).setCell ⟨w.heap.size + 1, 0, none⟩ (.int .i64 0)).drew) (w.heap.size + 1) 26 (.int .i64 0) := Boxed.set _ hE3
    have hI4 := CBox.kept hI3 hgB (by simp)
    have hG4 := g_row hG3 hgB (fun j hj => by cases hj; omega)
    generalize hfin : ((set3 w2 w.heap.size (.int .i64 x.kind) (.int .i64 x.n) (.string (bA x.text))).setCell ⟨w.heap.size + 1, 0, none⟩ (.int .i64 0)).drew = w4 at hE4 hI4 hG4
    clear hfin hgB hE3 hI3 hG3 hgA c0 c1 c2 f0 f1 f2 d0 d1 r0
    refine leaves_cons (f := 87) (args := #[.pointer (some ⟨w.heap.size + 1, 0, none⟩)]) (by simp) (by simp [go_sem]) ?_
    refine (catchV_idle (w.heap.size + 1) _).mono ?_
    rintro e u' w3 ⟨rfl, rfl, rfl⟩
    refine ⟨_, results_grdV (x := x) rfl _ _ rfl rfl hI4 hE4, ?_⟩
    rw [HO.out]
    exact ⟨hG4, .inl ⟨x, r, rfl, rfl⟩⟩
  · have hI1 := hbI.out.kept hg1 (by simp; omega)
    have hE1 := hbE.out.kept hg1 (by simp; omega)
    have hG1 := g_trans (g_alloc (World.grownBy_alloc w (.cells zC 64) (some b)) (.cells #[.int .i64 0] 26)) hg1
    have HI1 := Lib.hid hI1; have HE1 := Lib.hid hE1; have HG1 := Lib.hid hG1; have HO := Lib.hid (map_no (HM.out.trans ho))
    clear hI1 hE1 hG1 ho hbI hbE hg1 H1 HM
    go_wp2_with fail
    refine leaves_cons (f := 87) (args := #[.pointer (some ⟨w.heap.size + 1, 0, none⟩)]) (by simp) (by simp [go_sem]) ?_
    refine (catchV_panicking (w.heap.size + 1) _ w1 HE1.out).mono ?_
    rintro e u' w2 ⟨rfl, rfl, hE2, hg2⟩
    refine ⟨_, results_grdV (x := ⟨[], 0, 0, []⟩) rfl _ _ rfl rfl (HI1.out.kept hg2 (by simp)) hE2, ?_⟩
    rw [HO.out]
    exact ⟨g_row HG1.out hg2 (fun j hj => by cases hj; omega), .inr ⟨rfl, rfl⟩⟩

/-- What guard answers there. -/
def GrdL (w : World) (b : Nat) (o : Option (List Sf.Par × List UInt8)) (e : Ending) (w' : World) : Prop :=
  w.grownBy w' (some b) ∧ ((∃ l r v, o = some (l, r) ∧ e = .returned (.tuple #[v, .string (bA r), .int .i64 0]) ∧ w'.ownsRow w.heap.size 44 4 v l.length (parsRow l)) ∨ (o = none ∧ e = .returned (.tuple #[.slice none 0 0, .string ⟨#[]⟩, .int .i64 50])))
set_option maxHeartbeats 1000000 in
set_option maxRecDepth 20000 in
theorem guardL_any (b : Nat) (s : List UInt8) (o : Option (List Sf.Par × List UInt8)) (w : World) (hR : Rd b s w) (F : FuncId)
    (hen : ∀ args w, (callFunc F args).run Tryz.prog w = .ok (.enter F args) w)
    (hC : ∀ W, Rd b s W → Calls Tryz.prog F #[.pointer (some ⟨b, 0, none⟩)] W (GotL b W o)) :
    Calls Tryz.prog 33 #[.pointer (some ⟨b, 0, none⟩), .func (.func F) #[.pointer (some ⟨b, 0, none⟩)] #[]] w (GrdL w b o) := by
  have hmf : ∀ (fn : Fn) (first cap : Array Value) (w : World), (Instr.makeFunc fn first cap).run Tryz.prog w = .ok (.func fn first cap) w := fun _ _ _ _ => rfl
  have hlt := hR.lt
  have hR0 := hR.alloc (.cells #[.int .i64 0] 26)
  have H1 := Lib.hid (hC _ hR0)
  have hbE := Lib.hid (Boxed.new w 26 (.int .i64 0))
  clear hR hR0 hC
  go_enter_defers Tryz.func33, Tryz.ntmps33
  go_wp2_with fail
  refine H1.out.mono ?_
  rintro e w1 ⟨hg1, ⟨l, r, v, ho, rfl, hr, hw⟩ | ⟨ho, rfl⟩⟩
  · obtain ⟨va, vc, rfl⟩ := slice4 hw
    have hE1 := hbE.out.kept hg1 (by simp; omega)
    have hG1 := g_trans (World.grownBy_alloc w (.cells #[.int .i64 0] 26) (some b)) hg1
    have d0 := hE1.cell
    have d1 := hE1.frozen
    have r0 := hr.cell
    have hw' : w1.ownsRow (w.heap.size + 1) 44 4 (.slice va l.length vc) l.length (parsRow l) := by simpa using hw
    have HW1 := Lib.hid hw'
    have ho' := ho
    clear hw hw'
    have HE1 := Lib.hid hE1; have HG1 := Lib.hid hG1; have HO := Lib.hid ho'
    clear hE1 hG1 hr ho ho' hbE hg1 H1
    go_wp2_with fail
    go_region
    go_wp2_with fail
    have hgB := g_drew (grownBy_setCell' w1 w.heap.size (.int .i64 0))
    have hE4 : Boxed ((w1.setCell ⟨w.heap.size, 0, none⟩ (.int .i64 0)).drew) w.heap.size 26 (.int .i64 0) := Boxed.set _ HE1.out
    have hG4 := g_row HG1.out hgB (fun j hj => by cases hj; omega)
    have hW4 := owns_base4 (HW1.out.kept hgB (not_own4 HW1.out (by omega))) (show w.heap.size ≤ w.heap.size + 1 by omega)
    refine leaves_cons (f := 60) (args := #[.pointer (some ⟨w.heap.size, 0, none⟩)]) (by simp) (by simp [go_sem]) ?_
    refine (catchL_idle w.heap.size _).mono ?_
    rintro e u' w3 ⟨rfl, rfl, rfl⟩
    refine ⟨_, results_grdS rfl _ _ rfl hE4, ?_⟩
    rw [HO.out]
    exact ⟨hG4, .inl ⟨l, r, _, rfl, rfl, hW4⟩⟩
  · have hE1 := hbE.out.kept hg1 (by simp; omega)
    have hG1 := g_trans (World.grownBy_alloc w (.cells #[.int .i64 0] 26) (some b)) hg1
    have HE1 := Lib.hid hE1; have HG1 := Lib.hid hG1; have HO := Lib.hid ho
    clear hE1 hG1 ho hbE hg1 H1
    go_wp2_with fail
    refine leaves_cons (f := 60) (args := #[.pointer (some ⟨w.heap.size, 0, none⟩)]) (by simp) (by simp [go_sem]) ?_
    refine (catchL_panicking w.heap.size _ w1 HE1.out).mono ?_
    rintro e u' w2 ⟨rfl, rfl, hE2, hg2⟩
    refine ⟨_, results_grdS rfl _ _ rfl hE2, ?_⟩
    rw [HO.out]
    exact ⟨g_row HG1.out hg2 (fun j hj => by cases hj; omega), .inr ⟨rfl, rfl⟩⟩

theorem keyo_split {o : Option (List UInt8 × List UInt8)} {v : Value} {r : List UInt8} (h : mapK o = some (v, r)) : ∃ k, v = .string (bA k) ∧ o = some (k, r) := by
  cases o with
  | none => cases h
  | some x => simp only [mapK, Option.map_some, Option.some.injEq, Prod.mk.injEq] at h; exact ⟨x.1, h.1.symm, by rw [← h.2]⟩
theorem key_no {o : Option (List UInt8 × List UInt8)} (h : mapK o = none) : o = none := by cases o; rfl; cases h

/-- What guard answers there. -/
def GrdK (w : World) (b : Nat) (o : Option (List UInt8 × List UInt8)) (e : Ending) (w' : World) : Prop :=
  w.grownBy w' (some b) ∧ ((∃ k r, o = some (k, r) ∧ e = .returned (.tuple #[.string (bA k), .string (bA r), .int .i64 0])) ∨ (o = none ∧ e = .returned (.tuple #[.string ⟨#[]⟩, .string ⟨#[]⟩, .int .i64 50])))
set_option maxHeartbeats 1000000 in
set_option maxRecDepth 20000 in
theorem guardK_any (b : Nat) (s : List UInt8) (o : Option (List UInt8 × List UInt8)) (w : World) (hR : Rd b s w) (F : FuncId)
    (hen : ∀ args w, (callFunc F args).run Tryz.prog w = .ok (.enter F args) w)
    (hC : ∀ W, Rd b s W → Calls Tryz.prog F #[.pointer (some ⟨b, 0, none⟩)] W (Got b W (mapK o))) :
    Calls Tryz.prog 37 #[.pointer (some ⟨b, 0, none⟩), .func (.func F) #[.pointer (some ⟨b, 0, none⟩)] #[]] w (GrdK w b o) := by
  have hmf : ∀ (fn : Fn) (first cap : Array Value) (w : World), (Instr.makeFunc fn first cap).run Tryz.prog w = .ok (.func fn first cap) w := fun _ _ _ _ => rfl
  have hlt := hR.lt
  have hR0 := hR.alloc (.cells #[.int .i64 0] 26)
  have H1 := Lib.hid (hC _ hR0)
  have hbE := Lib.hid (Boxed.new w 26 (.int .i64 0))
  clear hR hR0 hC
  go_enter_defers Tryz.func37, Tryz.ntmps37
  go_wp2_with fail
  refine H1.out.mono ?_
  rintro e w1 ⟨hg1, ⟨v, r, ho, rfl, hr⟩ | ⟨ho, rfl⟩⟩
  · obtain ⟨k, rfl, ho'⟩ := keyo_split ho
    have hE1 := hbE.out.kept hg1 (by simp; omega)
    have hG1 := g_trans (World.grownBy_alloc w (.cells #[.int .i64 0] 26) (some b)) hg1
    have d0 := hE1.cell
    have d1 := hE1.frozen
    have r0 := hr.cell
    skip
    have HE1 := Lib.hid hE1; have HG1 := Lib.hid hG1; have HO := Lib.hid ho'
    clear hE1 hG1 hr ho ho' hbE hg1 H1
    go_wp2_with fail
    go_region
    go_wp2_with fail
    have hgB := g_drew (grownBy_setCell' w1 w.heap.size (.int .i64 0))
    have hE4 : Boxed ((w1.setCell ⟨w.heap.size, 0, none⟩ (.int .i64 0)).drew) w.heap.size 26 (.int .i64 0) := Boxed.set _ HE1.out
    have hG4 := g_row HG1.out hgB (fun j hj => by cases hj; omega)
    skip
    refine leaves_cons (f := 65) (args := #[.pointer (some ⟨w.heap.size, 0, none⟩)]) (by simp) (by simp [go_sem]) ?_
    refine (catchK_idle w.heap.size _).mono ?_
    rintro e u' w3 ⟨rfl, rfl, rfl⟩
    refine ⟨_, results_grdS rfl _ _ rfl hE4, ?_⟩
    rw [HO.out]
    exact ⟨hG4, .inl ⟨k, r, rfl, rfl⟩⟩
  · have hE1 := hbE.out.kept hg1 (by simp; omega)
    have hG1 := g_trans (World.grownBy_alloc w (.cells #[.int .i64 0] 26) (some b)) hg1
    have HE1 := Lib.hid hE1; have HG1 := Lib.hid hG1; have HO := Lib.hid ho
    clear hE1 hG1 ho hbE hg1 H1
    go_wp2_with fail
    refine leaves_cons (f := 65) (args := #[.pointer (some ⟨w.heap.size, 0, none⟩)]) (by simp) (by simp [go_sem]) ?_
    refine (catchK_panicking w.heap.size _ w1 HE1.out).mono ?_
    rintro e u' w2 ⟨rfl, rfl, hE2, hg2⟩
    refine ⟨_, results_grdS rfl _ _ rfl hE2, ?_⟩
    rw [key_no HO.out]
    exact ⟨g_row HG1.out hg2 (fun j hj => by cases hj; omega), .inr ⟨rfl, rfl⟩⟩
end Go.Proofs.YtilclhhpmenjaaaGreatDoor
