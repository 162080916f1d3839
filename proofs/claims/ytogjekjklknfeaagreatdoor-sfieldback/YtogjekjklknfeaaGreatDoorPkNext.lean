/- Texts of one layer, joined. -/
import Derived.Test.YtogjekjklknfeaaGreatDoorPkPar
import Derived.Defers
import Derived.Recover
import Derived.RegionTactic
import Derived.Test.YtogjekjklknfeaaGreatDoorPkSfm

/- The contracts of guard's deferred closure, at each of its four types. -/

namespace Go.Proofs.YtogjekjklknfeaaGreatDoor
open Go.RowKit Go.Shelf Go.Maps Go.Deep

theorem assert_ours (w : World) : (Instr.typeAssert (.iface 125 (.agg #[])) 20 125 true).run Tryz.prog w = .ok (.tuple #[.agg #[], .bool true]) w := by kernel_rfl
/-- The panic, recovered. -/
def caught : PanicEntry := { v := .iface 125 (.agg #[]), recovered := true }
/-- The error's box, and all else as it was. -/
def Caught (Be : Nat) (w w' : World) : Prop := Boxed w' Be 24 (.int .i64 50) ∧ w.grownBy w' (some Be)

set_option maxHeartbeats 400000 in
set_option maxRecDepth 20000 in
theorem catchI_panicking (Be : Nat) (x : Value) (w : World) (hb : Boxed w Be 24 x) :
    CallsD Tryz.prog 88 #[.pointer (some ⟨Be, 0, none⟩)] (.panicking [fault]) w fun e u' w' => e = .returned (.tuple #[]) ∧ u' = .panicking [caught] ∧ Caught Be w w' := by
  refine callsD_of_wpS Tryz.func88 rfl fun c₀ cs hu => ?_
  unfold fault at hu
  have hb1 := hb.alloc (.cells #[] 125)
  have hc := hb1.cell
  have hz := hb1.frozen
  have HC : Hid (Caught Be w ((w.alloc (.cells #[] 125)).setCell ⟨Be, 0, none⟩ (.int .i64 50))) := Lib.hid ⟨hb1.set _, g_trans (World.grownBy_alloc w _ _) (grownBy_setCell' _ _ _)⟩
  clear hb hb1
  apply wpS_seq
  apply wpS_region
  simp [wpOpsS, go_sem, recoverD, hu, Tryz.ntmps88, Exit.thenS]
  refine wpS_of_wp ?_
  have ht : (#[Value.pointer (some ⟨Be, 0, none⟩)] ++ ((Array.replicate 14 undef).setIfInBounds 3 (.iface 125 (.agg #[]))).setIfInBounds 0 (.iface 125 (.agg #[]))) = #[.pointer (some ⟨Be, 0, none⟩), .iface 125 (.agg #[]), undef, undef, .iface 125 (.agg #[]), undef, undef, undef, undef, undef, undef, undef, undef, undef, undef] := rfl
  rw [ht]
  clear ht hu
  have hta := assert_ours
  go_wp2_with fail
  simp [bodyPostS, results, Tryz.results88, caught]
  exact HC.out
set_option maxHeartbeats 400000 in
set_option maxRecDepth 20000 in
theorem catchI_idle (Be : Nat) (w : World) :
    CallsD Tryz.prog 88 #[.pointer (some ⟨Be, 0, none⟩)] .returning w fun e u' w' => e = .returned (.tuple #[]) ∧ u' = .returning ∧ w' = w := by
  refine callsD_of_wpS Tryz.func88 rfl fun c₀ cs hu => ?_
  apply wpS_seq
  apply wpS_region
  simp [wpOpsS, go_sem, recoverD, hu, Tryz.ntmps88, Exit.thenS]
  refine wpS_of_wp ?_
  have ht : (#[Value.pointer (some ⟨Be, 0, none⟩)] ++ ((Array.replicate 14 undef).setIfInBounds 3 .nilIface).setIfInBounds 0 .nilIface) = #[.pointer (some ⟨Be, 0, none⟩), .nilIface, undef, undef, .nilIface, undef, undef, undef, undef, undef, undef, undef, undef, undef, undef] := rfl
  rw [ht]
  have HU := Lib.hid hu
  clear ht hu
  go_wp2_with fail
  simp [bodyPostS, results, Tryz.results88]
  have h := HU.out
  cases c₀
  simp_all

set_option maxHeartbeats 400000 in
set_option maxRecDepth 20000 in
theorem catchL_panicking (Be : Nat) (x : Value) (w : World) (hb : Boxed w Be 24 x) :
    CallsD Tryz.prog 108 #[.pointer (some ⟨Be, 0, none⟩)] (.panicking [fault]) w fun e u' w' => e = .returned (.tuple #[]) ∧ u' = .panicking [caught] ∧ Caught Be w w' := by
  refine callsD_of_wpS Tryz.func108 rfl fun c₀ cs hu => ?_
  unfold fault at hu
  have hb1 := hb.alloc (.cells #[] 125)
  have hc := hb1.cell
  have hz := hb1.frozen
  have HC : Hid (Caught Be w ((w.alloc (.cells #[] 125)).setCell ⟨Be, 0, none⟩ (.int .i64 50))) := Lib.hid ⟨hb1.set _, g_trans (World.grownBy_alloc w _ _) (grownBy_setCell' _ _ _)⟩
  clear hb hb1
  apply wpS_seq
  apply wpS_region
  simp [wpOpsS, go_sem, recoverD, hu, Tryz.ntmps108, Exit.thenS]
  refine wpS_of_wp ?_
  have ht : (#[Value.pointer (some ⟨Be, 0, none⟩)] ++ ((Array.replicate 14 undef).setIfInBounds 3 (.iface 125 (.agg #[]))).setIfInBounds 0 (.iface 125 (.agg #[]))) = #[.pointer (some ⟨Be, 0, none⟩), .iface 125 (.agg #[]), undef, undef, .iface 125 (.agg #[]), undef, undef, undef, undef, undef, undef, undef, undef, undef, undef] := rfl
  rw [ht]
  clear ht hu
  have hta := assert_ours
  go_wp2_with fail
  simp [bodyPostS, results, Tryz.results108, caught]
  exact HC.out
set_option maxHeartbeats 400000 in
set_option maxRecDepth 20000 in
theorem catchL_idle (Be : Nat) (w : World) :
    CallsD Tryz.prog 108 #[.pointer (some ⟨Be, 0, none⟩)] .returning w fun e u' w' => e = .returned (.tuple #[]) ∧ u' = .returning ∧ w' = w := by
  refine callsD_of_wpS Tryz.func108 rfl fun c₀ cs hu => ?_
  apply wpS_seq
  apply wpS_region
  simp [wpOpsS, go_sem, recoverD, hu, Tryz.ntmps108, Exit.thenS]
  refine wpS_of_wp ?_
  have ht : (#[Value.pointer (some ⟨Be, 0, none⟩)] ++ ((Array.replicate 14 undef).setIfInBounds 3 .nilIface).setIfInBounds 0 .nilIface) = #[.pointer (some ⟨Be, 0, none⟩), .nilIface, undef, undef, .nilIface, undef, undef, undef, undef, undef, undef, undef, undef, undef, undef] := rfl
  rw [ht]
  have HU := Lib.hid hu
  clear ht hu
  go_wp2_with fail
  simp [bodyPostS, results, Tryz.results108]
  have h := HU.out
  cases c₀
  simp_all

set_option maxHeartbeats 400000 in
set_option maxRecDepth 20000 in
theorem catchK_panicking (Be : Nat) (x : Value) (w : World) (hb : Boxed w Be 24 x) :
    CallsD Tryz.prog 102 #[.pointer (some ⟨Be, 0, none⟩)] (.panicking [fault]) w fun e u' w' => e = .returned (.tuple #[]) ∧ u' = .panicking [caught] ∧ Caught Be w w' := by
  refine callsD_of_wpS Tryz.func102 rfl fun c₀ cs hu => ?_
  unfold fault at hu
  have hb1 := hb.alloc (.cells #[] 125)
  have hc := hb1.cell
  have hz := hb1.frozen
  have HC : Hid (Caught Be w ((w.alloc (.cells #[] 125)).setCell ⟨Be, 0, none⟩ (.int .i64 50))) := Lib.hid ⟨hb1.set _, g_trans (World.grownBy_alloc w _ _) (grownBy_setCell' _ _ _)⟩
  clear hb hb1
  apply wpS_seq
  apply wpS_region
  simp [wpOpsS, go_sem, recoverD, hu, Tryz.ntmps102, Exit.thenS]
  refine wpS_of_wp ?_
  have ht : (#[Value.pointer (some ⟨Be, 0, none⟩)] ++ ((Array.replicate 14 undef).setIfInBounds 3 (.iface 125 (.agg #[]))).setIfInBounds 0 (.iface 125 (.agg #[]))) = #[.pointer (some ⟨Be, 0, none⟩), .iface 125 (.agg #[]), undef, undef, .iface 125 (.agg #[]), undef, undef, undef, undef, undef, undef, undef, undef, undef, undef] := rfl
  rw [ht]
  clear ht hu
  have hta := assert_ours
  go_wp2_with fail
  simp [bodyPostS, results, Tryz.results102, caught]
  exact HC.out
set_option maxHeartbeats 400000 in
set_option maxRecDepth 20000 in
theorem catchK_idle (Be : Nat) (w : World) :
    CallsD Tryz.prog 102 #[.pointer (some ⟨Be, 0, none⟩)] .returning w fun e u' w' => e = .returned (.tuple #[]) ∧ u' = .returning ∧ w' = w := by
  refine callsD_of_wpS Tryz.func102 rfl fun c₀ cs hu => ?_
  apply wpS_seq
  apply wpS_region
  simp [wpOpsS, go_sem, recoverD, hu, Tryz.ntmps102, Exit.thenS]
  refine wpS_of_wp ?_
  have ht : (#[Value.pointer (some ⟨Be, 0, none⟩)] ++ ((Array.replicate 14 undef).setIfInBounds 3 .nilIface).setIfInBounds 0 .nilIface) = #[.pointer (some ⟨Be, 0, none⟩), .nilIface, undef, undef, .nilIface, undef, undef, undef, undef, undef, undef, undef, undef, undef, undef] := rfl
  rw [ht]
  have HU := Lib.hid hu
  clear ht hu
  go_wp2_with fail
  simp [bodyPostS, results, Tryz.results102]
  have h := HU.out
  cases c₀
  simp_all

set_option maxHeartbeats 400000 in
set_option maxRecDepth 20000 in
theorem catchV_panicking (Be : Nat) (x : Value) (w : World) (hb : Boxed w Be 24 x) :
    CallsD Tryz.prog 95 #[.pointer (some ⟨Be, 0, none⟩)] (.panicking [fault]) w fun e u' w' => e = .returned (.tuple #[]) ∧ u' = .panicking [caught] ∧ Caught Be w w' := by
  refine callsD_of_wpS Tryz.func95 rfl fun c₀ cs hu => ?_
  unfold fault at hu
  have hb1 := hb.alloc (.cells #[] 125)
  have hc := hb1.cell
  have hz := hb1.frozen
  have HC : Hid (Caught Be w ((w.alloc (.cells #[] 125)).setCell ⟨Be, 0, none⟩ (.int .i64 50))) := Lib.hid ⟨hb1.set _, g_trans (World.grownBy_alloc w _ _) (grownBy_setCell' _ _ _)⟩
  clear hb hb1
  apply wpS_seq
  apply wpS_region
  simp [wpOpsS, go_sem, recoverD, hu, Tryz.ntmps95, Exit.thenS]
  refine wpS_of_wp ?_
  have ht : (#[Value.pointer (some ⟨Be, 0, none⟩)] ++ ((Array.replicate 14 undef).setIfInBounds 3 (.iface 125 (.agg #[]))).setIfInBounds 0 (.iface 125 (.agg #[]))) = #[.pointer (some ⟨Be, 0, none⟩), .iface 125 (.agg #[]), undef, undef, .iface 125 (.agg #[]), undef, undef, undef, undef, undef, undef, undef, undef, undef, undef] := rfl
  rw [ht]
  clear ht hu
  have hta := assert_ours
  go_wp2_with fail
  simp [bodyPostS, results, Tryz.results95, caught]
  exact HC.out
set_option maxHeartbeats 400000 in
set_option maxRecDepth 20000 in
theorem catchV_idle (Be : Nat) (w : World) :
    CallsD Tryz.prog 95 #[.pointer (some ⟨Be, 0, none⟩)] .returning w fun e u' w' => e = .returned (.tuple #[]) ∧ u' = .returning ∧ w' = w := by
  refine callsD_of_wpS Tryz.func95 rfl fun c₀ cs hu => ?_
  apply wpS_seq
  apply wpS_region
  simp [wpOpsS, go_sem, recoverD, hu, Tryz.ntmps95, Exit.thenS]
  refine wpS_of_wp ?_
  have ht : (#[Value.pointer (some ⟨Be, 0, none⟩)] ++ ((Array.replicate 14 undef).setIfInBounds 3 .nilIface).setIfInBounds 0 .nilIface) = #[.pointer (some ⟨Be, 0, none⟩), .nilIface, undef, undef, .nilIface, undef, undef, undef, undef, undef, undef, undef, undef, undef, undef] := rfl
  rw [ht]
  have HU := Lib.hid hu
  clear ht hu
  go_wp2_with fail
  simp [bodyPostS, results, Tryz.results95]
  have h := HU.out
  cases c₀
  simp_all
end Go.Proofs.YtogjekjklknfeaaGreatDoor

/- The contract of guard at items. -/
namespace Go.Proofs.YtogjekjklknfeaaGreatDoor
open Go.RowKit Go.Shelf Go.Maps Go.Deep

/-- What guard answers of an item. -/
def GrdI (w : World) (b : Nat) (o : Option (Sf.Itm × List UInt8)) (e : Ending) (w' : World) : Prop :=
  w.grownBy w' (some b) ∧ ((∃ x r v, o = some (x, r) ∧ e = .returned (.tuple #[itmV x.kind x.n x.text v, .string (bA r), .int .i64 0]) ∧ w'.ownsRow w.heap.size 53 4 v x.params.length (parsRow x.params)) ∨ (o = none ∧ e = .returned (.tuple #[itmV 0 0 [] (.slice none 0 0), .string ⟨#[]⟩, .int .i64 50])))
theorem load_err {w : World} {B : Nat} {n : Int} (h : Boxed w B 24 (.int .i64 n)) : (loadVar 24 ⟨B, 0, none⟩).run Tryz.prog w = .ok (.int .i64 n) w := by
  have c0 := h.cell
  simp [go_sem, c0]
theorem results_grdI {fn : Func} (h : fn.results = #[.cell 4 35, .tmp 5, .cell 6 24]) (tmps : Array Value) (w : World) {B C : Nat} {k n : Int} {t : List UInt8} {l : Value} {m : Int} (hp : tmps[4]?.getD undef = .pointer (some ⟨B, 0, none⟩)) (hq : tmps[6]?.getD undef = .pointer (some ⟨C, 0, none⟩)) (hb : CBox w B 35 (iC k n t l)) (hc : Boxed w C 24 (.int .i64 m)) :
    (results fn tmps).run Tryz.prog w = .ok (.tuple #[itmV k n t l, tmps.getD 5 undef, .int .i64 m]) w := by
  have hl := load_itm hb
  have hm := load_err hc
  simp [results, h, hp, hq, hl, hm, asAddr]

theorem g_drew {a b : World} {row : Option Nat} (h : a.grownBy b row) : a.grownBy b.drew row := ⟨h.os, h.tape, h.output, h.size, h.block⟩
set_option maxHeartbeats 1000000 in
set_option maxRecDepth 20000 in
theorem guardI_any (b : Nat) (s : List UInt8) (o : Option (Sf.Itm × List UInt8)) (w : World) (hR : Rd b s w) (F : FuncId)
    (hen : ∀ args w, (callFunc F args).run Tryz.prog w = .ok (.enter F args) w)
    (hC : ∀ W, Rd b s W → Calls Tryz.prog F #[.pointer (some ⟨b, 0, none⟩)] W (GotI b W o)) :
    Calls Tryz.prog 57 #[.pointer (some ⟨b, 0, none⟩), .func (.func F) #[.pointer (some ⟨b, 0, none⟩)] #[]] w (GrdI w b o) := by
  have hmf : ∀ (fn : Fn) (first cap : Array Value) (w : World), (Instr.makeFunc fn first cap).run Tryz.prog w = .ok (.func fn first cap) w := fun _ _ _ _ => rfl
  have hlt := hR.lt
  have hR0 := (hR.alloc (.cells zI 35)).alloc (.cells #[.int .i64 0] 24)
  have H1 := Lib.hid (hC _ hR0)
  have hbI := Lib.hid ((CBox.new w 35 zI).alloc (.cells #[.int .i64 0] 24))
  have hbE := Lib.hid (Boxed.new (w.alloc (.cells zI 35)) 24 (.int .i64 0))
  have hsz : (w.alloc (.cells zI 35)).heap.size = w.heap.size + 1 := by simp
  rw [hsz] at hbE
  clear hR hR0 hC hsz
  go_enter_defers Tryz.func57, Tryz.ntmps57
  go_wp2_with fail
  refine H1.out.mono ?_
  rintro e w1 ⟨hg1, ⟨x, r, v, ho, rfl, hr, hw⟩ | ⟨ho, rfl⟩⟩
  · have hI1 := hbI.out.kept hg1 (by simp; omega)
    have hE1 := hbE.out.kept hg1 (by simp; omega)
    have hG1 := g_trans (g_alloc (World.grownBy_alloc w (.cells zI 35) (some b)) (.cells #[.int .i64 0] 24)) hg1
    have hs1 := hE1.lt
    have hw' : w1.ownsRow (w.heap.size + 2) 53 4 v x.params.length (parsRow x.params) := by simpa using hw
    obtain ⟨va, vc, rfl⟩ := slice4 hw'
    obtain ⟨c0, c1, c2, c3, f0, f1, f2, f3⟩ := hI1.all4
    have HI1 := Lib.hid hI1; have HE1 := Lib.hid hE1; have HG1 := Lib.hid hG1; have HW1 := Lib.hid hw'; have HR1 := Lib.hid hr; have HO := Lib.hid ho
    clear hI1 hE1 hG1 hw hw' hr ho hbI hbE hg1 H1
    unfold itmV iC
    go_wp2_with fail
    obtain ⟨w2, hw2⟩ : ∃ w2, set4 w1 w.heap.size (.int .i64 x.kind) (.int .i64 x.n) (.string (bA x.text)) (.slice va x.params.length vc) = w2 := ⟨_, rfl⟩
    have hg2 : w1.grownBy w2 (some w.heap.size) := by rw [← hw2]; exact g_set4 (g_refl _ _) _ _ _ _ (.inr rfl)
    have HI2 := Lib.hid (show CBox w2 w.heap.size 35 (iC x.kind x.n x.text (.slice va x.params.length vc)) by rw [← hw2]; exact HI1.out.set4 _ _ _ _)
    have HE2 := Lib.hid (HE1.out.kept hg2 (by simp))
    have HR2 := Lib.hid (HR1.out.kept hg2 (by simp; omega))
    have HW2 := Lib.hid (HW1.out.kept hg2 (not_own4 HW1.out (by omega)))
    have HG2 := Lib.hid (g_row HG1.out hg2 (fun j hj => by cases hj; omega))
    unfold set4 at hw2
    rw [hw2]
    clear hw2 c0 c1 c2 c3 f0 f1 f2 f3 hg2 HI1 HE1 HR1 HW1 HG1
    obtain ⟨c0, c1, c2, c3, f0, f1, f2, f3⟩ := HI2.out.all4
    have d0 := HE2.out.cell
    have d1 := HE2.out.frozen
    have r0 := HR2.out.cell
    go_region
    go_wp2_with fail
    have hgA : w2.grownBy (set4 w2 w.heap.size (.int .i64 x.kind) (.int .i64 x.n) (.string (bA x.text)) (.slice va x.params.length vc)) (some w.heap.size) := g_set4 (g_refl _ _) _ _ _ _ (.inr rfl)
    have hI3 := HI2.out.set4 (.int .i64 x.kind) (.int .i64 x.n) (.string (bA x.text)) (.slice va x.params.length vc)
    have hE3 := HE2.out.kept hgA (by simp)
    have hW3 := HW2.out.kept hgA (not_own4 HW2.out (by omega))
    have hG3 := g_row HG2.out hgA (fun j hj => by cases hj; omega)
    have hgB := g_drew (grownBy_setCell' (set4 w2 w.heap.size (.int .i64 x.kind) (.int .i64 x.n) (.string (bA x.text)) (.slice va x.params.length vc)) (w.heap.size + 1) (.int .i64 0))
    have hE4 : Boxed (((set4 w2 w.heap.size (.int .i64 x.kind) (.int .i64 x.n) (.string (bA x.text)) (.slice va x.params.length vc)).setCell ⟨w.heap.size + 1, 0, none⟩ (.int .i64 0)).drew) (w.heap.size + 1) 24 (.int .i64 0) := Boxed.set _ hE3
    have hI4 := CBox.kept hI3 hgB (by simp)
    have hW4 := owns_base4 (hW3.kept hgB (not_own4 hW3 (by omega))) (show w.heap.size ≤ w.heap.size + 2 by omega)
    have hG4 := g_row hG3 hgB (fun j hj => by cases hj; omega)
    generalize hfin : ((set4 w2 w.heap.size (.int .i64 x.kind) (.int .i64 x.n) (.string (bA x.text)) (.slice va x.params.length vc)).setCell ⟨w.heap.size + 1, 0, none⟩ (.int .i64 0)).drew = w4 at hE4 hI4 hW4 hG4
    clear hfin hgB hE3 hI3 hW3 hG3 hgA c0 c1 c2 c3 f0 f1 f2 f3 d0 d1 r0
    refine leaves_cons (f := 88) (args := #[.pointer (some ⟨w.heap.size + 1, 0, none⟩)]) (by simp) (by simp [go_sem]) ?_
    refine (catchI_idle (w.heap.size + 1) _).mono ?_
    rintro e u' w3 ⟨rfl, rfl, rfl⟩
    refine ⟨_, results_grdI rfl _ _ rfl rfl hI4 hE4, ?_⟩
    rw [HO.out]
    exact ⟨hG4, .inl ⟨x, r, _, rfl, rfl, hW4⟩⟩
  · have hI1 := hbI.out.kept hg1 (by simp; omega)
    have hE1 := hbE.out.kept hg1 (by simp; omega)
    have hG1 := g_trans (g_alloc (World.grownBy_alloc w (.cells zI 35) (some b)) (.cells #[.int .i64 0] 24)) hg1
    have HI1 := Lib.hid hI1; have HE1 := Lib.hid hE1; have HG1 := Lib.hid hG1; have HO := Lib.hid ho
    clear hI1 hE1 hG1 ho hbI hbE hg1 H1
    go_wp2_with fail
    refine leaves_cons (f := 88) (args := #[.pointer (some ⟨w.heap.size + 1, 0, none⟩)]) (by simp) (by simp [go_sem]) ?_
    refine (catchI_panicking (w.heap.size + 1) _ w1 HE1.out).mono ?_
    rintro e u' w2 ⟨rfl, rfl, hE2, hg2⟩
    refine ⟨_, results_grdI rfl _ _ rfl rfl (HI1.out.kept hg2 (by simp)) hE2, ?_⟩
    rw [HO.out]
    exact ⟨g_row HG1.out hg2 (fun j hj => by cases hj; omega), .inr ⟨rfl, rfl⟩⟩
end Go.Proofs.YtogjekjklknfeaaGreatDoor

/- The contracts of guard at values, at lists of parameters and at strings. -/

namespace Go.Proofs.YtogjekjklknfeaaGreatDoor
open Go.RowKit Go.Shelf Go.Maps Go.Deep

/-- What guard answers of a value. -/
def GrdV (w : World) (b : Nat) (o : Option (Sf.Par × List UInt8)) (e : Ending) (w' : World) : Prop :=
  w.grownBy w' (some b) ∧ ((∃ x r, o = some (x, r) ∧ e = .returned (.tuple #[valV x, .string (bA r), .int .i64 0])) ∨ (o = none ∧ e = .returned (.tuple #[valV ⟨[], 0, 0, []⟩, .string ⟨#[]⟩, .int .i64 50])))
theorem results_grdV {fn : Func} (h : fn.results = #[.cell 4 65, .tmp 5, .cell 6 24]) (tmps : Array Value) (w : World) {B C : Nat} {x : Sf.Par} {m : Int} (hp : tmps[4]?.getD undef = .pointer (some ⟨B, 0, none⟩)) (hq : tmps[6]?.getD undef = .pointer (some ⟨C, 0, none⟩)) (hb : CBox w B 65 (vC x)) (hc : Boxed w C 24 (.int .i64 m)) :
    (results fn tmps).run Tryz.prog w = .ok (.tuple #[valV x, tmps.getD 5 undef, .int .i64 m]) w := by
  have hl := load_val hb
  have hm := load_err hc
  simp [results, h, hp, hq, hl, hm, asAddr]
theorem results_grdS {fn : Func} (h : fn.results = #[.tmp 4, .tmp 5, .cell 6 24]) (tmps : Array Value) (w : World) {C : Nat} {m : Int} (hq : tmps[6]?.getD undef = .pointer (some ⟨C, 0, none⟩)) (hc : Boxed w C 24 (.int .i64 m)) :
    (results fn tmps).run Tryz.prog w = .ok (.tuple #[tmps.getD 4 undef, tmps.getD 5 undef, .int .i64 m]) w := by
  have hm := load_err hc
  simp [results, h, hq, hm, asAddr]

set_option maxHeartbeats 1000000 in
set_option maxRecDepth 20000 in
theorem guardV_any (b : Nat) (s : List UInt8) (o : Option (Sf.Par × List UInt8)) (w : World) (hR : Rd b s w) (F : FuncId)
    (hen : ∀ args w, (callFunc F args).run Tryz.prog w = .ok (.enter F args) w)
    (hC : ∀ W, Rd b s W → Calls Tryz.prog F #[.pointer (some ⟨b, 0, none⟩)] W (Got b W (mapV o))) :
    Calls Tryz.prog 67 #[.pointer (some ⟨b, 0, none⟩), .func (.func F) #[.pointer (some ⟨b, 0, none⟩)] #[]] w (GrdV w b o) := by
  have hmf : ∀ (fn : Fn) (first cap : Array Value) (w : World), (Instr.makeFunc fn first cap).run Tryz.prog w = .ok (.func fn first cap) w := fun _ _ _ _ => rfl
  have hlt := hR.lt
  have hR0 := (hR.alloc (.cells zC 65)).alloc (.cells #[.int .i64 0] 24)
  have H1 := Lib.hid (hC _ hR0)
  have hbI := Lib.hid ((CBox.new w 65 zC).alloc (.cells #[.int .i64 0] 24))
  have hbE := Lib.hid (Boxed.new (w.alloc (.cells zC 65)) 24 (.int .i64 0))
  have hsz : (w.alloc (.cells zC 65)).heap.size = w.heap.size + 1 := by simp
  rw [hsz] at hbE
  obtain ⟨m, hm⟩ : ∃ m, mapV o = m := ⟨_, rfl⟩
  rw [hm] at H1
  have HM := Lib.hid hm
  clear hR hR0 hC hsz hm
  go_enter_defers Tryz.func67, Tryz.ntmps67
  go_wp2_with fail
  refine H1.out.mono ?_
  rintro e w1 ⟨hg1, ⟨v, r, ho, rfl, hr⟩ | ⟨ho, rfl⟩⟩
  · obtain ⟨x, rfl, ho'⟩ := val_split (HM.out.trans ho)
    have hI1 := hbI.out.kept hg1 (by simp; omega)
    have hE1 := hbE.out.kept hg1 (by simp; omega)
    have hG1 := g_trans (g_alloc (World.grownBy_alloc w (.cells zC 65) (some b)) (.cells #[.int .i64 0] 24)) hg1
    have hs1 := hE1.lt
    obtain ⟨c0, c1, c2, f0, f1, f2⟩ := hI1.all3
    have HI1 := Lib.hid hI1; have HE1 := Lib.hid hE1; have HG1 := Lib.hid hG1; have HR1 := Lib.hid hr; have HO := Lib.hid ho'
    clear hI1 hE1 hG1 hr ho ho' hbI hbE hg1 H1 HM
    unfold valV vC
    go_wp2_with fail
    obtain ⟨w2, hw2⟩ : ∃ w2, set3 w1 w.heap.size (.int .i64 x.kind) (.int .i64 x.n) (.string (bA x.text)) = w2 := ⟨_, rfl⟩
    have hg2 : w1.grownBy w2 (some w.heap.size) := by rw [← hw2]; exact g_set3 (g_refl _ _) _ _ _ (.inr rfl)
    have HI2 := Lib.hid (show CBox w2 w.heap.size 65 (vC x) by rw [← hw2]; exact HI1.out.set3 _ _ _)
    have HE2 := Lib.hid (HE1.out.kept hg2 (by simp))
    have HR2 := Lib.hid (HR1.out.kept hg2 (by simp; omega))
    have HG2 := Lib.hid (g_row HG1.out hg2 (fun j hj => by cases hj; omega))
    unfold set3 at hw2
    rw [hw2]
    clear hw2 c0 c1 c2 f0 f1 f2 hg2 HI1 HE1 HR1 HG1
    obtain ⟨c0, c1, c2, f0, f1, f2⟩ := HI2.out.all3
    have d0 := HE2.out.cell
    have d1 := HE2.out.frozen
    have r0 := HR2.out.cell
    go_region
    go_wp2_with fail
    have hgA : w2.grownBy (set3 w2 w.heap.size (.int .i64 x.kind) (.int .i64 x.n) (.string (bA x.text))) (some w.heap.size) := g_set3 (g_refl _ _) _ _ _ (.inr rfl)
    have hI3 := HI2.out.set3 (.int .i64 x.kind) (.int .i64 x.n) (.string (bA x.text))
    have hE3 := HE2.out.kept hgA (by simp)
    have hG3 := g_row HG2.out hgA (fun j hj => by cases hj; omega)
    have hgB := g_drew (grownBy_setCell' (set3 w2 w.heap.size (.int .i64 x.kind) (.int .i64 x.n) (.string (bA x.text))) (w.heap.size + 1) (.int .i64 0))
    have hE4 : Boxed (((set3 w2 w.heap.size (.int .i64 x.kind) (.int .i64 x.n) (.string (bA x.text))).setCell ⟨w.heap.size + 1, 0, none⟩ (.int .i64 0)).drew) (w.heap.size + 1) 24 (.int .i64 0) := Boxed.set _ hE3
    have hI4 := CBox.kept hI3 hgB (by simp)
    have hG4 := g_row hG3 hgB (fun j hj => by cases hj; omega)
    generalize hfin : ((set3 w2 w.heap.size (.int .i64 x.kind) (.int .i64 x.n) (.string (bA x.text))).setCell ⟨w.heap.size + 1, 0, none⟩ (.int .i64 0)).drew = w4 at hE4 hI4 hG4
    clear hfin hgB hE3 hI3 hG3 hgA c0 c1 c2 f0 f1 f2 d0 d1 r0
    refine leaves_cons (f := 95) (args := #[.pointer (some ⟨w.heap.size + 1, 0, none⟩)]) (by simp) (by simp [go_sem]) ?_
    refine (catchV_idle (w.heap.size + 1) _).mono ?_
    rintro e u' w3 ⟨rfl, rfl, rfl⟩
    refine ⟨_, results_grdV (x := x) rfl _ _ rfl rfl hI4 hE4, ?_⟩
    rw [HO.out]
    exact ⟨hG4, .inl ⟨x, r, rfl, rfl⟩⟩
  · have hI1 := hbI.out.kept hg1 (by simp; omega)
    have hE1 := hbE.out.kept hg1 (by simp; omega)
    have hG1 := g_trans (g_alloc (World.grownBy_alloc w (.cells zC 65) (some b)) (.cells #[.int .i64 0] 24)) hg1
    have HI1 := Lib.hid hI1; have HE1 := Lib.hid hE1; have HG1 := Lib.hid hG1; have HO := Lib.hid (map_no (HM.out.trans ho))
    clear hI1 hE1 hG1 ho hbI hbE hg1 H1 HM
    go_wp2_with fail
    refine leaves_cons (f := 95) (args := #[.pointer (some ⟨w.heap.size + 1, 0, none⟩)]) (by simp) (by simp [go_sem]) ?_
    refine (catchV_panicking (w.heap.size + 1) _ w1 HE1.out).mono ?_
    rintro e u' w2 ⟨rfl, rfl, hE2, hg2⟩
    refine ⟨_, results_grdV (x := ⟨[], 0, 0, []⟩) rfl _ _ rfl rfl (HI1.out.kept hg2 (by simp)) hE2, ?_⟩
    rw [HO.out]
    exact ⟨g_row HG1.out hg2 (fun j hj => by cases hj; omega), .inr ⟨rfl, rfl⟩⟩

/-- What guard answers there. -/
def GrdL (w : World) (b : Nat) (o : Option (List Sf.Par × List UInt8)) (e : Ending) (w' : World) : Prop :=
  w.grownBy w' (some b) ∧ ((∃ l r v, o = some (l, r) ∧ e = .returned (.tuple #[v, .string (bA r), .int .i64 0]) ∧ w'.ownsRow w.heap.size 53 4 v l.length (parsRow l)) ∨ (o = none ∧ e = .returned (.tuple #[.slice none 0 0, .string ⟨#[]⟩, .int .i64 50])))
set_option maxHeartbeats 1000000 in
set_option maxRecDepth 20000 in
theorem guardL_any (b : Nat) (s : List UInt8) (o : Option (List Sf.Par × List UInt8)) (w : World) (hR : Rd b s w) (F : FuncId)
    (hen : ∀ args w, (callFunc F args).run Tryz.prog w = .ok (.enter F args) w)
    (hC : ∀ W, Rd b s W → Calls Tryz.prog F #[.pointer (some ⟨b, 0, none⟩)] W (GotL b W o)) :
    Calls Tryz.prog 81 #[.pointer (some ⟨b, 0, none⟩), .func (.func F) #[.pointer (some ⟨b, 0, none⟩)] #[]] w (GrdL w b o) := by
  have hmf : ∀ (fn : Fn) (first cap : Array Value) (w : World), (Instr.makeFunc fn first cap).run Tryz.prog w = .ok (.func fn first cap) w := fun _ _ _ _ => rfl
  have hlt := hR.lt
  have hR0 := hR.alloc (.cells #[.int .i64 0] 24)
  have H1 := Lib.hid (hC _ hR0)
  have hbE := Lib.hid (Boxed.new w 24 (.int .i64 0))
  clear hR hR0 hC
  go_enter_defers Tryz.func81, Tryz.ntmps81
  go_wp2_with fail
  refine H1.out.mono ?_
  rintro e w1 ⟨hg1, ⟨l, r, v, ho, rfl, hr, hw⟩ | ⟨ho, rfl⟩⟩
  · obtain ⟨va, vc, rfl⟩ := slice4 hw
    have hE1 := hbE.out.kept hg1 (by simp; omega)
    have hG1 := g_trans (World.grownBy_alloc w (.cells #[.int .i64 0] 24) (some b)) hg1
    have d0 := hE1.cell
    have d1 := hE1.frozen
    have r0 := hr.cell
    have hw' : w1.ownsRow (w.heap.size + 1) 53 4 (.slice va l.length vc) l.length (parsRow l) := by simpa using hw
    have HW1 := Lib.hid hw'
    have ho' := ho
    clear hw hw'
    have HE1 := Lib.hid hE1; have HG1 := Lib.hid hG1; have HO := Lib.hid ho'
    clear hE1 hG1 hr ho ho' hbE hg1 H1
    go_wp2_with fail
    go_region
    go_wp2_with fail
    have hgB := g_drew (grownBy_setCell' w1 w.heap.size (.int .i64 0))
    have hE4 : Boxed ((w1.setCell ⟨w.heap.size, 0, none⟩ (.int .i64 0)).drew) w.heap.size 24 (.int .i64 0) := Boxed.set _ HE1.out
    have hG4 := g_row HG1.out hgB (fun j hj => by cases hj; omega)
    have hW4 := owns_base4 (HW1.out.kept hgB (not_own4 HW1.out (by omega))) (show w.heap.size ≤ w.heap.size + 1 by omega)
    refine leaves_cons (f := 108) (args := #[.pointer (some ⟨w.heap.size, 0, none⟩)]) (by simp) (by simp [go_sem]) ?_
    refine (catchL_idle w.heap.size _).mono ?_
    rintro e u' w3 ⟨rfl, rfl, rfl⟩
    refine ⟨_, results_grdS rfl _ _ rfl hE4, ?_⟩
    rw [HO.out]
    exact ⟨hG4, .inl ⟨l, r, _, rfl, rfl, hW4⟩⟩
  · have hE1 := hbE.out.kept hg1 (by simp; omega)
    have hG1 := g_trans (World.grownBy_alloc w (.cells #[.int .i64 0] 24) (some b)) hg1
    have HE1 := Lib.hid hE1; have HG1 := Lib.hid hG1; have HO := Lib.hid ho
    clear hE1 hG1 ho hbE hg1 H1
    go_wp2_with fail
    refine leaves_cons (f := 108) (args := #[.pointer (some ⟨w.heap.size, 0, none⟩)]) (by simp) (by simp [go_sem]) ?_
    refine (catchL_panicking w.heap.size _ w1 HE1.out).mono ?_
    rintro e u' w2 ⟨rfl, rfl, hE2, hg2⟩
    refine ⟨_, results_grdS rfl _ _ rfl hE2, ?_⟩
    rw [HO.out]
    exact ⟨g_row HG1.out hg2 (fun j hj => by cases hj; omega), .inr ⟨rfl, rfl⟩⟩

theorem keyo_split {o : Option (List UInt8 × List UInt8)} {v : Value} {r : List UInt8} (h : mapK o = some (v, r)) : ∃ k, v = .string (bA k) ∧ o = some (k, r) := by
  cases o with
  | none => cases h
  | some x => simp only [mapK, Option.map_some, Option.some.injEq, Prod.mk.injEq] at h; exact ⟨x.1, h.1.symm, by rw [← h.2]⟩
theorem key_no {o : Option (List UInt8 × List UInt8)} (h : mapK o = none) : o = none := by cases o; rfl; cases h

/-- What guard answers there. -/
def GrdK (w : World) (b : Nat) (o : Option (List UInt8 × List UInt8)) (e : Ending) (w' : World) : Prop :=
  w.grownBy w' (some b) ∧ ((∃ k r, o = some (k, r) ∧ e = .returned (.tuple #[.string (bA k), .string (bA r), .int .i64 0])) ∨ (o = none ∧ e = .returned (.tuple #[.string ⟨#[]⟩, .string ⟨#[]⟩, .int .i64 50])))
set_option maxHeartbeats 1000000 in
set_option maxRecDepth 20000 in
theorem guardK_any (b : Nat) (s : List UInt8) (o : Option (List UInt8 × List UInt8)) (w : World) (hR : Rd b s w) (F : FuncId)
    (hen : ∀ args w, (callFunc F args).run Tryz.prog w = .ok (.enter F args) w)
    (hC : ∀ W, Rd b s W → Calls Tryz.prog F #[.pointer (some ⟨b, 0, none⟩)] W (Got b W (mapK o))) :
    Calls Tryz.prog 79 #[.pointer (some ⟨b, 0, none⟩), .func (.func F) #[.pointer (some ⟨b, 0, none⟩)] #[]] w (GrdK w b o) := by
  have hmf : ∀ (fn : Fn) (first cap : Array Value) (w : World), (Instr.makeFunc fn first cap).run Tryz.prog w = .ok (.func fn first cap) w := fun _ _ _ _ => rfl
  have hlt := hR.lt
  have hR0 := hR.alloc (.cells #[.int .i64 0] 24)
  have H1 := Lib.hid (hC _ hR0)
  have hbE := Lib.hid (Boxed.new w 24 (.int .i64 0))
  clear hR hR0 hC
  go_enter_defers Tryz.func79, Tryz.ntmps79
  go_wp2_with fail
  refine H1.out.mono ?_
  rintro e w1 ⟨hg1, ⟨v, r, ho, rfl, hr⟩ | ⟨ho, rfl⟩⟩
  · obtain ⟨k, rfl, ho'⟩ := keyo_split ho
    have hE1 := hbE.out.kept hg1 (by simp; omega)
    have hG1 := g_trans (World.grownBy_alloc w (.cells #[.int .i64 0] 24) (some b)) hg1
    have d0 := hE1.cell
    have d1 := hE1.frozen
    have r0 := hr.cell
    skip
    have HE1 := Lib.hid hE1; have HG1 := Lib.hid hG1; have HO := Lib.hid ho'
    clear hE1 hG1 hr ho ho' hbE hg1 H1
    go_wp2_with fail
    go_region
    go_wp2_with fail
    have hgB := g_drew (grownBy_setCell' w1 w.heap.size (.int .i64 0))
    have hE4 : Boxed ((w1.setCell ⟨w.heap.size, 0, none⟩ (.int .i64 0)).drew) w.heap.size 24 (.int .i64 0) := Boxed.set _ HE1.out
    have hG4 := g_row HG1.out hgB (fun j hj => by cases hj; omega)
    skip
    refine leaves_cons (f := 102) (args := #[.pointer (some ⟨w.heap.size, 0, none⟩)]) (by simp) (by simp [go_sem]) ?_
    refine (catchK_idle w.heap.size _).mono ?_
    rintro e u' w3 ⟨rfl, rfl, rfl⟩
    refine ⟨_, results_grdS rfl _ _ rfl hE4, ?_⟩
    rw [HO.out]
    exact ⟨hG4, .inl ⟨k, r, rfl, rfl⟩⟩
  · have hE1 := hbE.out.kept hg1 (by simp; omega)
    have hG1 := g_trans (World.grownBy_alloc w (.cells #[.int .i64 0] 24) (some b)) hg1
    have HE1 := Lib.hid hE1; have HG1 := Lib.hid hG1; have HO := Lib.hid ho
    clear hE1 hG1 ho hbE hg1 H1
    go_wp2_with fail
    refine leaves_cons (f := 102) (args := #[.pointer (some ⟨w.heap.size, 0, none⟩)]) (by simp) (by simp [go_sem]) ?_
    refine (catchK_panicking w.heap.size _ w1 HE1.out).mono ?_
    rintro e u' w2 ⟨rfl, rfl, hE2, hg2⟩
    refine ⟨_, results_grdS rfl _ _ rfl hE2, ?_⟩
    rw [key_no HO.out]
    exact ⟨g_row HG1.out hg2 (fun j hj => by cases hj; omega), .inr ⟨rfl, rfl⟩⟩
end Go.Proofs.YtogjekjklknfeaaGreatDoor

/- The contracts of sfitem.Next, Params, Key and Parse. -/

namespace Go.Proofs.YtogjekjklknfeaaGreatDoor
open Go.RowKit Go.Shelf Go.Maps Go.Deep

def RetI (w : World) (o : Option (Sf.Itm × List UInt8)) (e : Ending) (w' : World) : Prop :=
  Below w.heap.size w w' ∧ ((∃ x r v, o = some (x, r) ∧ e = .returned (.tuple #[itmV x.kind x.n x.text v, .string (bA r), .int .i64 0]) ∧ w'.ownsRow w.heap.size 53 4 v x.params.length (parsRow x.params)) ∨ (o = none ∧ e = .returned (.tuple #[itmV 0 0 [] (.slice none 0 0), .string ⟨#[]⟩, .int .i64 50])))
def RetL (w : World) (o : Option (List Sf.Par × List UInt8)) (e : Ending) (w' : World) : Prop :=
  Below w.heap.size w w' ∧ ((∃ l r v, o = some (l, r) ∧ e = .returned (.tuple #[v, .string (bA r), .int .i64 0]) ∧ w'.ownsRow w.heap.size 53 4 v l.length (parsRow l)) ∨ (o = none ∧ e = .returned (.tuple #[.slice none 0 0, .string ⟨#[]⟩, .int .i64 50])))
def RetK (w : World) (o : Option (List UInt8 × List UInt8)) (e : Ending) (w' : World) : Prop :=
  Below w.heap.size w w' ∧ ((∃ k r, o = some (k, r) ∧ e = .returned (.tuple #[.string (bA k), .string (bA r), .int .i64 0])) ∨ (o = none ∧ e = .returned (.tuple #[.string ⟨#[]⟩, .string ⟨#[]⟩, .int .i64 50])))
theorem results_ret3 {fn : Func} (h : fn.results = #[.cell 2 35, .tmp 3, .tmp 4]) (tmps : Array Value) (w : World) {B : Nat} {k n : Int} {t : List UInt8} {l : Value} (hp : tmps[2]?.getD undef = .pointer (some ⟨B, 0, none⟩)) (hb : CBox w B 35 (iC k n t l)) :
    (results fn tmps).run Tryz.prog w = .ok (.tuple #[itmV k n t l, tmps.getD 3 undef, tmps.getD 4 undef]) w := by
  have hl := load_itm hb
  simp [results, h, hp, hl, asAddr]
theorem below_of_g {w W w' : World} {B : Nat} (h0 : w.grownBy W none) (hg : W.grownBy w' (some B)) (hB : w.heap.size ≤ B) : Below w.heap.size w w' :=
  ⟨hg.os.trans h0.os, hg.tape.trans h0.tape, hg.output.trans h0.output, Nat.le_trans h0.size hg.size, fun k hk => by
    rw [hg.block k (Nat.lt_of_lt_of_le hk h0.size) (by simp; omega)]; exact h0.block k hk (by simp)⟩

set_option maxHeartbeats 1000000 in
set_option maxRecDepth 20000 in
theorem key_is_any (s : List UInt8) (w : World) (hs : s.length ≤ 1000000) : Calls Tryz.prog 49 #[.string (bA s)] w (RetK w (Sf.keyOf s)) := by
  have hmf : ∀ (fn : Fn) (first cap : Array Value) (w : World), (Instr.makeFunc fn first cap).run Tryz.prog w = .ok (.func fn first cap) w := fun _ _ _ _ => rfl
  have hR : Rd w.heap.size s (w.alloc (.cells #[.string (bA s)] 99)) := Boxed.new w _ _
  have H := Lib.hid (guardK_any w.heap.size s (Sf.keyOf s) _ hR 80 (enters_of Tryz.func80 (by kernel_rfl) rfl) (fun W h => key_any _ s W h (by omega)))
  clear hR
  go_enter Tryz.func49, Tryz.ntmps49
  go_wp2_with fail
  refine H.out.mono ?_
  rintro e w1 ⟨hg, ⟨k, r, ho, rfl⟩ | ⟨ho, rfl⟩⟩
  · have hB := Lib.hid (below_of_g (World.grownBy_alloc w _ _) hg (Nat.le_refl _))
    have HO := Lib.hid ho
    clear ho hg
    go_wp2_with fail
    go_ret3
    rw [HO.out]
    exact ⟨hB.out, .inl ⟨k, r, rfl, rfl⟩⟩
  · have hB := Lib.hid (below_of_g (World.grownBy_alloc w _ _) hg (Nat.le_refl _))
    have HO := Lib.hid ho
    clear ho hg
    go_wp2_with fail
    go_ret3
    rw [HO.out]
    exact ⟨hB.out, .inr ⟨rfl, rfl⟩⟩
set_option maxHeartbeats 1000000 in
set_option maxRecDepth 20000 in
theorem params_is_any (s : List UInt8) (w : World) (hs : s.length ≤ 1000000) : Calls Tryz.prog 50 #[.string (bA s)] w (RetL w (Sf.pars s)) := by
  have hmf : ∀ (fn : Fn) (first cap : Array Value) (w : World), (Instr.makeFunc fn first cap).run Tryz.prog w = .ok (.func fn first cap) w := fun _ _ _ _ => rfl
  have hR : Rd w.heap.size s (w.alloc (.cells #[.string (bA s)] 99)) := Boxed.new w _ _
  have H := Lib.hid (guardL_any w.heap.size s (Sf.pars s) _ hR 82 (enters_of Tryz.func82 (by kernel_rfl) rfl) (fun W h => params_any _ s W h (by omega)))
  clear hR
  go_enter Tryz.func50, Tryz.ntmps50
  go_wp2_with fail
  refine H.out.mono ?_
  rintro e w1 ⟨hg, ⟨l, r, v, ho, rfl, hw⟩ | ⟨ho, rfl⟩⟩
  · have hB := Lib.hid (below_of_g (World.grownBy_alloc w _ _) hg (Nat.le_refl _))
    have hw' := owns_base4 hw (show w.heap.size ≤ _ by simp)
    obtain ⟨va, vc, rfl⟩ := slice4 hw'
    have HO := Lib.hid ho
    have HW := Lib.hid hw'
    clear ho hg hw hw'
    go_wp2_with fail
    go_ret3
    rw [HO.out]
    exact ⟨hB.out, .inl ⟨l, r, _, rfl, rfl, HW.out⟩⟩
  · have hB := Lib.hid (below_of_g (World.grownBy_alloc w _ _) hg (Nat.le_refl _))
    have HO := Lib.hid ho
    clear ho hg
    go_wp2_with fail
    go_ret3
    rw [HO.out]
    exact ⟨hB.out, .inr ⟨rfl, rfl⟩⟩
set_option maxHeartbeats 1000000 in
set_option maxRecDepth 20000 in
theorem next_any (s : List UInt8) (w : World) (hs : s.length ≤ 1000000) : Calls Tryz.prog 36 #[.string (bA s)] w (RetI w (Sf.next s)) := by
  have hmf : ∀ (fn : Fn) (first cap : Array Value) (w : World), (Instr.makeFunc fn first cap).run Tryz.prog w = .ok (.func fn first cap) w := fun _ _ _ _ => rfl
  have hsz : (w.alloc (.cells zI 35)).heap.size = w.heap.size + 1 := by simp
  have hR : Rd (w.heap.size + 1) s ((w.alloc (.cells zI 35)).alloc (.cells #[.string (bA s)] 99)) := by rw [← hsz]; exact Boxed.new _ _ _
  have hb := Lib.hid ((CBox.new w 35 zI).alloc (.cells #[.string (bA s)] 99))
  have H := Lib.hid (guardI_any (w.heap.size + 1) s (Sf.next s) _ hR 58 (enters_of Tryz.func58 (by kernel_rfl) rfl) (fun W h => item_any _ s W h (by omega)))
  clear hR hsz
  go_enter Tryz.func36, Tryz.ntmps36
  go_wp2_with fail
  refine H.out.mono ?_
  rintro e w1 ⟨hg, ⟨x, r, v, ho, rfl, hw⟩ | ⟨ho, rfl⟩⟩
  · have hB := Lib.hid (below_of_g (w := w) (g_alloc (World.grownBy_alloc w _ none) _) hg (by omega))
    have hw' := owns_base4 hw (show w.heap.size + 1 ≤ _ by simp)
    have hb1 := hb.out.kept hg (by simp)
    obtain ⟨va, vc, rfl⟩ := slice4 hw'
    obtain ⟨c0, c1, c2, c3, f0, f1, f2, f3⟩ := hb1.all4
    have HO := Lib.hid ho; have HW := Lib.hid hw'; have HB1 := Lib.hid hb1
    clear ho hg hw hw' hb1
    unfold itmV iC
    go_wp2_with fail
    have hgA : w1.grownBy (set4 w1 w.heap.size (.int .i64 x.kind) (.int .i64 x.n) (.string (bA x.text)) (.slice va x.params.length vc)) (some w.heap.size) := g_set4 (g_refl _ _) _ _ _ _ (.inr rfl)
    refine bodyPost_ret (results_ret3 rfl _ _ rfl (HB1.out.set4 _ _ _ _)) rfl ?_
    rw [HO.out]
    exact ⟨hB.out.grown hgA hB.out.size (fun k hk => by cases hk; exact Nat.le_refl _), .inl ⟨x, r, _, rfl, rfl, owns_base4 (HW.out.kept hgA (not_own4 HW.out (by omega))) (by omega)⟩⟩
  · have hB := Lib.hid (below_of_g (w := w) (g_alloc (World.grownBy_alloc w _ none) _) hg (by omega))
    have hb1 := hb.out.kept hg (by simp)
    obtain ⟨c0, c1, c2, c3, f0, f1, f2, f3⟩ := hb1.all4
    have HO := Lib.hid ho; have HB1 := Lib.hid hb1
    clear ho hg hb1
    unfold itmV iC
    go_wp2_with fail
    have hgA : w1.grownBy (set4 w1 w.heap.size (.int .i64 0) (.int .i64 0) (.string (bA [])) (.slice none 0 0)) (some w.heap.size) := g_set4 (g_refl _ _) _ _ _ _ (.inr rfl)
    refine bodyPost_ret (results_ret3 (k := 0) (n := 0) (t := []) rfl _ _ rfl (HB1.out.set4 _ _ _ _)) rfl ?_
    rw [HO.out]
    exact ⟨hB.out.grown hgA hB.out.size (fun k hk => by cases hk; exact Nat.le_refl _), .inr ⟨rfl, rfl⟩⟩
end Go.Proofs.YtogjekjklknfeaaGreatDoor

/- The contract of sfitem.Parse. -/
namespace Go.Proofs.YtogjekjklknfeaaGreatDoor
open Go.RowKit Go.Shelf Go.Maps Go.Deep

theorem dw_app {α : Type} (p : α → Bool) (a b : List α) (h : ∃ x ∈ a, p x = false) : (a ++ b).dropWhile p = a.dropWhile p ++ b := by
  induction a with
  | nil => obtain ⟨x, hx, _⟩ := h; cases hx
  | cons c a ih =>
    cases hc : p c with
    | false => rw [List.cons_append, List.dropWhile_cons_of_neg (by rw [hc]; simp), List.dropWhile_cons_of_neg (by rw [hc]; simp), List.cons_append]
    | true =>
      rw [List.cons_append, List.dropWhile_cons_of_pos hc, List.dropWhile_cons_of_pos hc]
      refine ih ?_
      obtain ⟨x, hx, hp⟩ := h
      rcases List.mem_cons.1 hx with rfl | hx
      · rw [hc] at hp; cases hp
      · exact ⟨x, hx, hp⟩
theorem dw_all {α : Type} (p : α → Bool) (a b : List α) (h : ∀ x ∈ a, p x = true) : (a ++ b).dropWhile p = b.dropWhile p := List.dropWhile_append_of_pos h
theorem dw_head {α : Type} (p : α → Bool) (l : List α) : l.dropWhile p = [] ∨ ∃ c r, l.dropWhile p = c :: r ∧ p c = false := by
  induction l with
  | nil => exact .inl rfl
  | cons c l ih =>
    cases hc : p c with
    | false => exact .inr ⟨c, l, by rw [List.dropWhile_cons_of_neg (by rw [hc]; simp)], hc⟩
    | true => rw [List.dropWhile_cons_of_pos hc]; exact ih
theorem trim_is (s : List UInt8) : Lib.trimB s 32 = Sf.trimS s := by
  have e1 : s = s.takeWhile (fun b => b == 32) ++ Sf.blk s := (List.takeWhile_append_dropWhile).symm
  have hz : ∀ x ∈ s.takeWhile (fun b => b == 32), (x == 32) = true := fun x hx => List.all_eq_true.1 List.all_takeWhile x hx
  obtain ⟨z, hzz⟩ : ∃ z, s.takeWhile (fun b => b == 32) = z := ⟨_, rfl⟩
  rw [hzz] at e1 hz
  unfold Lib.trimB Lib.trimLeftB Lib.trimRightB Sf.trimS
  obtain ⟨m, hm⟩ : ∃ m, Sf.blk s = m := ⟨_, rfl⟩
  have hh := dw_head (fun b : UInt8 => b == 32) s
  have hbl : s.dropWhile (fun b => b == 32) = m := hm
  rw [hbl] at hh
  rw [hm] at e1 ⊢
  rw [e1, List.reverse_append]
  rcases hh with rfl | ⟨c, r, rfl, hc⟩
  · have : (([] : List UInt8).reverse ++ z.reverse).dropWhile (fun x => x == 32) = [] := by
      have h2 := dw_all (fun x : UInt8 => x == 32) z.reverse [] (fun x hx => hz x (List.mem_reverse.1 hx))
      simpa using h2
    rw [this]; rfl
  · rw [dw_app _ _ _ ⟨c, by simp, hc⟩, List.reverse_append, List.reverse_reverse, dw_all _ _ _ hz]
    have h3 : ∃ q, (c :: r).reverse.dropWhile (fun x => x == 32) = q ++ [c] := by
      rw [List.reverse_cons]
      cases hr : r.reverse.any (fun x => !(x == 32)) with
      | true =>
        obtain ⟨x, hx, hp⟩ := List.any_eq_true.1 hr
        exact ⟨_, dw_app _ _ _ ⟨x, hx, by simpa using hp⟩⟩
      | false =>
        refine ⟨[], ?_⟩
        rw [dw_all _ _ _ (fun x hx => by have := List.any_eq_false.1 hr x hx; simpa using this), List.dropWhile_cons_of_neg (by rw [hc]; simp)]
        rfl
    obtain ⟨q, hq⟩ := h3
    have e : ((c :: r).reverse.dropWhile (fun x => x == 32)).reverse = c :: q.reverse := by rw [hq]; simp
    rw [e, List.dropWhile_cons_of_neg (by rw [hc]; simp)]
theorem trim_any (s : List UInt8) (w : World) (hs : s.length ≤ 1000000) : Calls Tryz.prog 37 #[.string (bA s), .string ⟨#[32]⟩] w fun e w' => e = .returned (.string (bA (Sf.trimS s))) ∧ Below w.heap.size w w' := by
  refine (Tryz.strings_Trim_one (bA s) 32 (by decide) w (by rw [bA_size]; omega)).mono ?_
  rintro e w' ⟨rfl, hw⟩
  refine ⟨by rw [show (bA s).data.toList = s from rfl, trim_is], ?_⟩
  rcases hw with rfl | rfl
  · exact Below.refl _ _
  · exact (Below.refl _ _).drew

def RetP (w : World) (o : Option Sf.Itm) (e : Ending) (w' : World) : Prop :=
  Below w.heap.size w w' ∧ ((∃ x v, o = some x ∧ e = .returned (.tuple #[itmV x.kind x.n x.text v, .int .i64 0]) ∧ w'.ownsRow w.heap.size 53 4 v x.params.length (parsRow x.params)) ∨ (o = none ∧ e = .returned (.tuple #[itmV 0 0 [] (.slice none 0 0), .int .i64 50])))
theorem results_ret2 {fn : Func} (h : fn.results = #[.cell 2 35, .tmp 3]) (tmps : Array Value) (w : World) {B : Nat} {k n : Int} {t : List UInt8} {l : Value} (hp : tmps[2]?.getD undef = .pointer (some ⟨B, 0, none⟩)) (hb : CBox w B 35 (iC k n t l)) :
    (results fn tmps).run Tryz.prog w = .ok (.tuple #[itmV k n t l, tmps.getD 3 undef]) w := by
  have hl := load_itm hb
  simp [results, h, hp, hl, asAddr]

theorem below_al {a b : World} (h : Below a.heap.size a b) (o : Obj) : Below a.heap.size a (b.alloc o) := h.alloc h.size o
set_option maxHeartbeats 1000000 in
set_option maxRecDepth 20000 in
theorem parse_any (s : List UInt8) (w : World) : Calls Tryz.prog 20 #[.string (bA s)] w (RetP w (Sf.parse s)) := by
  by_cases hl : 4000 < s.length
  · have hn : Sf.parse s = none := by unfold Sf.parse; rw [if_pos hl]
    rw [hn]
    have hl' : (4000 : Int) < (s.length : Int) := by omega
    clear hn hl
    go_enter Tryz.func20, Tryz.ntmps20
    go_wp2_with fail
    refine bodyPost_ret (results_ret2 (k := 0) (n := 0) (t := []) rfl _ _ rfl (CBox.new w _ _)) rfl ?_
    exact ⟨(Below.refl _ _).alloc (Nat.le_refl _) _, .inr ⟨rfl, rfl⟩⟩
  · have hl' : (s.length : Int) ≤ 4000 := by omega
    have hb := Lib.hid (CBox.new w 35 zI)
    have htl := Sf.trim_len s
    have H1 := Lib.hid (trim_any s (w.alloc (.cells zI 35)) (by omega))
    obtain ⟨o, ho⟩ : ∃ o, Sf.parse s = o := ⟨_, rfl⟩
    have HO : Hid ((match Sf.next (Sf.trimS s) with | none => none | some (x, r) => if r = [] then some x else none) = o) := by
      rw [Hid, ← ho]; unfold Sf.parse; rw [if_neg hl]; rfl
    rw [ho]
    clear ho
    go_enter Tryz.func20, Tryz.ntmps20
    go_wp2_with fail
    refine H1.out.mono ?_
    rintro e w1 ⟨rfl, hb1⟩
    have H2 := Lib.hid (next_any (Sf.trimS s) w1 (by omega))
    have hB1 := Lib.hid (((Below.refl _ w).alloc (Nat.le_refl _) (.cells zI 35)).trans (hb1.mono (by simp)))
    have hI1 := Lib.hid (hb.out.keep hb1)
    clear hb1 hb H1
    go_wp2_with fail
    refine H2.out.mono ?_
    rintro e w2 ⟨hb2, ⟨x, r, v, hx, rfl, hw⟩ | ⟨hx, rfl⟩⟩
    · have hI2 := hI1.out.keep hb2
      have hB2 := hB1.out.trans (hb2.mono hB1.out.size)
      have hlt := hI2.lt
      obtain ⟨va, vc, rfl⟩ := slice4 hw
      have HI2 := Lib.hid hI2
      have HB2 := Lib.hid hB2
      have hsz : w.heap.size < w1.heap.size := hI1.out.lt
      have HW2 := Lib.hid (owns_base4 hw (show w.heap.size + 1 ≤ w1.heap.size by omega))
      obtain ⟨c0, c1, c2, c3, f0, f1, f2, f3⟩ := hI2.all4
      rw [hx] at HO
      clear hx hw hI2 hB2 hb2 H2 hI1 hB1
      have hne : ¬ w2.heap.size = w.heap.size := by omega
      have hne' : ¬ w.heap.size = w2.heap.size := by omega
      unfold itmV iC
      cases r with
      | nil =>
        have hO : o = some x := by rw [← HO.out]; rfl
        have HO2 := Lib.hid hO
        clear hO HO
        go_wp2_with fail
        have hgA : w2.grownBy (set4 w2 w.heap.size (.int .i64 x.kind) (.int .i64 x.n) (.string (bA x.text)) (.slice va x.params.length vc)) (some w.heap.size) := g_set4 (g_refl _ _) _ _ _ _ (.inr rfl)
        refine bodyPost_ret (results_ret2 rfl _ _ rfl ((HI2.out.set4 _ _ _ _).alloc _)) rfl ?_
        rw [HO2.out]
        exact ⟨below_al (HB2.out.grown hgA HB2.out.size (fun k hk => by cases hk; exact Nat.le_refl _)) _, .inl ⟨x, _, rfl, rfl, (owns_base4 (HW2.out.kept hgA (not_own4 HW2.out (by omega))) (by omega)).alloc _⟩⟩
      | cons c r =>
        have hO : o = none := by rw [← HO.out]; rfl
        have HO2 := Lib.hid hO
        clear hO HO
        go_wp2_with fail
        have hgA : w2.grownBy (set4 w2 w.heap.size (.int .i64 0) (.int .i64 0) (.string (bA [])) (.slice none 0 0)) (some w.heap.size) := g_set4 (g_refl _ _) _ _ _ _ (.inr rfl)
        refine bodyPost_ret (results_ret2 (k := 0) (n := 0) (t := []) rfl _ _ rfl ((HI2.out.set4 _ _ _ _).alloc _)) rfl ?_
        rw [HO2.out]
        exact ⟨below_al (HB2.out.grown hgA HB2.out.size (fun k hk => by cases hk; exact Nat.le_refl _)) _, .inr ⟨rfl, rfl⟩⟩
    · have hO : o = none := by rw [← HO.out, hx]
      have HO2 := Lib.hid hO
      have hI2 := hI1.out.keep hb2
      have hB2 := hB1.out.trans (hb2.mono hB1.out.size)
      have hlt := hI2.lt
      have HI2 := Lib.hid hI2
      have HB2 := Lib.hid hB2
      obtain ⟨c0, c1, c2, c3, f0, f1, f2, f3⟩ := hI2.all4
      clear hx hI2 hB2 hb2 H2 hI1 hB1 hO HO
      have hne : ¬ w2.heap.size = w.heap.size := by omega
      have hne' : ¬ w.heap.size = w2.heap.size := by omega
      unfold itmV iC
      go_wp2_with fail
      have hgA : w2.grownBy (set4 w2 w.heap.size (.int .i64 0) (.int .i64 0) (.string (bA [])) (.slice none 0 0)) (some w.heap.size) := g_set4 (g_refl _ _) _ _ _ _ (.inr rfl)
      refine bodyPost_ret (results_ret2 (k := 0) (n := 0) (t := []) rfl _ _ rfl ((HI2.out.set4 _ _ _ _).alloc _)) rfl ?_
      rw [HO2.out]
      exact ⟨below_al (HB2.out.grown hgA HB2.out.size (fun k hk => by cases hk; exact Nat.le_refl _)) _, .inr ⟨rfl, rfl⟩⟩
end Go.Proofs.YtogjekjklknfeaaGreatDoor
