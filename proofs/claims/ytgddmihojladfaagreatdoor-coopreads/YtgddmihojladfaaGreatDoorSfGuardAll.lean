/- Our texts of one layer, joined: plain functions and their laws, and the contracts of the functions of that layer. -/
import Derived.Test.YtgddmihojladfaaGreatDoorSfItem
import Derived.Defers
import Derived.Recover
import Derived.RegionTactic

/- The contracts of guard's deferred closure, at each of its four types. -/

namespace Go.Proofs.YtgddmihojladfaaGreatDoor
open Go.RowKit Go.Shelf Go.Maps Go.Deep

theorem assert_ours (w : World) : (Instr.typeAssert (.iface 108 (.agg #[])) 20 108 true).run Tryz.prog w = .ok (.tuple #[.agg #[], .bool true]) w := by kernel_rfl
/-- The panic, recovered. -/
def caught : PanicEntry := { v := .iface 108 (.agg #[]), recovered := true }
/-- The error's box, and all else as it was. -/
def Caught (Be : Nat) (w w' : World) : Prop := Boxed w' Be 67 (.int .i64 50) ∧ w.grownBy w' (some Be)

set_option maxHeartbeats 400000 in
set_option maxRecDepth 20000 in
theorem catchI_panicking (Be : Nat) (x : Value) (w : World) (hb : Boxed w Be 67 x) :
    CallsD Tryz.prog 78 #[.pointer (some ⟨Be, 0, none⟩)] (.panicking [fault]) w fun e u' w' => e = .returned (.tuple #[]) ∧ u' = .panicking [caught] ∧ Caught Be w w' := by
  refine callsD_of_wpS Tryz.func78 rfl fun c₀ cs hu => ?_
  unfold fault at hu
  have hb1 := hb.alloc (.cells #[] 108)
  have hc := hb1.cell
  have hz := hb1.frozen
  have HC : Hid (Caught Be w ((w.alloc (.cells #[] 108)).setCell ⟨Be, 0, none⟩ (.int .i64 50))) := Lib.hid ⟨hb1.set _, g_trans (World.grownBy_alloc w _ _) (grownBy_setCell' _ _ _)⟩
  clear hb hb1
  apply wpS_seq
  apply wpS_region
  simp [wpOpsS, go_sem, recoverD, hu, Tryz.ntmps78, Exit.thenS]
  refine wpS_of_wp ?_
  have ht : (#[Value.pointer (some ⟨Be, 0, none⟩)] ++ ((Array.replicate 14 undef).setIfInBounds 3 (.iface 108 (.agg #[]))).setIfInBounds 0 (.iface 108 (.agg #[]))) = #[.pointer (some ⟨Be, 0, none⟩), .iface 108 (.agg #[]), undef, undef, .iface 108 (.agg #[]), undef, undef, undef, undef, undef, undef, undef, undef, undef, undef] := rfl
  rw [ht]
  clear ht hu
  have hta := assert_ours
  go_wp2_with fail
  simp [bodyPostS, results, Tryz.results78, caught]
  exact HC.out
set_option maxHeartbeats 400000 in
set_option maxRecDepth 20000 in
theorem catchI_idle (Be : Nat) (w : World) :
    CallsD Tryz.prog 78 #[.pointer (some ⟨Be, 0, none⟩)] .returning w fun e u' w' => e = .returned (.tuple #[]) ∧ u' = .returning ∧ w' = w := by
  refine callsD_of_wpS Tryz.func78 rfl fun c₀ cs hu => ?_
  apply wpS_seq
  apply wpS_region
  simp [wpOpsS, go_sem, recoverD, hu, Tryz.ntmps78, Exit.thenS]
  refine wpS_of_wp ?_
  have ht : (#[Value.pointer (some ⟨Be, 0, none⟩)] ++ ((Array.replicate 14 undef).setIfInBounds 3 .nilIface).setIfInBounds 0 .nilIface) = #[.pointer (some ⟨Be, 0, none⟩), .nilIface, undef, undef, .nilIface, undef, undef, undef, undef, undef, undef, undef, undef, undef, undef] := rfl
  rw [ht]
  have HU := Lib.hid hu
  clear ht hu
  go_wp2_with fail
  simp [bodyPostS, results, Tryz.results78]
  have h := HU.out
  cases c₀
  simp_all

end Go.Proofs.YtgddmihojladfaaGreatDoor

/- The contract of guard at items. -/
namespace Go.Proofs.YtgddmihojladfaaGreatDoor
open Go.RowKit Go.Shelf Go.Maps Go.Deep

/-- What guard answers of an item. -/
def GrdI (w : World) (b : Nat) (o : Option (Sf.Itm × List UInt8)) (e : Ending) (w' : World) : Prop :=
  w.grownBy w' (some b) ∧ ((∃ x r v, o = some (x, r) ∧ e = .returned (.tuple #[itmV x.kind x.n x.text v, .string (bA r), .int .i64 0]) ∧ w'.ownsRow w.heap.size 72 4 v x.params.length (parsRow x.params)) ∨ (o = none ∧ e = .returned (.tuple #[itmV 0 0 [] (.slice none 0 0), .string ⟨#[]⟩, .int .i64 50])))
theorem load_err {w : World} {B : Nat} {n : Int} (h : Boxed w B 67 (.int .i64 n)) : (loadVar 67 ⟨B, 0, none⟩).run Tryz.prog w = .ok (.int .i64 n) w := by
  have c0 := h.cell
  simp [go_sem, c0]
theorem results_grdI {fn : Func} (h : fn.results = #[.cell 4 66, .tmp 5, .cell 6 67]) (tmps : Array Value) (w : World) {B C : Nat} {k n : Int} {t : List UInt8} {l : Value} {m : Int} (hp : tmps[4]?.getD undef = .pointer (some ⟨B, 0, none⟩)) (hq : tmps[6]?.getD undef = .pointer (some ⟨C, 0, none⟩)) (hb : CBox w B 66 (iC k n t l)) (hc : Boxed w C 67 (.int .i64 m)) :
    (results fn tmps).run Tryz.prog w = .ok (.tuple #[itmV k n t l, tmps.getD 5 undef, .int .i64 m]) w := by
  have hl := load_itm hb
  have hm := load_err hc
  simp [results, h, hp, hq, hl, hm, asAddr]

theorem g_drew {a b : World} {row : Option Nat} (h : a.grownBy b row) : a.grownBy b.drew row := ⟨h.os, h.tape, h.output, h.size, h.block⟩
set_option maxHeartbeats 1000000 in
set_option maxRecDepth 20000 in
theorem guardI_any (b : Nat) (s : List UInt8) (o : Option (Sf.Itm × List UInt8)) (w : World) (hR : Rd b s w) (F : FuncId)
    (hen : ∀ args w, (callFunc F args).run Tryz.prog w = .ok (.enter F args) w)
    (hC : ∀ W, Rd b s W → Calls Tryz.prog F #[.pointer (some ⟨b, 0, none⟩)] W (GotI b W o)) :
    Calls Tryz.prog 61 #[.pointer (some ⟨b, 0, none⟩), .func (.func F) #[.pointer (some ⟨b, 0, none⟩)] #[]] w (GrdI w b o) := by
  have hmf : ∀ (fn : Fn) (first cap : Array Value) (w : World), (Instr.makeFunc fn first cap).run Tryz.prog w = .ok (.func fn first cap) w := fun _ _ _ _ => rfl
  have hlt := hR.lt
  have hR0 := (hR.alloc (.cells zI 66)).alloc (.cells #[.int .i64 0] 67)
  have H1 := Lib.hid (hC _ hR0)
  have hbI := Lib.hid ((CBox.new w 66 zI).alloc (.cells #[.int .i64 0] 67))
  have hbE := Lib.hid (Boxed.new (w.alloc (.cells zI 66)) 67 (.int .i64 0))
  have hsz : (w.alloc (.cells zI 66)).heap.size = w.heap.size + 1 := by simp
  rw [hsz] at hbE
  clear hR hR0 hC hsz
  go_enter_defers Tryz.func61, Tryz.ntmps61
  go_wp2_with fail
  refine H1.out.mono ?_
  rintro e w1 ⟨hg1, ⟨x, r, v, ho, rfl, hr, hw⟩ | ⟨ho, rfl⟩⟩
  · have hI1 := hbI.out.kept hg1 (by simp; omega)
    have hE1 := hbE.out.kept hg1 (by simp; omega)
    have hG1 := g_trans (g_alloc (World.grownBy_alloc w (.cells zI 66) (some b)) (.cells #[.int .i64 0] 67)) hg1
    have hs1 := hE1.lt
    have hw' : w1.ownsRow (w.heap.size + 2) 72 4 v x.params.length (parsRow x.params) := by simpa using hw
    obtain ⟨va, vc, rfl⟩ := slice4 hw'
    obtain ⟨c0, c1, c2, c3, f0, f1, f2, f3⟩ := hI1.all4
    have HI1 := Lib.hid hI1; have HE1 := Lib.hid hE1; have HG1 := Lib.hid hG1; have HW1 := Lib.hid hw'; have HR1 := Lib.hid hr; have HO := Lib.hid ho
    clear hI1 hE1 hG1 hw hw' hr ho hbI hbE hg1 H1
    unfold itmV iC
    go_wp2_with fail
    obtain ⟨w2, hw2⟩ : ∃ w2, set4 w1 w.heap.size (.int .i64 x.kind) (.int .i64 x.n) (.string (bA x.text)) (.slice va x.params.length vc) = w2 := ⟨_, rfl⟩
    have hg2 : w1.grownBy w2 (some w.heap.size) := by rw [← hw2]; exact g_set4 (g_refl _ _) _ _ _ _ (.inr rfl)
    have HI2 := Lib.hid (show CBox w2 w.heap.size 66 (iC x.kind x.n x.text (.slice va x.params.length vc)) by rw [← hw2]; exact HI1.out.set4 _ _ _ _)
    have HE2 := Lib.hid (HE1.out.kept hg2 (by simp))
    have HR2 := Lib.hid (HR1.out.kept hg2 (by simp; omega))
    have HW2 := Lib.hid (HW1.out.kept hg2 (not_own4 HW1.out (by omega)))
    have HG2 := Lib.hid (g_row HG1.out hg2 (fun j hj => by cases hj; omega))
    unfold set4 at hw2
    rw [hw2]
    clear hw2 c0 c1 c2 c3 f0 f1 f2 f3 hg2 HI1 HE1 HR1 HW1 HG1
    obtain ⟨c0, c1, c2, c3, f0, f1, f2, f3⟩ := HI2.out.all4
    have d0 := HE2.out.cell
    have d1 := HE2.out.frozen
    have r0 := HR2.out.cell
    go_region
    go_wp2_with fail
    have hgA : w2.grownBy (set4 w2 w.heap.size (.int .i64 x.kind) (.int .i64 x.n) (.string (bA x.text)) (.slice va x.params.length vc)) (some w.heap.size) := g_set4 (g_refl _ _) _ _ _ _ (.inr rfl)
    have hI3 := HI2.out.set4 (.int .i64 x.kind) (.int .i64 x.n) (.string (bA x.text)) (.slice va x.params.length vc)
    have hE3 := HE2.out.kept hgA (by simp)
    have hW3 := HW2.out.kept hgA (not_own4 HW2.out (by omega))
    have hG3 := g_row HG2.out hgA (fun j hj => by cases hj; omega)
    have hgB := g_drew (grownBy_setCell' (set4 w2 w.heap.size (.int .i64 x.kind) (.int .i64 x.n) (.string (bA x.text)) (.slice va x.params.length vc)) (w.heap.size + 1) (.int .i64 0))
    have hE4 : Boxed (((set4 w2 w.heap.size (.int .i64 x.kind) (.int .i64 x.n) (.string (bA x.text)) (.slice va x.params.length vc)).setCell ⟨w.heap.size + 1, 0, none⟩ (.int .i64 0)).drew) (w.heap.size + 1) 67 (.int .i64 0) := Boxed.set _ hE3
    have hI4 := CBox.kept hI3 hgB (by simp)
    have hW4 := owns_base4 (hW3.kept hgB (not_own4 hW3 (by omega))) (show w.heap.size ≤ w.heap.size + 2 by omega)
    have hG4 := g_row hG3 hgB (fun j hj => by cases hj; omega)
    generalize hfin : ((set4 w2 w.heap.size (.int .i64 x.kind) (.int .i64 x.n) (.string (bA x.text)) (.slice va x.params.length vc)).setCell ⟨w.heap.size + 1, 0, none⟩ (.int .i64 0)).drew = w4 at hE4 hI4 hW4 hG4
    clear hfin hgB hE3 hI3 hW3 hG3 hgA c0 c1 c2 c3 f0 f1 f2 f3 d0 d1 r0
    refine leaves_cons (f := 78) (args := #[.pointer (some ⟨w.heap.size + 1, 0, none⟩)]) (by simp) (by simp [go_sem]) ?_
    refine (catchI_idle (w.heap.size + 1) _).mono ?_
    rintro e u' w3 ⟨rfl, rfl, rfl⟩
    refine ⟨_, results_grdI rfl _ _ rfl rfl hI4 hE4, ?_⟩
    rw [HO.out]
    exact ⟨hG4, .inl ⟨x, r, _, rfl, rfl, hW4⟩⟩
  · have hI1 := hbI.out.kept hg1 (by simp; omega)
    have hE1 := hbE.out.kept hg1 (by simp; omega)
    have hG1 := g_trans (g_alloc (World.grownBy_alloc w (.cells zI 66) (some b)) (.cells #[.int .i64 0] 67)) hg1
    have HI1 := Lib.hid hI1; have HE1 := Lib.hid hE1; have HG1 := Lib.hid hG1; have HO := Lib.hid ho
    clear hI1 hE1 hG1 ho hbI hbE hg1 H1
    go_wp2_with fail
    refine leaves_cons (f := 78) (args := #[.pointer (some ⟨w.heap.size + 1, 0, none⟩)]) (by simp) (by simp [go_sem]) ?_
    refine (catchI_panicking (w.heap.size + 1) _ w1 HE1.out).mono ?_
    rintro e u' w2 ⟨rfl, rfl, hE2, hg2⟩
    refine ⟨_, results_grdI rfl _ _ rfl rfl (HI1.out.kept hg2 (by simp)) hE2, ?_⟩
    rw [HO.out]
    exact ⟨g_row HG1.out hg2 (fun j hj => by cases hj; omega), .inr ⟨rfl, rfl⟩⟩
end Go.Proofs.YtgddmihojladfaaGreatDoor

/- The contracts of guard at values, at lists of parameters and at strings. -/

namespace Go.Proofs.YtgddmihojladfaaGreatDoor
open Go.RowKit Go.Shelf Go.Maps Go.Deep

/-- What guard answers of a value. -/
def GrdV (w : World) (b : Nat) (o : Option (Sf.Par × List UInt8)) (e : Ending) (w' : World) : Prop :=
  w.grownBy w' (some b) ∧ ((∃ x r, o = some (x, r) ∧ e = .returned (.tuple #[valV x, .string (bA r), .int .i64 0])) ∨ (o = none ∧ e = .returned (.tuple #[valV ⟨[], 0, 0, []⟩, .string ⟨#[]⟩, .int .i64 50])))
theorem results_grdV {fn : Func} (h : fn.results = #[.cell 4 111, .tmp 5, .cell 6 67]) (tmps : Array Value) (w : World) {B C : Nat} {x : Sf.Par} {m : Int} (hp : tmps[4]?.getD undef = .pointer (some ⟨B, 0, none⟩)) (hq : tmps[6]?.getD undef = .pointer (some ⟨C, 0, none⟩)) (hb : CBox w B 111 (vC x)) (hc : Boxed w C 67 (.int .i64 m)) :
    (results fn tmps).run Tryz.prog w = .ok (.tuple #[valV x, tmps.getD 5 undef, .int .i64 m]) w := by
  have hl := load_val hb
  have hm := load_err hc
  simp [results, h, hp, hq, hl, hm, asAddr]
theorem results_grdS {fn : Func} (h : fn.results = #[.tmp 4, .tmp 5, .cell 6 67]) (tmps : Array Value) (w : World) {C : Nat} {m : Int} (hq : tmps[6]?.getD undef = .pointer (some ⟨C, 0, none⟩)) (hc : Boxed w C 67 (.int .i64 m)) :
    (results fn tmps).run Tryz.prog w = .ok (.tuple #[tmps.getD 4 undef, tmps.getD 5 undef, .int .i64 m]) w := by
  have hm := load_err hc
  simp [results, h, hq, hm, asAddr]

/-- What guard answers there. -/
def GrdL (w : World) (b : Nat) (o : Option (List Sf.Par × List UInt8)) (e : Ending) (w' : World) : Prop :=
  w.grownBy w' (some b) ∧ ((∃ l r v, o = some (l, r) ∧ e = .returned (.tuple #[v, .string (bA r), .int .i64 0]) ∧ w'.ownsRow w.heap.size 72 4 v l.length (parsRow l)) ∨ (o = none ∧ e = .returned (.tuple #[.slice none 0 0, .string ⟨#[]⟩, .int .i64 50])))
theorem keyo_split {o : Option (List UInt8 × List UInt8)} {v : Value} {r : List UInt8} (h : mapK o = some (v, r)) : ∃ k, v = .string (bA k) ∧ o = some (k, r) := by
  cases o with
  | none => cases h
  | some x => simp only [mapK, Option.map_some, Option.some.injEq, Prod.mk.injEq] at h; exact ⟨x.1, h.1.symm, by rw [← h.2]⟩
theorem key_no {o : Option (List UInt8 × List UInt8)} (h : mapK o = none) : o = none := by cases o; rfl; cases h

/-- What guard answers there. -/
def GrdK (w : World) (b : Nat) (o : Option (List UInt8 × List UInt8)) (e : Ending) (w' : World) : Prop :=
  w.grownBy w' (some b) ∧ ((∃ k r, o = some (k, r) ∧ e = .returned (.tuple #[.string (bA k), .string (bA r), .int .i64 0])) ∨ (o = none ∧ e = .returned (.tuple #[.string ⟨#[]⟩, .string ⟨#[]⟩, .int .i64 50])))
end Go.Proofs.YtgddmihojladfaaGreatDoor
