/- The contracts of guard's deferred closure, at each of its four types. -/
import Derived.Test.YtilclhhpmenjaaaGreatDoorSfItem
import Derived.Defers
import Derived.Recover
namespace Go.Proofs.YtilclhhpmenjaaaGreatDoor
open Go.RowKit Go.Shelf Go.Maps Go.Deep

theorem assert_ours (w : World) : (Instr.typeAssert (.iface 86 (.agg #[])) 20 86 true).run Tryz.prog w = .ok (.tuple #[.agg #[], .bool true]) w := by kernel_rfl
/-- The panic, recovered. -/
def caught : PanicEntry := { v := .iface 86 (.agg #[]), recovered := true }
/-- The error's box, and all else as it was. -/
def Caught (Be : Nat) (w w' : World) : Prop := Boxed w' Be 26 (.int .i64 50) ∧ w.grownBy w' (some Be)

set_option maxHeartbeats 400000 in
set_option maxRecDepth 20000 in
theorem catchI_panicking (Be : Nat) (x : Value) (w : World) (hb : Boxed w Be 26 x) :
    CallsD Tryz.prog 52 #[.pointer (some ⟨Be, 0, none⟩)] (.panicking [fault]) w fun e u' w' => e = .returned (.tuple #[]) ∧ u' = .panicking [caught] ∧ Caught Be w w' := by
  refine callsD_of_wpS Tryz.func52 rfl fun c₀ cs hu => ?_
  unfold fault at hu
  have hb1 := hb.alloc (.cells #[] 86)
  have hc := hb1.cell
  have hz := hb1.frozen
  have HC : Hid (Caught Be w ((w.alloc (.cells #[] 86)).setCell ⟨Be, 0, none⟩ (.int .i64 50))) := Lib.hid ⟨hb1.set _, g_trans (World.grownBy_alloc w _ _) (grownBy_setCell' _ _ _)⟩
  clear hb hb1
  apply wpS_seq
  apply wpS_region
  simp [wpOpsS, go_sem, recoverD, hu, Tryz.ntmps52, Exit.thenS]
  refine wpS_of_wp ?_
  have ht : (#[Value.pointer (some ⟨Be, 0, none⟩)] ++ ((Array.replicate 14 undef).setIfInBounds 3 (.iface 86 (.agg #[]))).setIfInBounds 0 (.iface 86 (.agg #[]))) = #[.pointer (some ⟨Be, 0, none⟩), .iface 86 (.agg #[]), undef, undef, .iface 86 (.agg #[]), undef, undef, undef, undef, undef, undef, undef, undef, undef, undef] := rfl
  rw [ht]
  clear ht hu
  have hta := assert_ours
  go_wp2_with fail
  simp [bodyPostS, results, Tryz.results52, caught]
  exact HC.out
set_option maxHeartbeats 400000 in
set_option maxRecDepth 20000 in
theorem catchI_idle (Be : Nat) (w : World) :
    CallsD Tryz.prog 52 #[.pointer (some ⟨Be, 0, none⟩)] .returning w fun e u' w' => e = .returned (.tuple #[]) ∧ u' = .returning ∧ w' = w := by
  refine callsD_of_wpS Tryz.func52 rfl fun c₀ cs hu => ?_
  apply wpS_seq
  apply wpS_region
  simp [wpOpsS, go_sem, recoverD, hu, Tryz.ntmps52, Exit.thenS]
  refine wpS_of_wp ?_
  have ht : (#[Value.pointer (some ⟨Be, 0, none⟩)] ++ ((Array.replicate 14 undef).setIfInBounds 3 .nilIface).setIfInBounds 0 .nilIface) = #[.pointer (some ⟨Be, 0, none⟩), .nilIface, undef, undef, .nilIface, undef, undef, undef, undef, undef, undef, undef, undef, undef, undef] := rfl
  rw [ht]
  have HU := Lib.hid hu
  clear ht hu
  go_wp2_with fail
  simp [bodyPostS, results, Tryz.results52]
  have h := HU.out
  cases c₀
  simp_all

set_option maxHeartbeats 400000 in
set_option maxRecDepth 20000 in
theorem catchL_panicking (Be : Nat) (x : Value) (w : World) (hb : Boxed w Be 26 x) :
    CallsD Tryz.prog 60 #[.pointer (some ⟨Be, 0, none⟩)] (.panicking [fault]) w fun e u' w' => e = .returned (.tuple #[]) ∧ u' = .panicking [caught] ∧ Caught Be w w' := by
  refine callsD_of_wpS Tryz.func60 rfl fun c₀ cs hu => ?_
  unfold fault at hu
  have hb1 := hb.alloc (.cells #[] 86)
  have hc := hb1.cell
  have hz := hb1.frozen
  have HC : Hid (Caught Be w ((w.alloc (.cells #[] 86)).setCell ⟨Be, 0, none⟩ (.int .i64 50))) := Lib.hid ⟨hb1.set _, g_trans (World.grownBy_alloc w _ _) (grownBy_setCell' _ _ _)⟩
  clear hb hb1
  apply wpS_seq
  apply wpS_region
  simp [wpOpsS, go_sem, recoverD, hu, Tryz.ntmps60, Exit.thenS]
  refine wpS_of_wp ?_
  have ht : (#[Value.pointer (some ⟨Be, 0, none⟩)] ++ ((Array.replicate 14 undef).setIfInBounds 3 (.iface 86 (.agg #[]))).setIfInBounds 0 (.iface 86 (.agg #[]))) = #[.pointer (some ⟨Be, 0, none⟩), .iface 86 (.agg #[]), undef, undef, .iface 86 (.agg #[]), undef, undef, undef, undef, undef, undef, undef, undef, undef, undef] := rfl
  rw [ht]
  clear ht hu
  have hta := assert_ours
  go_wp2_with fail
  simp [bodyPostS, results, Tryz.results60, caught]
  exact HC.out
set_option maxHeartbeats 400000 in
set_option maxRecDepth 20000 in
theorem catchL_idle (Be : Nat) (w : World) :
    CallsD Tryz.prog 60 #[.pointer (some ⟨Be, 0, none⟩)] .returning w fun e u' w' => e = .returned (.tuple #[]) ∧ u' = .returning ∧ w' = w := by
  refine callsD_of_wpS Tryz.func60 rfl fun c₀ cs hu => ?_
  apply wpS_seq
  apply wpS_region
  simp [wpOpsS, go_sem, recoverD, hu, Tryz.ntmps60, Exit.thenS]
  refine wpS_of_wp ?_
  have ht : (#[Value.pointer (some ⟨Be, 0, none⟩)] ++ ((Array.replicate 14 undef).setIfInBounds 3 .nilIface).setIfInBounds 0 .nilIface) = #[.pointer (some ⟨Be, 0, none⟩), .nilIface, undef, undef, .nilIface, undef, undef, undef, undef, undef, undef, undef, undef, undef, undef] := rfl
  rw [ht]
  have HU := Lib.hid hu
  clear ht hu
  go_wp2_with fail
  simp [bodyPostS, results, Tryz.results60]
  have h := HU.out
  cases c₀
  simp_all

set_option maxHeartbeats 400000 in
set_option maxRecDepth 20000 in
theorem catchK_panicking (Be : Nat) (x : Value) (w : World) (hb : Boxed w Be 26 x) :
    CallsD Tryz.prog 65 #[.pointer (some ⟨Be, 0, none⟩)] (.panicking [fault]) w fun e u' w' => e = .returned (.tuple #[]) ∧ u' = .panicking [caught] ∧ Caught Be w w' := by
  refine callsD_of_wpS Tryz.func65 rfl fun c₀ cs hu => ?_
  unfold fault at hu
  have hb1 := hb.alloc (.cells #[] 86)
  have hc := hb1.cell
  have hz := hb1.frozen
  have HC : Hid (Caught Be w ((w.alloc (.cells #[] 86)).setCell ⟨Be, 0, none⟩ (.int .i64 50))) := Lib.hid ⟨hb1.set _, g_trans (World.grownBy_alloc w _ _) (grownBy_setCell' _ _ _)⟩
  clear hb hb1
  apply wpS_seq
  apply wpS_region
  simp [wpOpsS, go_sem, recoverD, hu, Tryz.ntmps65, Exit.thenS]
  refine wpS_of_wp ?_
  have ht : (#[Value.pointer (some ⟨Be, 0, none⟩)] ++ ((Array.replicate 14 undef).setIfInBounds 3 (.iface 86 (.agg #[]))).setIfInBounds 0 (.iface 86 (.agg #[]))) = #[.pointer (some ⟨Be, 0, none⟩), .iface 86 (.agg #[]), undef, undef, .iface 86 (.agg #[]), undef, undef, undef, undef, undef, undef, undef, undef, undef, undef] := rfl
  rw [ht]
  clear ht hu
  have hta := assert_ours
  go_wp2_with fail
  simp [bodyPostS, results, Tryz.results65, caught]
  exact HC.out
set_option maxHeartbeats 400000 in
set_option maxRecDepth 20000 in
theorem catchK_idle (Be : Nat) (w : World) :
    CallsD Tryz.prog 65 #[.pointer (some ⟨Be, 0, none⟩)] .returning w fun e u' w' => e = .returned (.tuple #[]) ∧ u' = .returning ∧ w' = w := by
  refine callsD_of_wpS Tryz.func65 rfl fun c₀ cs hu => ?_
  apply wpS_seq
  apply wpS_region
  simp [wpOpsS, go_sem, recoverD, hu, Tryz.ntmps65, Exit.thenS]
  refine wpS_of_wp ?_
  have ht : (#[Value.pointer (some ⟨Be, 0, none⟩)] ++ ((Array.replicate 14 undef).setIfInBounds 3 .nilIface).setIfInBounds 0 .nilIface) = #[.pointer (some ⟨Be, 0, none⟩), .nilIface, undef, undef, .nilIface, undef, undef, undef, undef, undef, undef, undef, undef, undef, undef] := rfl
  rw [ht]
  have HU := Lib.hid hu
  clear ht hu
  go_wp2_with fail
  simp [bodyPostS, results, Tryz.results65]
  have h := HU.out
  cases c₀
  simp_all

set_option maxHeartbeats 400000 in
set_option maxRecDepth 20000 in
theorem catchV_panicking (Be : Nat) (x : Value) (w : World) (hb : Boxed w Be 26 x) :
    CallsD Tryz.prog 87 #[.pointer (some ⟨Be, 0, none⟩)] (.panicking [fault]) w fun e u' w' => e = .returned (.tuple #[]) ∧ u' = .panicking [caught] ∧ Caught Be w w' := by
  refine callsD_of_wpS Tryz.func87 rfl fun c₀ cs hu => ?_
  unfold fault at hu
  have hb1 := hb.alloc (.cells #[] 86)
  have hc := hb1.cell
  have hz := hb1.frozen
  have HC : Hid (Caught Be w ((w.alloc (.cells #[] 86)).setCell ⟨Be, 0, none⟩ (.int .i64 50))) := Lib.hid ⟨hb1.set _, g_trans (World.grownBy_alloc w _ _) (grownBy_setCell' _ _ _)⟩
  clear hb hb1
  apply wpS_seq
  apply wpS_region
  simp [wpOpsS, go_sem, recoverD, hu, Tryz.ntmps87, Exit.thenS]
  refine wpS_of_wp ?_
  have ht : (#[Value.pointer (some ⟨Be, 0, none⟩)] ++ ((Array.replicate 14 undef).setIfInBounds 3 (.iface 86 (.agg #[]))).setIfInBounds 0 (.iface 86 (.agg #[]))) = #[.pointer (some ⟨Be, 0, none⟩), .iface 86 (.agg #[]), undef, undef, .iface 86 (.agg #[]), undef, undef, undef, undef, undef, undef, undef, undef, undef, undef] := rfl
  rw [ht]
  clear ht hu
  have hta := assert_ours
  go_wp2_with fail
  simp [bodyPostS, results, Tryz.results87, caught]
  exact HC.out
set_option maxHeartbeats 400000 in
set_option maxRecDepth 20000 in
theorem catchV_idle (Be : Nat) (w : World) :
    CallsD Tryz.prog 87 #[.pointer (some ⟨Be, 0, none⟩)] .returning w fun e u' w' => e = .returned (.tuple #[]) ∧ u' = .returning ∧ w' = w := by
  refine callsD_of_wpS Tryz.func87 rfl fun c₀ cs hu => ?_
  apply wpS_seq
  apply wpS_region
  simp [wpOpsS, go_sem, recoverD, hu, Tryz.ntmps87, Exit.thenS]
  refine wpS_of_wp ?_
  have ht : (#[Value.pointer (some ⟨Be, 0, none⟩)] ++ ((Array.replicate 14 undef).setIfInBounds 3 .nilIface).setIfInBounds 0 .nilIface) = #[.pointer (some ⟨Be, 0, none⟩), .nilIface, undef, undef, .nilIface, undef, undef, undef, undef, undef, undef, undef, undef, undef, undef] := rfl
  rw [ht]
  have HU := Lib.hid hu
  clear ht hu
  go_wp2_with fail
  simp [bodyPostS, results, Tryz.results87]
  have h := HU.out
  cases c₀
  simp_all
end Go.Proofs.YtilclhhpmenjaaaGreatDoor
