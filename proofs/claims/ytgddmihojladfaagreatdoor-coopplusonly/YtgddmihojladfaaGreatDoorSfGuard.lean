/- The contracts of guard's deferred closure, at each of its four types. -/
import Derived.Test.YtgddmihojladfaaGreatDoorSfItem
import Derived.Defers
import Derived.Recover
namespace Go.Proofs.YtgddmihojladfaaGreatDoor
open Go.RowKit Go.Shelf Go.Maps Go.Deep

theorem assert_ours (w : World) : (Instr.typeAssert (.iface 108 (.agg #[])) 20 108 true).run Tryz.prog w = .ok (.tuple #[.agg #[], .bool true]) w := by kernel_rfl
/-- The panic, recovered. -/
def caught : PanicEntry := { v := .iface 108 (.agg #[]), recovered := true }
/-- The error's box, and all else as it was. -/
def Caught (Be : Nat) (w w' : World) : Prop := Boxed w' Be 67 (.int .i64 50) ∧ w.grownBy w' (some Be)

set_option maxHeartbeats 400000 in
set_option maxRecDepth 20000 in
theorem catchI_panicking (Be : Nat) (x : Value) (w : World) (hb : Boxed w Be 67 x) :
    CallsD Tryz.prog 78 #[.pointer (some ⟨Be, 0, none⟩)] (.panicking [fault]) w fun e u' w' => e = .returned (.tuple #[]) ∧ u' = .panicking [caught] ∧ Caught Be w w' := by
  refine callsD_of_wpS Tryz.func78 rfl fun c₀ cs hu => ?_
  unfold fault at hu
  have hb1 := hb.alloc (.cells #[] 108)
  have hc := hb1.cell
  have hz := hb1.frozen
  have HC : Hid (Caught Be w ((w.alloc (.cells #[] 108)).setCell ⟨Be, 0, none⟩ (.int .i64 50))) := Lib.hid ⟨hb1.set _, g_trans (World.grownBy_alloc w _ _) (grownBy_setCell' _ _ _)⟩
  clear hb hb1
  apply wpS_seq
  apply wpS_region
  simp [wpOpsS, go_sem, recoverD, hu, Tryz.ntmps78, Exit.thenS]
  refine wpS_of_wp ?_
  have ht : (#[Value.pointer (some ⟨Be, 0, none⟩)] ++ ((Array.replicate 14 undef).setIfInBounds 3 (.iface 108 (.agg #[]))).setIfInBounds 0 (.iface 108 (.agg #[]))) = #[.pointer (some ⟨Be, 0, none⟩), .iface 108 (.agg #[]), undef, undef, .iface 108 (.agg #[]), undef, undef, undef, undef, undef, undef, undef, undef, undef, undef] := rfl
  rw [ht]
  clear ht hu
  have hta := assert_ours
  go_wp2_with fail
  simp [bodyPostS, results, Tryz.results78, caught]
  exact HC.out
set_option maxHeartbeats 400000 in
set_option maxRecDepth 20000 in
theorem catchI_idle (Be : Nat) (w : World) :
    CallsD Tryz.prog 78 #[.pointer (some ⟨Be, 0, none⟩)] .returning w fun e u' w' => e = .returned (.tuple #[]) ∧ u' = .returning ∧ w' = w := by
  refine callsD_of_wpS Tryz.func78 rfl fun c₀ cs hu => ?_
  apply wpS_seq
  apply wpS_region
  simp [wpOpsS, go_sem, recoverD, hu, Tryz.ntmps78, Exit.thenS]
  refine wpS_of_wp ?_
  have ht : (#[Value.pointer (some ⟨Be, 0, none⟩)] ++ ((Array.replicate 14 undef).setIfInBounds 3 .nilIface).setIfInBounds 0 .nilIface) = #[.pointer (some ⟨Be, 0, none⟩), .nilIface, undef, undef, .nilIface, undef, undef, undef, undef, undef, undef, undef, undef, undef, undef] := rfl
  rw [ht]
  have HU := Lib.hid hu
  clear ht hu
  go_wp2_with fail
  simp [bodyPostS, results, Tryz.results78]
  have h := HU.out
  cases c₀
  simp_all

end Go.Proofs.YtgddmihojladfaaGreatDoor
