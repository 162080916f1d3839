/- The contracts of sfitem's functions of one byte, and of need, first, skip: what a reader takes off. -/
import Derived.Test.YtgddmihojladfaaGreatDoorOctAll
import Derived.Test.YtgddmihojladfaaGreatDoorBytes
import Derived.Test.YtgddmihojladfaaGreatDoorSfMath
import Derived.RangeFuncBox
import Derived.WalkLawsBesides
namespace Go.Proofs.YtgddmihojladfaaGreatDoor
open Go.RowKit

set_option maxHeartbeats 400000 in
theorem isSpace_any (c : Int) (w : World) : Calls Tryz.prog 99 #[.int .u8 c] w fun e w' => e = .returned (.bool (c == 32)) ∧ w = w' := by
  go_enter Tryz.func99, Tryz.ntmps99
  go_wp2
  go_ret
  exact ⟨rfl, rfl⟩
set_option maxHeartbeats 400000 in
theorem isDigit_any (c : Int) (w : World) : Calls Tryz.prog 109 #[.int .u8 c] w fun e w' => e = .returned (.bool (Oct.digitI c)) ∧ w = w' := by
  go_enter Tryz.func109, Tryz.ntmps109
  go_wp2
  all_goals (go_ret; refine ⟨Oct.ret_bool ?_, rfl⟩; rw [Bool.eq_iff_iff]; simp [Oct.digitI]; try omega)
def lowI (c : Int) : Bool := decide (97 ≤ c) && decide (c ≤ 122)
set_option maxHeartbeats 400000 in
theorem isLower_any (c : Int) (w : World) : Calls Tryz.prog 127 #[.int .u8 c] w fun e w' => e = .returned (.bool (lowI c)) ∧ w = w' := by
  go_enter Tryz.func127, Tryz.ntmps127
  go_wp2
  all_goals (go_ret; refine ⟨Oct.ret_bool ?_, rfl⟩; rw [Bool.eq_iff_iff]; simp [lowI]; try omega)
set_option maxHeartbeats 400000 in
theorem isPrintable_any (c : Int) (w : World) : Calls Tryz.prog 126 #[.int .u8 c] w fun e w' => e = .returned (.bool (Sf.prI c)) ∧ w = w' := by
  go_enter Tryz.func126, Tryz.ntmps126
  go_wp2
  all_goals (go_ret; refine ⟨Oct.ret_bool ?_, rfl⟩; rw [Bool.eq_iff_iff]; simp [Sf.prI]; try omega)
set_option maxHeartbeats 400000 in
theorem isLetter_any (c : Int) (w : World) : Calls Tryz.prog 112 #[.int .u8 c] w fun e w' => e = .returned (.bool (Oct.letterI c)) ∧ w = w' := by
  have H : Hid (∀ W : World, Calls Tryz.prog 127 #[.int .u8 c] W fun e w' => e = .returned (.bool (lowI c)) ∧ W = w') := Lib.hid (fun W => isLower_any c W)
  obtain ⟨a, ha⟩ : ∃ a, lowI c = a := ⟨_, rfl⟩
  have hl : Oct.letterI c = (a || (decide (65 ≤ c) && decide (c ≤ 90))) := by rw [← ha]; rfl
  rw [ha] at H
  rw [hl]
  clear ha hl
  go_enter Tryz.func112, Tryz.ntmps112
  go_wp2_with (go_at_call 127; refine (H.out _).mono ?_; rintro e w' ⟨rfl, rfl⟩)
  all_goals (go_ret; refine ⟨Oct.ret_bool ?_, rfl⟩; rw [Bool.eq_iff_iff]; simp_all; try omega)
set_option maxHeartbeats 400000 in
theorem isKeyByte_any (c : Int) (w : World) : Calls Tryz.prog 130 #[.int .u8 c] w fun e w' => e = .returned (.bool (Sf.keyI c)) ∧ w = w' := by
  have H : Hid (∀ W : World, Calls Tryz.prog 127 #[.int .u8 c] W fun e w' => e = .returned (.bool (lowI c)) ∧ W = w') := Lib.hid (fun W => isLower_any c W)
  have G : Hid (∀ W : World, Calls Tryz.prog 109 #[.int .u8 c] W fun e w' => e = .returned (.bool (Oct.digitI c)) ∧ W = w') := Lib.hid (fun W => isDigit_any c W)
  obtain ⟨a, ha⟩ : ∃ a, lowI c = a := ⟨_, rfl⟩
  obtain ⟨b, hb⟩ : ∃ b, Oct.digitI c = b := ⟨_, rfl⟩
  have hl : Sf.keyI c = (a || c == 42 || (b || (c == 95 || (c == 45 || c == 46)))) := by rw [← ha, ← hb]; rfl
  rw [ha] at H
  rw [hb] at G
  rw [hl]
  clear ha hl hb
  go_enter Tryz.func130, Tryz.ntmps130
  go_wp2_with (first
    | (go_at_call 127; refine (H.out _).mono ?_; rintro e w' ⟨rfl, rfl⟩)
    | (go_at_call 109; refine (G.out _).mono ?_; rintro e w' ⟨rfl, rfl⟩))
  all_goals (go_ret; refine ⟨Oct.ret_bool ?_, rfl⟩; rw [Bool.eq_iff_iff]; simp_all; try omega)
set_option maxHeartbeats 400000 in
theorem isSequenceByte_any (c : Int) (w : World) : Calls Tryz.prog 129 #[.int .u8 c] w fun e w' => e = .returned (.bool (Sf.baseI c)) ∧ w = w' := by
  have H : Hid (∀ W : World, Calls Tryz.prog 112 #[.int .u8 c] W fun e w' => e = .returned (.bool (Oct.letterI c)) ∧ W = w') := Lib.hid (fun W => isLetter_any c W)
  have G : Hid (∀ W : World, Calls Tryz.prog 109 #[.int .u8 c] W fun e w' => e = .returned (.bool (Oct.digitI c)) ∧ W = w') := Lib.hid (fun W => isDigit_any c W)
  obtain ⟨a, ha⟩ : ∃ a, Oct.letterI c = a := ⟨_, rfl⟩
  obtain ⟨b, hb⟩ : ∃ b, Oct.digitI c = b := ⟨_, rfl⟩
  have hl : Sf.baseI c = (a || (b || (c == 43 || (c == 47 || c == 61)))) := by rw [← ha, ← hb]; rfl
  rw [ha] at H
  rw [hb] at G
  rw [hl]
  clear ha hl hb
  go_enter Tryz.func129, Tryz.ntmps129
  go_wp2_with (first
    | (go_at_call 112; refine (H.out _).mono ?_; rintro e w' ⟨rfl, rfl⟩)
    | (go_at_call 109; refine (G.out _).mono ?_; rintro e w' ⟨rfl, rfl⟩))
  all_goals (go_ret; refine ⟨Oct.ret_bool ?_, rfl⟩; rw [Bool.eq_iff_iff]; simp_all; try omega)

/-- What a reader panics with. -/
def fault : PanicEntry := { v := .iface 108 (.agg #[]), recovered := false }
/-- The reader in block b has s left. -/
def Rd (b : Nat) (s : List UInt8) (w : World) : Prop := Boxed w b 91 (.string (bA s))

theorem need_yes (w : World) : Calls Tryz.prog 123 #[.bool true] w fun e w' => e = .returned (.tuple #[]) ∧ w = w' := by
  go_enter Tryz.func123, Tryz.ntmps123
  go_wp2
  go_end0
  exact ⟨rfl, rfl⟩
theorem need_no (w : World) : Calls Tryz.prog 123 #[.bool false] w fun e w' => e = .panicked [fault] ∧ w = w' := by
  go_enter Tryz.func123, Tryz.ntmps123
  go_wp2
  exact ⟨rfl, rfl, rfl⟩
end Go.Proofs.YtgddmihojladfaaGreatDoor
