/- The contracts of a reader's form and value. -/
import Derived.Test.YtgddmihojladfaaGreatDoorSfQuo
import Derived.Test.YtgddmihojladfaaGreatDoorSfNum2
namespace Go.Proofs.YtgddmihojladfaaGreatDoor
open Go.RowKit Go.Shelf

theorem form_nil (b : Nat) (w : World) (hR : Rd b [] w) : Calls Tryz.prog 96 #[.pointer (some ⟨b, 0, none⟩)] w fun e w' => e = .panicked [fault] ∧ w = w' := by
  have H := Lib.hid (first_no b w hR)
  clear hR
  go_enter Tryz.func96, Tryz.ntmps96
  go_wp2_with (go_at_call 108; refine H.out.mono ?_; rintro e w3 ⟨rfl, rfl⟩)
  exact ⟨rfl, rfl, rfl⟩
set_option maxHeartbeats 400000 in
theorem form_neg (b : Nat) (c : UInt8) (r : List UInt8) (w : World) (hR : Rd b (c :: r) w) (h45 : ((c.toNat : Int) == 45) = true) : Calls Tryz.prog 96 #[.pointer (some ⟨b, 0, none⟩)] w fun e w' => e = .returned (.func (.func 110) #[.pointer (some ⟨b, 0, none⟩)] #[]) ∧ w = w' := by
  have H := Lib.hid (first_yes b c r w hR)
  clear hR
  go_enter Tryz.func96, Tryz.ntmps96
  go_wp2_with (first | (go_at_call 108; refine H.out.mono ?_; rintro e w3 ⟨rfl, rfl⟩))
  go_ret
  exact ⟨rfl, rfl⟩
set_option maxHeartbeats 400000 in
theorem form_dig (b : Nat) (c : UInt8) (r : List UInt8) (w : World) (hR : Rd b (c :: r) w) (h45 : ((c.toNat : Int) == 45) = false) (hD : Oct.digitI c.toNat = true) : Calls Tryz.prog 96 #[.pointer (some ⟨b, 0, none⟩)] w fun e w' => e = .returned (.func (.func 110) #[.pointer (some ⟨b, 0, none⟩)] #[]) ∧ w = w' := by
  have H := Lib.hid (first_yes b c r w hR)
  clear hR
  have HD := Lib.hid (isDigit_any c.toNat w)
  rw [hD] at HD
  clear hD
  go_enter Tryz.func96, Tryz.ntmps96
  go_wp2_with (first | (go_at_call 108; refine H.out.mono ?_; rintro e w3 ⟨rfl, rfl⟩) | (go_at_call 109; refine HD.out.mono ?_; rintro e w3 ⟨rfl, rfl⟩))
  go_ret
  exact ⟨rfl, rfl⟩
set_option maxHeartbeats 400000 in
theorem form_quo (b : Nat) (c : UInt8) (r : List UInt8) (w : World) (hR : Rd b (c :: r) w) (h45 : ((c.toNat : Int) == 45) = false) (hD : Oct.digitI c.toNat = false) (h34 : ((c.toNat : Int) == 34) = true) : Calls Tryz.prog 96 #[.pointer (some ⟨b, 0, none⟩)] w fun e w' => e = .returned (.func (.func 111) #[.pointer (some ⟨b, 0, none⟩)] #[]) ∧ w = w' := by
  have H := Lib.hid (first_yes b c r w hR)
  clear hR
  have HD := Lib.hid (isDigit_any c.toNat w)
  rw [hD] at HD
  clear hD
  go_enter Tryz.func96, Tryz.ntmps96
  go_wp2_with (first | (go_at_call 108; refine H.out.mono ?_; rintro e w3 ⟨rfl, rfl⟩) | (go_at_call 109; refine HD.out.mono ?_; rintro e w3 ⟨rfl, rfl⟩))
  go_ret
  exact ⟨rfl, rfl⟩
set_option maxHeartbeats 400000 in
theorem form_let (b : Nat) (c : UInt8) (r : List UInt8) (w : World) (hR : Rd b (c :: r) w) (h45 : ((c.toNat : Int) == 45) = false) (hD : Oct.digitI c.toNat = false) (h34 : ((c.toNat : Int) == 34) = false) (hL : Oct.letterI c.toNat = true) : Calls Tryz.prog 96 #[.pointer (some ⟨b, 0, none⟩)] w fun e w' => e = .returned (.func (.func 113) #[.pointer (some ⟨b, 0, none⟩)] #[]) ∧ w = w' := by
  have H := Lib.hid (first_yes b c r w hR)
  clear hR
  have HD := Lib.hid (isDigit_any c.toNat w)
  rw [hD] at HD
  clear hD
  have HL := Lib.hid (isLetter_any c.toNat w)
  rw [hL] at HL
  clear hL
  go_enter Tryz.func96, Tryz.ntmps96
  go_wp2_with (first | (go_at_call 108; refine H.out.mono ?_; rintro e w3 ⟨rfl, rfl⟩) | (go_at_call 109; refine HD.out.mono ?_; rintro e w3 ⟨rfl, rfl⟩) | (go_at_call 112; refine HL.out.mono ?_; rintro e w3 ⟨rfl, rfl⟩))
  go_ret
  exact ⟨rfl, rfl⟩
set_option maxHeartbeats 400000 in
theorem form_star (b : Nat) (c : UInt8) (r : List UInt8) (w : World) (hR : Rd b (c :: r) w) (h45 : ((c.toNat : Int) == 45) = false) (hD : Oct.digitI c.toNat = false) (h34 : ((c.toNat : Int) == 34) = false) (hL : Oct.letterI c.toNat = false) (h42 : ((c.toNat : Int) == 42) = true) : Calls Tryz.prog 96 #[.pointer (some ⟨b, 0, none⟩)] w fun e w' => e = .returned (.func (.func 113) #[.pointer (some ⟨b, 0, none⟩)] #[]) ∧ w = w' := by
  have H := Lib.hid (first_yes b c r w hR)
  clear hR
  have HD := Lib.hid (isDigit_any c.toNat w)
  rw [hD] at HD
  clear hD
  have HL := Lib.hid (isLetter_any c.toNat w)
  rw [hL] at HL
  clear hL
  go_enter Tryz.func96, Tryz.ntmps96
  go_wp2_with (first | (go_at_call 108; refine H.out.mono ?_; rintro e w3 ⟨rfl, rfl⟩) | (go_at_call 109; refine HD.out.mono ?_; rintro e w3 ⟨rfl, rfl⟩) | (go_at_call 112; refine HL.out.mono ?_; rintro e w3 ⟨rfl, rfl⟩))
  go_ret
  exact ⟨rfl, rfl⟩
set_option maxHeartbeats 400000 in
theorem form_seq (b : Nat) (c : UInt8) (r : List UInt8) (w : World) (hR : Rd b (c :: r) w) (h45 : ((c.toNat : Int) == 45) = false) (hD : Oct.digitI c.toNat = false) (h34 : ((c.toNat : Int) == 34) = false) (hL : Oct.letterI c.toNat = false) (h42 : ((c.toNat : Int) == 42) = false) (h58 : ((c.toNat : Int) == 58) = true) : Calls Tryz.prog 96 #[.pointer (some ⟨b, 0, none⟩)] w fun e w' => e = .returned (.func (.func 114) #[.pointer (some ⟨b, 0, none⟩)] #[]) ∧ w = w' := by
  have H := Lib.hid (first_yes b c r w hR)
  clear hR
  have HD := Lib.hid (isDigit_any c.toNat w)
  rw [hD] at HD
  clear hD
  have HL := Lib.hid (isLetter_any c.toNat w)
  rw [hL] at HL
  clear hL
  go_enter Tryz.func96, Tryz.ntmps96
  go_wp2_with (first | (go_at_call 108; refine H.out.mono ?_; rintro e w3 ⟨rfl, rfl⟩) | (go_at_call 109; refine HD.out.mono ?_; rintro e w3 ⟨rfl, rfl⟩) | (go_at_call 112; refine HL.out.mono ?_; rintro e w3 ⟨rfl, rfl⟩))
  go_ret
  exact ⟨rfl, rfl⟩
set_option maxHeartbeats 400000 in
theorem form_tru (b : Nat) (c : UInt8) (r : List UInt8) (w : World) (hR : Rd b (c :: r) w) (h45 : ((c.toNat : Int) == 45) = false) (hD : Oct.digitI c.toNat = false) (h34 : ((c.toNat : Int) == 34) = false) (hL : Oct.letterI c.toNat = false) (h42 : ((c.toNat : Int) == 42) = false) (h58 : ((c.toNat : Int) == 58) = false) (h63 : ((c.toNat : Int) == 63) = true) : Calls Tryz.prog 96 #[.pointer (some ⟨b, 0, none⟩)] w fun e w' => e = .returned (.func (.func 115) #[.pointer (some ⟨b, 0, none⟩)] #[]) ∧ w = w' := by
  have H := Lib.hid (first_yes b c r w hR)
  clear hR
  have HD := Lib.hid (isDigit_any c.toNat w)
  rw [hD] at HD
  clear hD
  have HL := Lib.hid (isLetter_any c.toNat w)
  rw [hL] at HL
  clear hL
  go_enter Tryz.func96, Tryz.ntmps96
  go_wp2_with (first | (go_at_call 108; refine H.out.mono ?_; rintro e w3 ⟨rfl, rfl⟩) | (go_at_call 109; refine HD.out.mono ?_; rintro e w3 ⟨rfl, rfl⟩) | (go_at_call 112; refine HL.out.mono ?_; rintro e w3 ⟨rfl, rfl⟩))
  go_ret
  exact ⟨rfl, rfl⟩
set_option maxHeartbeats 400000 in
theorem form_no (b : Nat) (c : UInt8) (r : List UInt8) (w : World) (hR : Rd b (c :: r) w) (h45 : ((c.toNat : Int) == 45) = false) (hD : Oct.digitI c.toNat = false) (h34 : ((c.toNat : Int) == 34) = false) (hL : Oct.letterI c.toNat = false) (h42 : ((c.toNat : Int) == 42) = false) (h58 : ((c.toNat : Int) == 58) = false) (h63 : ((c.toNat : Int) == 63) = false) : Calls Tryz.prog 96 #[.pointer (some ⟨b, 0, none⟩)] w fun e w' => e = .panicked [fault] ∧ w = w' := by
  have H := Lib.hid (first_yes b c r w hR)
  clear hR
  have HD := Lib.hid (isDigit_any c.toNat w)
  rw [hD] at HD
  clear hD
  have HL := Lib.hid (isLetter_any c.toNat w)
  rw [hL] at HL
  clear hL
  go_enter Tryz.func96, Tryz.ntmps96
  go_wp2_with (first | (go_at_call 108; refine H.out.mono ?_; rintro e w3 ⟨rfl, rfl⟩) | (go_at_call 109; refine HD.out.mono ?_; rintro e w3 ⟨rfl, rfl⟩) | (go_at_call 112; refine HL.out.mono ?_; rintro e w3 ⟨rfl, rfl⟩))
  exact ⟨rfl, rfl, rfl⟩
end Go.Proofs.YtgddmihojladfaaGreatDoor
