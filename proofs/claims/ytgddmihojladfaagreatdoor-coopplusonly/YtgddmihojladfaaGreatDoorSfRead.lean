/- The contracts of a reader's first, skip and take, and of isTokenByte. -/
import Derived.Test.YtgddmihojladfaaGreatDoorSfLeaf
import Derived.Test.YtgddmihojladfaaGreatDoorShelf
namespace Go.Proofs.YtgddmihojladfaaGreatDoor
open Go.RowKit

theorem bA_nil_iff (s : List UInt8) : (bA s).toList.isEmpty = s.isEmpty := by
  have : (bA s).toList = s := by simp [bA]
  rw [this]
theorem bA_head (c : UInt8) (s : List UInt8) : (bA (c :: s))[0]'(Nat.succ_pos _) = c := rfl
theorem Rd.cell {b : Nat} {s : List UInt8} {w : World} (h : Rd b s w) : w.cell? ⟨b, 0, none⟩ = some (.string (bA s)) := Boxed.cell h
theorem Rd.frozen {b : Nat} {s : List UInt8} {w : World} (h : Rd b s w) : w.frozen? ⟨b, 0, none⟩ = false := Boxed.frozen h
theorem Rd.set {b : Nat} {s : List UInt8} {w : World} (h : Rd b s w) (t : List UInt8) : Rd b t (w.setCell ⟨b, 0, none⟩ (.string (bA t))) ∧ w.grownBy (w.setCell ⟨b, 0, none⟩ (.string (bA t))) (some b) := ⟨Boxed.set _ h, grownBy_setCell' _ _ _⟩

set_option maxHeartbeats 400000 in
theorem first_yes (b : Nat) (c : UInt8) (s : List UInt8) (w : World) (hR : Rd b (c :: s) w) : Calls Tryz.prog 108 #[.pointer (some ⟨b, 0, none⟩)] w fun e w' => e = .returned (.int .u8 c.toNat) ∧ w = w' := by
  have hc := hR.cell
  have H1 := Lib.hid (need_yes w)
  clear hR
  go_enter Tryz.func108, Tryz.ntmps108
  go_wp2_with (go_at_call 123; refine H1.out.mono ?_; rintro e w' ⟨rfl, rfl⟩)
  go_ret
  exact ⟨rfl, rfl⟩
theorem first_no (b : Nat) (w : World) (hR : Rd b [] w) : Calls Tryz.prog 108 #[.pointer (some ⟨b, 0, none⟩)] w fun e w' => e = .panicked [fault] ∧ w = w' := by
  have hc := hR.cell
  have H1 := Lib.hid (need_no w)
  clear hR
  go_enter Tryz.func108, Tryz.ntmps108
  go_wp2_with (go_at_call 123; refine H1.out.mono ?_; rintro e w' ⟨rfl, rfl⟩)
  exact ⟨rfl, rfl, rfl⟩

set_option maxHeartbeats 400000 in
theorem skip_yes (b : Nat) (ci : Int) (c : UInt8) (hci : ci = (c.toNat : Int)) (s : List UInt8) (w : World) (hR : Rd b (c :: s) w) : Calls Tryz.prog 97 #[.pointer (some ⟨b, 0, none⟩), .int .u8 ci] w fun e w' => e = .returned (.bool true) ∧ Rd b s w' ∧ w.grownBy w' (some b) := by
  subst hci
  have hc := hR.cell
  have hf := hR.frozen
  have HR := Lib.hid (hR.set s)
  have hx : (bA (c :: s)).extract 1 (bA (c :: s)).size = bA s := by rw [Byt.drop_ext]; rfl
  have HX := Lib.hid hx
  have h0 : ((((bA (c :: s))[0]'(Nat.succ_pos _)).toNat : Int) != (c.toNat : Int)) = false := by rw [bA_head]; simp
  clear hR hx
  go_enter Tryz.func97, Tryz.ntmps97
  go_wp2
  go_ret
  refine ⟨rfl, ?_⟩
  have := HX.out
  rw [show (bA (c :: s)).size = s.length + 1 from rfl] at this
  rw [this]
  exact HR.out
theorem skip_off (b : Nat) (ci : Int) (d : UInt8) (hd : ¬ (d.toNat : Int) = ci) (s : List UInt8) (w : World) (hR : Rd b (d :: s) w) : Calls Tryz.prog 97 #[.pointer (some ⟨b, 0, none⟩), .int .u8 ci] w fun e w' => e = .returned (.bool false) ∧ w = w' := by
  have hc := hR.cell
  have h0 : ((((bA (d :: s))[0]'(Nat.succ_pos _)).toNat : Int) != ci) = true := by rw [bA_head]; simpa using hd
  clear hR
  go_enter Tryz.func97, Tryz.ntmps97
  go_wp2
  go_ret
  exact ⟨rfl, rfl⟩
theorem skip_nil (b : Nat) (ci : Int) (w : World) (hR : Rd b [] w) : Calls Tryz.prog 97 #[.pointer (some ⟨b, 0, none⟩), .int .u8 ci] w fun e w' => e = .returned (.bool false) ∧ w = w' := by
  have hc := hR.cell
  clear hR
  go_enter Tryz.func97, Tryz.ntmps97
  go_wp2
  go_ret
  exact ⟨rfl, rfl⟩
end Go.Proofs.YtgddmihojladfaaGreatDoor
