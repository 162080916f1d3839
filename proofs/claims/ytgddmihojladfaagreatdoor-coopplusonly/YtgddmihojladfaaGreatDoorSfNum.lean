/- The contract of a reader's number. -/
import Derived.Test.YtgddmihojladfaaGreatDoorSfTru
import Derived.Test.YtgddmihojladfaaGreatDoorItoa
import Derived.Lib.SmallJoins
import Derived.Lib.Repeat
namespace Go.Proofs.YtgddmihojladfaaGreatDoor
open Go.RowKit Go.Shelf

theorem decFrom_val (l : List UInt8) (h : Oct.allB Oct.digitI l = true) : ∀ acc : Nat, ∃ m : Nat, Lib.decFrom acc l = some m ∧ (m : Int) = l.foldl (fun n b => 10 * n + ((b.toNat : Int) - 48)) (acc : Int) := by
  induction l with
  | nil => intro acc; exact ⟨acc, rfl, rfl⟩
  | cons c r ih =>
    intro acc
    simp only [Oct.allB, List.all_cons, Bool.and_eq_true] at h
    have hc := h.1
    simp only [Oct.digitI, Bool.and_eq_true, decide_eq_true_eq] at hc
    have e : Lib.digitVal c = some (c.toNat - 48) := by unfold Lib.digitVal; rw [if_pos (by omega)]
    obtain ⟨m, h1, h2⟩ := ih h.2 (acc * 10 + (c.toNat - 48))
    refine ⟨m, by rw [Lib.decFrom, e]; exact h1, ?_⟩
    rw [h2, List.foldl_cons]
    congr 1
    omega
theorem atoi_val {l : List UInt8} (h : Oct.allB Oct.digitI l = true) (h0 : 0 < l.length) : Lib.atoi l = some (Oct.val l) := by
  obtain ⟨m, h1, h2⟩ := decFrom_val l h 0
  cases l with
  | nil => simp at h0
  | cons c r =>
    have hc : Oct.digitI c.toNat = true := by simp [Oct.allB] at h; exact h.1
    simp only [Oct.digitI, Bool.and_eq_true, decide_eq_true_eq] at hc
    have n45 : (c == 45) = false := by rw [beq_eq_false_iff_ne]; intro e; subst e; simp at hc
    have n43 : (c == 43) = false := by rw [beq_eq_false_iff_ne]; intro e; subst e; simp at hc
    have hd : Lib.decNat (c :: r) = some m := by unfold Lib.decNat; exact h1
    rw [Lib.atoi, n45, n43, hd]
    simp only [Bool.false_eq_true, if_false, Option.map_some, Option.some.injEq]
    exact h2
theorem atoi_any {l : List UInt8} (h : Oct.allB Oct.digitI l = true) (h0 : 0 < l.length) (h1 : l.length ≤ 18) (w : World) : Calls Tryz.prog 125 #[.string (bA l)] w fun e w' => e = .returned (.tuple #[.int .i64 (Oct.val l), .nilIface]) ∧ Below w.heap.size w w' := by
  refine (Tryz.strconv_Atoi (bA l) (Oct.val l) h1 (atoi_val h h0) w).mono ?_
  rintro e w' ⟨rfl, t, rfl⟩
  exact ⟨rfl, Joins.below_bytesWorld _ w _ t (Nat.le_refl _)⟩
theorem repeatL_zeros (k : Nat) : Lib.repeatL [48] k = List.replicate k 48 := by
  induction k with
  | zero => rfl
  | succ k ih => rw [Lib.repeatL, ih]; rfl
theorem repeat_any (k : Nat) (hk : k ≤ 4) (ki : Int) (hki : ki = k) (w : World) : Calls Tryz.prog 124 #[.string ⟨#[48]⟩, .int .i64 ki] w fun e w' => e = .returned (.string (bA (List.replicate k 48))) ∧ Below w.heap.size w w' := by
  subst hki
  refine (Tryz.strings_Repeat ⟨#[48]⟩ k w (by omega) (by show 1 * k ≤ _; omega)).mono ?_
  rintro e w' ⟨rfl, hb⟩
  exact ⟨by rw [show (⟨#[48]⟩ : ByteArray).data.toList = [48] from rfl, repeatL_zeros], hb⟩
theorem val_zeros (l : List UInt8) (k : Nat) : Oct.val (l ++ List.replicate k 48) = Oct.val l * 10 ^ k := by
  rw [Sf.val_app, List.length_replicate]
  have : Oct.val (List.replicate k 48) = 0 := by
    induction k with
    | zero => rfl
    | succ k ih => rw [List.replicate_succ', Oct.val_snoc, ih]; rfl
  rw [this]; omega

theorem need_yes' {x : Bool} (h : x = true) (w : World) : Calls Tryz.prog 123 #[.bool x] w fun e w' => e = .returned (.tuple #[]) ∧ w = w' := by subst h; exact need_yes w
theorem need_no' {x : Bool} (h : x = false) (w : World) : Calls Tryz.prog 123 #[.bool x] w fun e w' => e = .panicked [fault] ∧ w = w' := by subst h; exact need_no w
/-- A byte is taken off, if it stands there. -/
def Skip (b : Nat) (c : UInt8) (s : List UInt8) (w : World) (e : Ending) (w' : World) : Prop := ∃ g s', e = .returned (.bool g) ∧ Rd b s' w' ∧ w.grownBy w' (some b) ∧ Hid ((g = true ∧ s = c :: s') ∨ (g = false ∧ s' = s ∧ s.head? ≠ some c))
theorem skip_all (b : Nat) (ci : Int) (c : UInt8) (hci : ci = (c.toNat : Int)) (s : List UInt8) (w : World) (hR : Rd b s w) : Calls Tryz.prog 97 #[.pointer (some ⟨b, 0, none⟩), .int .u8 ci] w (Skip b c s w) := by
  cases s with
  | nil => exact (skip_nil b ci w hR).mono (by rintro e w' ⟨rfl, rfl⟩; exact ⟨false, [], rfl, hR, g_refl _ _, .inr ⟨rfl, rfl, by simp⟩⟩)
  | cons d t =>
    by_cases h : d = c
    · subst h
      exact (skip_yes b ci d hci t w hR).mono (by rintro e w' ⟨rfl, h1, h2⟩; exact ⟨true, t, rfl, h1, h2, .inl ⟨rfl, rfl⟩⟩)
    · exact (skip_off b ci d (by rw [hci]; exact byte_ne h) t w hR).mono (by rintro e w' ⟨rfl, rfl⟩; exact ⟨false, d :: t, rfl, hR, g_refl _ _, .inr ⟨rfl, rfl, by simpa using h⟩⟩)
end Go.Proofs.YtgddmihojladfaaGreatDoor
