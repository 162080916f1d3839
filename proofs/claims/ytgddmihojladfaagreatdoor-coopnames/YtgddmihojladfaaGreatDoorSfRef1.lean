/- The contracts of the document's functions of one byte and of one text: tokens, base, small, digits, told, Blank, Trim, Key. -/
import Derived.Test.YtgddmihojladfaaGreatDoorOctAll
import Derived.Test.YtgddmihojladfaaGreatDoorBytes
import Derived.Test.YtgddmihojladfaaGreatDoorSfMath4
namespace Go.Proofs.YtgddmihojladfaaGreatDoor
open Go.RowKit

set_option maxHeartbeats 400000 in
theorem rtokens_any (c : Int) (w : World) : Calls Tryz.prog 90 #[.int .u8 c] w fun e w' => e = .returned (.bool (Sf.tokI c)) ∧ w = w' := by
  have H : Hid (∀ W : World, Calls Tryz.prog 106 #[.int .u8 c] W fun e w' => e = .returned (.bool (Oct.tcharI c)) ∧ W = w') := Lib.hid (fun W => rtchar_any c W)
  obtain ⟨a, ha⟩ : ∃ a, Oct.tcharI c = a := ⟨_, rfl⟩
  unfold Sf.tokI
  rw [ha] at H ⊢
  clear ha
  go_enter Tryz.func90, Tryz.ntmps90
  go_wp2_with (go_at_call 106; refine (H.out _).mono ?_; rintro e w' ⟨rfl, rfl⟩)
  all_goals (go_ret; refine ⟨Oct.ret_bool ?_, rfl⟩; simp_all)
set_option maxHeartbeats 400000 in
theorem rbase_any (c : Int) (w : World) : Calls Tryz.prog 91 #[.int .u8 c] w fun e w' => e = .returned (.bool (Sf.baseI c)) ∧ w = w' := by
  have H : Hid (∀ W : World, Calls Tryz.prog 86 #[.int .u8 c] W fun e w' => e = .returned (.bool (Oct.letterI c)) ∧ W = w') := Lib.hid (fun W => rletter_any c W)
  have G : Hid (∀ W : World, Calls Tryz.prog 87 #[.int .u8 c] W fun e w' => e = .returned (.bool (Oct.digitI c)) ∧ W = w') := Lib.hid (fun W => rdigit_any c W)
  obtain ⟨a, ha⟩ : ∃ a, Oct.letterI c = a := ⟨_, rfl⟩
  obtain ⟨b, hb⟩ : ∃ b, Oct.digitI c = b := ⟨_, rfl⟩
  unfold Sf.baseI
  rw [ha] at H ⊢
  rw [hb] at G ⊢
  clear ha hb
  go_enter Tryz.func91, Tryz.ntmps91
  go_wp2_with (first
    | (go_at_call 86; refine (H.out _).mono ?_; rintro e w' ⟨rfl, rfl⟩)
    | (go_at_call 87; refine (G.out _).mono ?_; rintro e w' ⟨rfl, rfl⟩))
  all_goals (go_ret; refine ⟨Oct.ret_bool ?_, rfl⟩; rw [Bool.eq_iff_iff]; simp_all; try omega)
def smallI (c : Int) (first : Bool) : Bool := Sf.key1I c || (!first && (Oct.digitI c || (c == 95 || (c == 45 || c == 46))))
set_option maxHeartbeats 400000 in
theorem rsmall_any (c : Int) (f : Bool) (w : World) : Calls Tryz.prog 107 #[.int .u8 c, .bool f] w fun e w' => e = .returned (.bool (smallI c f)) ∧ w = w' := by
  go_enter Tryz.func107, Tryz.ntmps107
  go_wp2
  all_goals (go_ret; refine ⟨Oct.ret_bool ?_, rfl⟩; cases f <;> (rw [Bool.eq_iff_iff]; simp_all [smallI, Sf.key1I, Oct.digitI]; try omega))

theorem tw_hit (p : Int → Bool) (s : ByteArray) (k : Nat) (h : k < s.size) (hi : Oct.allB p (s.data.toList.take k) = true) (hc : p s[k].toNat = false) : Sf.tw p s.data.toList = s.data.toList.take k ∧ Sf.dw p s.data.toList = s.data.toList.drop k := Byt.while_hit p s k h hi hc
theorem tw_end (p : Int → Bool) (s : ByteArray) (k : Nat) (h : s.size ≤ k) (hi : Oct.allB p (s.data.toList.take k) = true) : Sf.tw p s.data.toList = s.data.toList ∧ Sf.dw p s.data.toList = [] := Byt.while_all p s k h hi
theorem len_take (s : ByteArray) (k : Nat) (h : k ≤ s.size) : (s.data.toList.take k).length = k := by
  rw [List.length_take]; have e : s.data.toList.length = s.size := by simp
  omega

set_option maxHeartbeats 1000000 in
theorem rdigits_of (s : ByteArray) (w : World) (hs : s.size ≤ maxLen) : Calls Tryz.prog 104 #[.string s] w fun e w' => e = .returned (.int .i64 (Sf.tw Oct.digitI s.data.toList).length) ∧ w = w' := by
  unfold maxLen at hs
  go_enter Tryz.func104, Tryz.ntmps104
  go_wp2
  go_loop [3] (fun i => ∃ k : Nat, k ≤ s.size ∧ i = .int .i64 k ∧ Hid (Oct.allB Oct.digitI (s.data.toList.take k) = true)) (fun i => s.size - (intOf i).toNat)
  case atStart => exact ⟨0, Nat.zero_le _, rfl, rfl⟩
  case round =>
    obtain ⟨k, hk, rfl, hin⟩ := hrel
    by_cases hlt : k < s.size
    · cases hl : Oct.digitI s[k].toNat with
      | true =>
        have HL : Hid (∀ W : World, Calls Tryz.prog 87 #[.int .u8 (s[k].toNat : Int)] W fun e w' => e = .returned (.bool true) ∧ W = w') := Lib.hid (fun W => by rw [← hl]; exact rdigit_any _ W)
        have HN := Lib.hid hl
        clear hl
        go_wp2_with (go_at_call 87; refine (HL.out _).mono ?_; rintro e w' ⟨rfl, rfl⟩)
        go_round
        case rel => exact ⟨k + 1, by omega, by go_num, Oct.allB_next _ s k hlt hin.out HN.out⟩
        case measure => simp [intOf]; omega
      | false =>
        have HL : Hid (∀ W : World, Calls Tryz.prog 87 #[.int .u8 (s[k].toNat : Int)] W fun e w' => e = .returned (.bool false) ∧ W = w') := Lib.hid (fun W => by rw [← hl]; exact rdigit_any _ W)
        have HN := Lib.hid hl
        clear hl
        go_wp2_with (go_at_call 87; refine (HL.out _).mono ?_; rintro e w' ⟨rfl, rfl⟩)
        go_ret
        refine ⟨Oct.ret_int ?_, rfl⟩
        rw [(tw_hit _ s k hlt hin.out HN.out).1, len_take s k (by omega)]
    · go_wp2_with fail
      go_ret
      refine ⟨Oct.ret_int ?_, rfl⟩
      rw [(tw_end _ s k (by omega) hin.out).1]
      simp; omega

theorem byte_off {c d : UInt8} (h : c ≠ d) : ((c.toNat : Int) == (d.toNat : Int)) = false := by
  rw [beq_eq_false_iff_ne]
  intro he
  exact h (UInt8.toNat_inj.1 (by exact_mod_cast he))
theorem head_bA (c : UInt8) (s : List UInt8) : (bA (c :: s))[0]'(Nat.succ_pos _) = c := rfl
theorem tail_bA (c : UInt8) (s : List UInt8) : (bA (c :: s)).extract 1 (s.length + 1) = bA s := by have := Byt.drop_ext (bA (c :: s)) 1; exact this
set_option maxHeartbeats 1000000 in
theorem sblank_any (s : List UInt8) (w : World) : Calls Tryz.prog 74 #[.string (bA s)] w fun e w' => e = .returned (.string (bA (Sf.blk s))) ∧ w = w' := by
  obtain ⟨B, hB⟩ : ∃ B, Sf.blk s = B := ⟨_, rfl⟩
  rw [hB]
  have HB := Lib.hid hB
  clear hB
  go_enter Tryz.func74, Tryz.ntmps74
  go_wp2_with fail
  go_loop [0] (fun v => ∃ r : List UInt8, v = .string (bA r) ∧ Hid (Sf.blk r = B)) (fun v => (Byt.sOf v).size)
  case atStart => exact ⟨s, rfl, HB⟩
  case round =>
    obtain ⟨r, rfl, hr⟩ := hrel
    clear HB
    cases r with
    | nil =>
      have : B = [] := hr.out.symm
      subst this
      go_wp2_with fail
      go_ret
      exact ⟨rfl, rfl⟩
    | cons c r =>
      have HX := Lib.hid (tail_bA c r)
      by_cases hc : c = 32
      · subst hc
        have h0 : ((((bA (32 :: r))[0]'(Nat.succ_pos _)).toNat : Int) == 32) = true := rfl
        have h2 : Sf.blk r = B := by rw [← hr.out]; rfl
        have H2 := Lib.hid h2
        clear hr h2
        go_wp2_with fail
        go_round
        case rel => exact ⟨r, by rw [HX.out], H2⟩
        case measure =>
          show ((bA (32 :: r)).extract 1 (r.length + 1)).size < (bA (32 :: r)).size
          rw [HX.out]; exact Nat.lt_succ_self _
      · have h0 : ((((bA (c :: r))[0]'(Nat.succ_pos _)).toNat : Int) == 32) = false := by rw [head_bA]; exact byte_off hc
        have : B = c :: r := by rw [← hr.out]; unfold Sf.blk; rw [List.dropWhile_cons_of_neg (by simpa using hc)]
        subst this
        clear hr
        go_wp2_with fail
        go_ret
        exact ⟨rfl, rfl⟩
end Go.Proofs.YtgddmihojladfaaGreatDoor
