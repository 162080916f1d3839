/- The contract of a reader's take, and of isTokenByte. -/
import Derived.Test.YtgddmihojladfaaGreatDoorSfRead
import Derived.Shelf.Abstract
namespace Go.Proofs.YtgddmihojladfaaGreatDoor
open Go.RowKit Go.Shelf

theorem tw_hit' (p : Int → Bool) (s : ByteArray) (k : Nat) (h : k < s.size) (hi : Oct.allB p (s.data.toList.take k) = true) (hc : p s[k].toNat = false) : Sf.tw p s.data.toList = s.data.toList.take k ∧ Sf.dw p s.data.toList = s.data.toList.drop k := Byt.while_hit p s k h hi hc
theorem tw_end' (p : Int → Bool) (s : ByteArray) (k : Nat) (h : s.size ≤ k) (hi : Oct.allB p (s.data.toList.take k) = true) : Sf.tw p s.data.toList = s.data.toList ∧ Sf.dw p s.data.toList = [] := Byt.while_all p s k h hi

/-- The function F tells whether a byte is such a one. -/
structure Tells (F : FuncId) (p : Int → Bool) : Prop where
  enters : ∀ args w, (callFunc F args).run Tryz.prog w = .ok (.enter F args) w
  tells : ∀ (c : UInt8) (W : World), Calls Tryz.prog F #[.int .u8 (c.toNat : Int)] W fun e w' => e = .returned (.bool (p c.toNat)) ∧ W = w'

set_option maxHeartbeats 1000000 in
theorem take_arr (F : FuncId) (p : Int → Bool) (hF : Tells F p) (b : Nat) (s : ByteArray) (w : World) (hR : Boxed w b 91 (.string s)) (hs : s.size ≤ 140737488355328) :
    Calls Tryz.prog 98 #[.pointer (some ⟨b, 0, none⟩), .func (.func F) #[] #[]] w fun e w' => ∃ n : Nat, n ≤ s.size ∧ Hid (Sf.tw p s.data.toList = s.data.toList.take n ∧ Sf.dw p s.data.toList = s.data.toList.drop n) ∧ e = .returned (.string (s.extract 0 n)) ∧ w' = w.setCell ⟨b, 0, none⟩ (.string (s.extract n s.size)) := by
  have hc := hR.cell
  have hf := hR.frozen
  have hen := hF.enters
  have HF := Lib.hid hF
  clear hR hF
  go_enter Tryz.func98, Tryz.ntmps98
  go_wp2_with fail
  go_loop [5] (fun i => ∃ k : Nat, k ≤ s.size ∧ i = .int .i64 k ∧ Hid (Oct.allB p (s.data.toList.take k) = true)) (fun i => s.size - (intOf i).toNat)
  case atStart => exact ⟨0, Nat.zero_le _, rfl, rfl⟩
  case round =>
    obtain ⟨k, hk, rfl, hin⟩ := hrel
    by_cases hlt : k < s.size
    · cases hl : p s[k].toNat with
      | true =>
        have HL : Hid (∀ W : World, Calls Tryz.prog F #[.int .u8 (s[k].toNat : Int)] W fun e w' => e = .returned (.bool true) ∧ W = w') := Lib.hid (fun W => by rw [← hl]; exact HF.out.tells _ W)
        have HN := Lib.hid hl
        clear hl
        go_wp2_with fail
        refine (HL.out _).mono ?_
        rintro e w' ⟨rfl, rfl⟩
        go_wp2_with fail
        go_round
        case rel => exact ⟨k + 1, by omega, by go_num, Oct.allB_next _ s k hlt hin.out HN.out⟩
        case measure => simp [intOf]; omega
      | false =>
        have HL : Hid (∀ W : World, Calls Tryz.prog F #[.int .u8 (s[k].toNat : Int)] W fun e w' => e = .returned (.bool false) ∧ W = w') := Lib.hid (fun W => by rw [← hl]; exact HF.out.tells _ W)
        have HN := Lib.hid hl
        clear hl
        go_wp2_with fail
        refine (HL.out _).mono ?_
        rintro e w' ⟨rfl, rfl⟩
        go_wp2_with fail
        go_ret
        exact ⟨k, hk, tw_hit' _ s k hlt hin.out HN.out, rfl, rfl⟩
    · go_wp2_with fail
      go_ret
      refine ⟨k, hk, ?_, rfl, rfl⟩
      have e := tw_end' _ s k (by omega) hin.out
      have e2 : s.data.toList.take k = s.data.toList := List.take_of_length_le (by simp; omega)
      have e3 : s.data.toList.drop k = [] := List.drop_of_length_le (by simp; omega)
      rw [Hid, e2, e3]; exact e
/-- What 'take' takes off. -/
theorem take_any (F : FuncId) (p : Int → Bool) (hF : Tells F p) (b : Nat) (s : List UInt8) (w : World) (hR : Rd b s w) (hs : s.length ≤ 140737488355328) :
    Calls Tryz.prog 98 #[.pointer (some ⟨b, 0, none⟩), .func (.func F) #[] #[]] w fun e w' => e = .returned (.string (bA (Sf.tw p s))) ∧ Rd b (Sf.dw p s) w' ∧ w.grownBy w' (some b) := by
  refine (take_arr F p hF b (bA s) w hR hs).mono ?_
  rintro e w' ⟨n, hn, ht, rfl, rfl⟩
  obtain ⟨h1, h2⟩ := ht.out
  rw [Byt.drop_ext, Byt.take_ext, ← h1, ← h2]
  exact ⟨rfl, hR.set _⟩

theorem tellsSpace : Tells 99 (fun c => c == 32) := ⟨enters_of Tryz.func99 (by kernel_rfl) rfl, fun c W => isSpace_any c.toNat W⟩
theorem tellsDigit : Tells 109 Oct.digitI := ⟨enters_of Tryz.func109 (by kernel_rfl) rfl, fun c W => isDigit_any c.toNat W⟩
theorem tellsKey : Tells 130 Sf.keyI := ⟨enters_of Tryz.func130 (by kernel_rfl) rfl, fun c W => isKeyByte_any c.toNat W⟩
theorem tellsBase : Tells 129 Sf.baseI := ⟨enters_of Tryz.func129 (by kernel_rfl) rfl, fun c W => isSequenceByte_any c.toNat W⟩

def marksT : List UInt8 := [58, 47, 33, 35, 36, 37, 38, 39, 42, 43, 45, 46, 94, 95, 124, 126, 96]
theorem tok_tab : ∀ n : Fin 256, Sf.tokI n.val = (Oct.letterI n.val || (Oct.digitI n.val || decide (0 ≤ Lib.indexByte marksT (UInt8.ofNat n.val)))) := by decide +kernel
theorem tok_is (c : UInt8) : Sf.tokI c.toNat = (Oct.letterI c.toNat || (Oct.digitI c.toNat || decide (0 ≤ Lib.indexByte marksT c))) := by
  have := tok_tab ⟨c.toNat, c.toNat_lt⟩
  simpa using this
set_option maxHeartbeats 400000 in
theorem isTokenByte_any (c : UInt8) (w : World) : Calls Tryz.prog 128 #[.int .u8 (c.toNat : Int)] w fun e w' => e = .returned (.bool (Sf.tokI c.toNat)) ∧ w = w' := by
  have H : Hid (∀ W : World, Calls Tryz.prog 112 #[.int .u8 (c.toNat : Int)] W fun e w' => e = .returned (.bool (Oct.letterI c.toNat)) ∧ W = w') := Lib.hid (fun W => isLetter_any _ W)
  have G : Hid (∀ W : World, Calls Tryz.prog 109 #[.int .u8 (c.toNat : Int)] W fun e w' => e = .returned (.bool (Oct.digitI c.toNat)) ∧ W = w') := Lib.hid (fun W => isDigit_any _ W)
  have I : Hid (∀ W : World, Calls Tryz.prog 118 #[.string ⟨#[58, 47, 33, 35, 36, 37, 38, 39, 42, 43, 45, 46, 94, 95, 124, 126, 96]⟩, .int .u8 (c.toNat : Int)] W fun e w' => e = .returned (.int .i64 (Lib.indexByte marksT c)) ∧ W = w') := Lib.hid (fun W => by
    refine (Tryz.strings_IndexByte ⟨#[58, 47, 33, 35, 36, 37, 38, 39, 42, 43, 45, 46, 94, 95, 124, 126, 96]⟩ c.toNat W).mono ?_
    rintro e w' ⟨rfl, rfl⟩
    refine ⟨Oct.ret_int ?_, rfl⟩
    have : ((c.toNat : Int).toNat.toUInt8) = c := by simp
    rw [this]; rfl)
  have hx := tok_is c
  obtain ⟨a, ha⟩ : ∃ a, Oct.letterI c.toNat = a := ⟨_, rfl⟩
  obtain ⟨d, hd⟩ : ∃ d, Oct.digitI c.toNat = d := ⟨_, rfl⟩
  obtain ⟨i, hi⟩ : ∃ i, Lib.indexByte marksT c = i := ⟨_, rfl⟩
  rw [ha, hd, hi] at hx
  rw [hx]
  rw [ha] at H
  rw [hd] at G
  rw [hi] at I
  clear ha hi hd hx
  go_enter Tryz.func128, Tryz.ntmps128
  go_wp2_with (first
    | (go_at_call 112; refine (H.out _).mono ?_; rintro e w' ⟨rfl, rfl⟩)
    | (go_at_call 109; refine (G.out _).mono ?_; rintro e w' ⟨rfl, rfl⟩)
    | (go_at_call 118; refine (I.out _).mono ?_; rintro e w' ⟨rfl, rfl⟩))
  all_goals (go_ret; refine ⟨Oct.ret_bool ?_, rfl⟩; rw [Bool.eq_iff_iff]; simp_all)
theorem tellsTok : Tells 128 Sf.tokI := ⟨enters_of Tryz.func128 (by kernel_rfl) rfl, isTokenByte_any⟩
end Go.Proofs.YtgddmihojladfaaGreatDoor
