/- Texts of one layer, joined. -/
import Derived.Test.YtogjekjklknfeaaGreatDoorPkOct
import Derived.Test.YtogjekjklknfeaaGreatDoorSfMath
import Derived.RangeFuncBox
import Derived.WalkLawsBesides
import Derived.Test.YtogjekjklknfeaaGreatDoorShelf
import Derived.Shelf.Abstract
import Derived.Test.YtogjekjklknfeaaGreatDoorPkSfm

/- The contracts of sfitem's functions of one byte, and of need, first, skip: what a reader takes off. -/

namespace Go.Proofs.YtogjekjklknfeaaGreatDoor
open Go.RowKit

set_option maxHeartbeats 400000 in
theorem isSpace_any (c : Int) (w : World) : Calls Tryz.prog 110 #[.int .u8 c] w fun e w' => e = .returned (.bool (c == 32)) ∧ w = w' := by
  go_enter Tryz.func110, Tryz.ntmps110
  go_wp2
  go_ret
  exact ⟨rfl, rfl⟩
set_option maxHeartbeats 400000 in
theorem isDigit_any (c : Int) (w : World) : Calls Tryz.prog 127 #[.int .u8 c] w fun e w' => e = .returned (.bool (Oct.digitI c)) ∧ w = w' := by
  go_enter Tryz.func127, Tryz.ntmps127
  go_wp2
  all_goals (go_ret; refine ⟨Oct.ret_bool ?_, rfl⟩; rw [Bool.eq_iff_iff]; simp [Oct.digitI]; try omega)
def lowI (c : Int) : Bool := decide (97 ≤ c) && decide (c ≤ 122)
set_option maxHeartbeats 400000 in
theorem isLower_any (c : Int) (w : World) : Calls Tryz.prog 104 #[.int .u8 c] w fun e w' => e = .returned (.bool (lowI c)) ∧ w = w' := by
  go_enter Tryz.func104, Tryz.ntmps104
  go_wp2
  all_goals (go_ret; refine ⟨Oct.ret_bool ?_, rfl⟩; rw [Bool.eq_iff_iff]; simp [lowI]; try omega)
set_option maxHeartbeats 400000 in
theorem isPrintable_any (c : Int) (w : World) : Calls Tryz.prog 149 #[.int .u8 c] w fun e w' => e = .returned (.bool (Sf.prI c)) ∧ w = w' := by
  go_enter Tryz.func149, Tryz.ntmps149
  go_wp2
  all_goals (go_ret; refine ⟨Oct.ret_bool ?_, rfl⟩; rw [Bool.eq_iff_iff]; simp [Sf.prI]; try omega)
set_option maxHeartbeats 400000 in
theorem isLetter_any (c : Int) (w : World) : Calls Tryz.prog 130 #[.int .u8 c] w fun e w' => e = .returned (.bool (Oct.letterI c)) ∧ w = w' := by
  have H : Hid (∀ W : World, Calls Tryz.prog 104 #[.int .u8 c] W fun e w' => e = .returned (.bool (lowI c)) ∧ W = w') := Lib.hid (fun W => isLower_any c W)
  obtain ⟨a, ha⟩ : ∃ a, lowI c = a := ⟨_, rfl⟩
  have hl : Oct.letterI c = (a || (decide (65 ≤ c) && decide (c ≤ 90))) := by rw [← ha]; rfl
  rw [ha] at H
  rw [hl]
  clear ha hl
  go_enter Tryz.func130, Tryz.ntmps130
  go_wp2_with (go_at_call 104; refine (H.out _).mono ?_; rintro e w' ⟨rfl, rfl⟩)
  all_goals (go_ret; refine ⟨Oct.ret_bool ?_, rfl⟩; rw [Bool.eq_iff_iff]; simp_all; try omega)
set_option maxHeartbeats 400000 in
theorem isKeyByte_any (c : Int) (w : World) : Calls Tryz.prog 107 #[.int .u8 c] w fun e w' => e = .returned (.bool (Sf.keyI c)) ∧ w = w' := by
  have H : Hid (∀ W : World, Calls Tryz.prog 104 #[.int .u8 c] W fun e w' => e = .returned (.bool (lowI c)) ∧ W = w') := Lib.hid (fun W => isLower_any c W)
  have G : Hid (∀ W : World, Calls Tryz.prog 127 #[.int .u8 c] W fun e w' => e = .returned (.bool (Oct.digitI c)) ∧ W = w') := Lib.hid (fun W => isDigit_any c W)
  obtain ⟨a, ha⟩ : ∃ a, lowI c = a := ⟨_, rfl⟩
  obtain ⟨b, hb⟩ : ∃ b, Oct.digitI c = b := ⟨_, rfl⟩
  have hl : Sf.keyI c = (a || c == 42 || (b || (c == 95 || (c == 45 || c == 46)))) := by rw [← ha, ← hb]; rfl
  rw [ha] at H
  rw [hb] at G
  rw [hl]
  clear ha hl hb
  go_enter Tryz.func107, Tryz.ntmps107
  go_wp2_with (first
    | (go_at_call 104; refine (H.out _).mono ?_; rintro e w' ⟨rfl, rfl⟩)
    | (go_at_call 127; refine (G.out _).mono ?_; rintro e w' ⟨rfl, rfl⟩))
  all_goals (go_ret; refine ⟨Oct.ret_bool ?_, rfl⟩; rw [Bool.eq_iff_iff]; simp_all; try omega)
set_option maxHeartbeats 400000 in
theorem isSequenceByte_any (c : Int) (w : World) : Calls Tryz.prog 151 #[.int .u8 c] w fun e w' => e = .returned (.bool (Sf.baseI c)) ∧ w = w' := by
  have H : Hid (∀ W : World, Calls Tryz.prog 130 #[.int .u8 c] W fun e w' => e = .returned (.bool (Oct.letterI c)) ∧ W = w') := Lib.hid (fun W => isLetter_any c W)
  have G : Hid (∀ W : World, Calls Tryz.prog 127 #[.int .u8 c] W fun e w' => e = .returned (.bool (Oct.digitI c)) ∧ W = w') := Lib.hid (fun W => isDigit_any c W)
  obtain ⟨a, ha⟩ : ∃ a, Oct.letterI c = a := ⟨_, rfl⟩
  obtain ⟨b, hb⟩ : ∃ b, Oct.digitI c = b := ⟨_, rfl⟩
  have hl : Sf.baseI c = (a || (b || (c == 43 || (c == 47 || c == 61)))) := by rw [← ha, ← hb]; rfl
  rw [ha] at H
  rw [hb] at G
  rw [hl]
  clear ha hl hb
  go_enter Tryz.func151, Tryz.ntmps151
  go_wp2_with (first
    | (go_at_call 130; refine (H.out _).mono ?_; rintro e w' ⟨rfl, rfl⟩)
    | (go_at_call 127; refine (G.out _).mono ?_; rintro e w' ⟨rfl, rfl⟩))
  all_goals (go_ret; refine ⟨Oct.ret_bool ?_, rfl⟩; rw [Bool.eq_iff_iff]; simp_all; try omega)

/-- What a reader panics with. -/
def fault : PanicEntry := { v := .iface 125 (.agg #[]), recovered := false }
/-- The reader in block b has s left. -/
def Rd (b : Nat) (s : List UInt8) (w : World) : Prop := Boxed w b 99 (.string (bA s))

theorem need_yes (w : World) : Calls Tryz.prog 103 #[.bool true] w fun e w' => e = .returned (.tuple #[]) ∧ w = w' := by
  go_enter Tryz.func103, Tryz.ntmps103
  go_wp2
  go_end0
  exact ⟨rfl, rfl⟩
theorem need_no (w : World) : Calls Tryz.prog 103 #[.bool false] w fun e w' => e = .panicked [fault] ∧ w = w' := by
  go_enter Tryz.func103, Tryz.ntmps103
  go_wp2
  exact ⟨rfl, rfl, rfl⟩
end Go.Proofs.YtogjekjklknfeaaGreatDoor

/- The contracts of a reader's first, skip and take, and of isTokenByte. -/
namespace Go.Proofs.YtogjekjklknfeaaGreatDoor
open Go.RowKit

theorem bA_nil_iff (s : List UInt8) : (bA s).toList.isEmpty = s.isEmpty := by
  have : (bA s).toList = s := by simp [bA]
  rw [this]
theorem bA_head (c : UInt8) (s : List UInt8) : (bA (c :: s))[0]'(Nat.succ_pos _) = c := rfl
theorem Rd.cell {b : Nat} {s : List UInt8} {w : World} (h : Rd b s w) : w.cell? ⟨b, 0, none⟩ = some (.string (bA s)) := Boxed.cell h
theorem Rd.frozen {b : Nat} {s : List UInt8} {w : World} (h : Rd b s w) : w.frozen? ⟨b, 0, none⟩ = false := Boxed.frozen h
theorem Rd.set {b : Nat} {s : List UInt8} {w : World} (h : Rd b s w) (t : List UInt8) : Rd b t (w.setCell ⟨b, 0, none⟩ (.string (bA t))) ∧ w.grownBy (w.setCell ⟨b, 0, none⟩ (.string (bA t))) (some b) := ⟨Boxed.set _ h, grownBy_setCell' _ _ _⟩

set_option maxHeartbeats 400000 in
theorem first_yes (b : Nat) (c : UInt8) (s : List UInt8) (w : World) (hR : Rd b (c :: s) w) : Calls Tryz.prog 105 #[.pointer (some ⟨b, 0, none⟩)] w fun e w' => e = .returned (.int .u8 c.toNat) ∧ w = w' := by
  have hc := hR.cell
  have H1 := Lib.hid (need_yes w)
  clear hR
  go_enter Tryz.func105, Tryz.ntmps105
  go_wp2_with (go_at_call 103; refine H1.out.mono ?_; rintro e w' ⟨rfl, rfl⟩)
  go_ret
  exact ⟨rfl, rfl⟩
theorem first_no (b : Nat) (w : World) (hR : Rd b [] w) : Calls Tryz.prog 105 #[.pointer (some ⟨b, 0, none⟩)] w fun e w' => e = .panicked [fault] ∧ w = w' := by
  have hc := hR.cell
  have H1 := Lib.hid (need_no w)
  clear hR
  go_enter Tryz.func105, Tryz.ntmps105
  go_wp2_with (go_at_call 103; refine H1.out.mono ?_; rintro e w' ⟨rfl, rfl⟩)
  exact ⟨rfl, rfl, rfl⟩

set_option maxHeartbeats 400000 in
theorem skip_yes (b : Nat) (ci : Int) (c : UInt8) (hci : ci = (c.toNat : Int)) (s : List UInt8) (w : World) (hR : Rd b (c :: s) w) : Calls Tryz.prog 109 #[.pointer (some ⟨b, 0, none⟩), .int .u8 ci] w fun e w' => e = .returned (.bool true) ∧ Rd b s w' ∧ w.grownBy w' (some b) := by
  subst hci
  have hc := hR.cell
  have hf := hR.frozen
  have HR := Lib.hid (hR.set s)
  have hx : (bA (c :: s)).extract 1 (bA (c :: s)).size = bA s := by rw [Byt.drop_ext]; rfl
  have HX := Lib.hid hx
  have h0 : ((((bA (c :: s))[0]'(Nat.succ_pos _)).toNat : Int) != (c.toNat : Int)) = false := by rw [bA_head]; simp
  clear hR hx
  go_enter Tryz.func109, Tryz.ntmps109
  go_wp2
  go_ret
  refine ⟨rfl, ?_⟩
  have := HX.out
  rw [show (bA (c :: s)).size = s.length + 1 from rfl] at this
  rw [this]
  exact HR.out
theorem skip_off (b : Nat) (ci : Int) (d : UInt8) (hd : ¬ (d.toNat : Int) = ci) (s : List UInt8) (w : World) (hR : Rd b (d :: s) w) : Calls Tryz.prog 109 #[.pointer (some ⟨b, 0, none⟩), .int .u8 ci] w fun e w' => e = .returned (.bool false) ∧ w = w' := by
  have hc := hR.cell
  have h0 : ((((bA (d :: s))[0]'(Nat.succ_pos _)).toNat : Int) != ci) = true := by rw [bA_head]; simpa using hd
  clear hR
  go_enter Tryz.func109, Tryz.ntmps109
  go_wp2
  go_ret
  exact ⟨rfl, rfl⟩
theorem skip_nil (b : Nat) (ci : Int) (w : World) (hR : Rd b [] w) : Calls Tryz.prog 109 #[.pointer (some ⟨b, 0, none⟩), .int .u8 ci] w fun e w' => e = .returned (.bool false) ∧ w = w' := by
  have hc := hR.cell
  clear hR
  go_enter Tryz.func109, Tryz.ntmps109
  go_wp2
  go_ret
  exact ⟨rfl, rfl⟩
end Go.Proofs.YtogjekjklknfeaaGreatDoor

/- The contract of a reader's take, and of isTokenByte. -/
namespace Go.Proofs.YtogjekjklknfeaaGreatDoor
open Go.RowKit Go.Shelf

theorem tw_hit' (p : Int → Bool) (s : ByteArray) (k : Nat) (h : k < s.size) (hi : Oct.allB p (s.data.toList.take k) = true) (hc : p s[k].toNat = false) : Sf.tw p s.data.toList = s.data.toList.take k ∧ Sf.dw p s.data.toList = s.data.toList.drop k := Byt.while_hit p s k h hi hc
theorem tw_end' (p : Int → Bool) (s : ByteArray) (k : Nat) (h : s.size ≤ k) (hi : Oct.allB p (s.data.toList.take k) = true) : Sf.tw p s.data.toList = s.data.toList ∧ Sf.dw p s.data.toList = [] := Byt.while_all p s k h hi

/-- The function F tells whether a byte is such a one. -/
structure Tells (F : FuncId) (p : Int → Bool) : Prop where
  enters : ∀ args w, (callFunc F args).run Tryz.prog w = .ok (.enter F args) w
  tells : ∀ (c : UInt8) (W : World), Calls Tryz.prog F #[.int .u8 (c.toNat : Int)] W fun e w' => e = .returned (.bool (p c.toNat)) ∧ W = w'

set_option maxHeartbeats 1000000 in
theorem take_arr (F : FuncId) (p : Int → Bool) (hF : Tells F p) (b : Nat) (s : ByteArray) (w : World) (hR : Boxed w b 99 (.string s)) (hs : s.size ≤ 140737488355328) :
    Calls Tryz.prog 106 #[.pointer (some ⟨b, 0, none⟩), .func (.func F) #[] #[]] w fun e w' => ∃ n : Nat, n ≤ s.size ∧ Hid (Sf.tw p s.data.toList = s.data.toList.take n ∧ Sf.dw p s.data.toList = s.data.toList.drop n) ∧ e = .returned (.string (s.extract 0 n)) ∧ w' = w.setCell ⟨b, 0, none⟩ (.string (s.extract n s.size)) := by
  have hc := hR.cell
  have hf := hR.frozen
  have hen := hF.enters
  have HF := Lib.hid hF
  clear hR hF
  go_enter Tryz.func106, Tryz.ntmps106
  go_wp2_with fail
  go_loop [5] (fun i => ∃ k : Nat, k ≤ s.size ∧ i = .int .i64 k ∧ Hid (Oct.allB p (s.data.toList.take k) = true)) (fun i => s.size - (intOf i).toNat)
  case atStart => exact ⟨0, Nat.zero_le _, rfl, rfl⟩
  case round =>
    obtain ⟨k, hk, rfl, hin⟩ := hrel
    by_cases hlt : k < s.size
    · cases hl : p s[k].toNat with
      | true =>
        have HL : Hid (∀ W : World, Calls Tryz.prog F #[.int .u8 (s[k].toNat : Int)] W fun e w' => e = .returned (.bool true) ∧ W = w') := Lib.hid (fun W => by rw [← hl]; exact HF.out.tells _ W)
        have HN := Lib.hid hl
        clear hl
        go_wp2_with fail
        refine (HL.out _).mono ?_
        rintro e w' ⟨rfl, rfl⟩
        go_wp2_with fail
        go_round
        case rel => exact ⟨k + 1, by omega, by go_num, Oct.allB_next _ s k hlt hin.out HN.out⟩
        case measure => simp [intOf]; omega
      | false =>
        have HL : Hid (∀ W : World, Calls Tryz.prog F #[.int .u8 (s[k].toNat : Int)] W fun e w' => e = .returned (.bool false) ∧ W = w') := Lib.hid (fun W => by rw [← hl]; exact HF.out.tells _ W)
        have HN := Lib.hid hl
        clear hl
        go_wp2_with fail
        refine (HL.out _).mono ?_
        rintro e w' ⟨rfl, rfl⟩
        go_wp2_with fail
        go_ret
        exact ⟨k, hk, tw_hit' _ s k hlt hin.out HN.out, rfl, rfl⟩
    · go_wp2_with fail
      go_ret
      refine ⟨k, hk, ?_, rfl, rfl⟩
      have e := tw_end' _ s k (by omega) hin.out
      have e2 : s.data.toList.take k = s.data.toList := List.take_of_length_le (by simp; omega)
      have e3 : s.data.toList.drop k = [] := List.drop_of_length_le (by simp; omega)
      rw [Hid, e2, e3]; exact e
/-- What 'take' takes off. -/
theorem take_any (F : FuncId) (p : Int → Bool) (hF : Tells F p) (b : Nat) (s : List UInt8) (w : World) (hR : Rd b s w) (hs : s.length ≤ 140737488355328) :
    Calls Tryz.prog 106 #[.pointer (some ⟨b, 0, none⟩), .func (.func F) #[] #[]] w fun e w' => e = .returned (.string (bA (Sf.tw p s))) ∧ Rd b (Sf.dw p s) w' ∧ w.grownBy w' (some b) := by
  refine (take_arr F p hF b (bA s) w hR hs).mono ?_
  rintro e w' ⟨n, hn, ht, rfl, rfl⟩
  obtain ⟨h1, h2⟩ := ht.out
  rw [Byt.drop_ext, Byt.take_ext, ← h1, ← h2]
  exact ⟨rfl, hR.set _⟩

theorem tellsSpace : Tells 110 (fun c => c == 32) := ⟨enters_of Tryz.func110 (by kernel_rfl) rfl, fun c W => isSpace_any c.toNat W⟩
theorem tellsDigit : Tells 127 Oct.digitI := ⟨enters_of Tryz.func127 (by kernel_rfl) rfl, fun c W => isDigit_any c.toNat W⟩
theorem tellsKey : Tells 107 Sf.keyI := ⟨enters_of Tryz.func107 (by kernel_rfl) rfl, fun c W => isKeyByte_any c.toNat W⟩
theorem tellsBase : Tells 151 Sf.baseI := ⟨enters_of Tryz.func151 (by kernel_rfl) rfl, fun c W => isSequenceByte_any c.toNat W⟩

def marksT : List UInt8 := [58, 47, 33, 35, 36, 37, 38, 39, 42, 43, 45, 46, 94, 95, 124, 126, 96]
theorem tok_tab : ∀ n : Fin 256, Sf.tokI n.val = (Oct.letterI n.val || (Oct.digitI n.val || decide (0 ≤ Lib.indexByte marksT (UInt8.ofNat n.val)))) := by decide +kernel
theorem tok_is (c : UInt8) : Sf.tokI c.toNat = (Oct.letterI c.toNat || (Oct.digitI c.toNat || decide (0 ≤ Lib.indexByte marksT c))) := by
  have := tok_tab ⟨c.toNat, c.toNat_lt⟩
  simpa using this
set_option maxHeartbeats 400000 in
theorem isTokenByte_any (c : UInt8) (w : World) : Calls Tryz.prog 150 #[.int .u8 (c.toNat : Int)] w fun e w' => e = .returned (.bool (Sf.tokI c.toNat)) ∧ w = w' := by
  have H : Hid (∀ W : World, Calls Tryz.prog 130 #[.int .u8 (c.toNat : Int)] W fun e w' => e = .returned (.bool (Oct.letterI c.toNat)) ∧ W = w') := Lib.hid (fun W => isLetter_any _ W)
  have G : Hid (∀ W : World, Calls Tryz.prog 127 #[.int .u8 (c.toNat : Int)] W fun e w' => e = .returned (.bool (Oct.digitI c.toNat)) ∧ W = w') := Lib.hid (fun W => isDigit_any _ W)
  have I : Hid (∀ W : World, Calls Tryz.prog 140 #[.string ⟨#[58, 47, 33, 35, 36, 37, 38, 39, 42, 43, 45, 46, 94, 95, 124, 126, 96]⟩, .int .u8 (c.toNat : Int)] W fun e w' => e = .returned (.int .i64 (Lib.indexByte marksT c)) ∧ W = w') := Lib.hid (fun W => by
    refine (Tryz.strings_IndexByte ⟨#[58, 47, 33, 35, 36, 37, 38, 39, 42, 43, 45, 46, 94, 95, 124, 126, 96]⟩ c.toNat W).mono ?_
    rintro e w' ⟨rfl, rfl⟩
    refine ⟨Oct.ret_int ?_, rfl⟩
    have : ((c.toNat : Int).toNat.toUInt8) = c := by simp
    rw [this]; rfl)
  have hx := tok_is c
  obtain ⟨a, ha⟩ : ∃ a, Oct.letterI c.toNat = a := ⟨_, rfl⟩
  obtain ⟨d, hd⟩ : ∃ d, Oct.digitI c.toNat = d := ⟨_, rfl⟩
  obtain ⟨i, hi⟩ : ∃ i, Lib.indexByte marksT c = i := ⟨_, rfl⟩
  rw [ha, hd, hi] at hx
  rw [hx]
  rw [ha] at H
  rw [hd] at G
  rw [hi] at I
  clear ha hi hd hx
  go_enter Tryz.func150, Tryz.ntmps150
  go_wp2_with (first
    | (go_at_call 130; refine (H.out _).mono ?_; rintro e w' ⟨rfl, rfl⟩)
    | (go_at_call 127; refine (G.out _).mono ?_; rintro e w' ⟨rfl, rfl⟩)
    | (go_at_call 140; refine (I.out _).mono ?_; rintro e w' ⟨rfl, rfl⟩))
  all_goals (go_ret; refine ⟨Oct.ret_bool ?_, rfl⟩; rw [Bool.eq_iff_iff]; simp_all)
theorem tellsTok : Tells 150 Sf.tokI := ⟨enters_of Tryz.func150 (by kernel_rfl) rfl, isTokenByte_any⟩
end Go.Proofs.YtogjekjklknfeaaGreatDoor

/- Blocks of cells: values, parameters and items in memory. -/
namespace Go.Proofs.YtogjekjklknfeaaGreatDoor
open Go.RowKit Go.Shelf

/-- Block B holds these cells. -/
def CBox (W : World) (B : Nat) (t : TypeId) (cs : Array Value) : Prop := W.heap[B]? = some (.cells cs t (0, 0))
theorem CBox.new (W : World) (t : TypeId) (cs : Array Value) : CBox (W.alloc (.cells cs t)) W.heap.size t cs := World.alloc_heap_new W _
theorem CBox.lt {W : World} {B : Nat} {t : TypeId} {cs : Array Value} (h : CBox W B t cs) : B < W.heap.size := (Array.getElem?_eq_some_iff.1 h).1
theorem CBox.kept {W W' : World} {B : Nat} {t : TypeId} {cs : Array Value} {row : Option Nat} (h : CBox W B t cs) (hg : W.grownBy W' row) (hne : some B ≠ row) : CBox W' B t cs := (hg.block B h.lt hne).trans h
theorem CBox.below {W W' : World} {B C : Nat} {t : TypeId} {cs : Array Value} (h : CBox W B t cs) (hb : Below C W W') (hC : B < C) : CBox W' B t cs := (hb.block B hC).trans h
theorem CBox.keep {W W' : World} {B : Nat} {t : TypeId} {cs : Array Value} (h : CBox W B t cs) (hb : Below W.heap.size W W') : CBox W' B t cs := h.below hb h.lt
theorem CBox.alloc {W : World} {B : Nat} {t : TypeId} {cs : Array Value} (h : CBox W B t cs) (o : Obj) : CBox (W.alloc o) B t cs := h.kept (World.grownBy_alloc W o none) (by simp)
theorem CBox.c {W : World} {B : Nat} {t : TypeId} {cs : Array Value} (h : CBox W B t cs) (i : Nat) : W.cell? ⟨B, i, none⟩ = cs[i]? := by simp [World.cell?, show W.heap[B]? = _ from h]
theorem CBox.fr {W : World} {B : Nat} {t : TypeId} {cs : Array Value} (h : CBox W B t cs) (i : Nat) : W.frozen? ⟨B, i, none⟩ = false := by simp [World.frozen?, show W.heap[B]? = _ from h]
theorem CBox.other {W : World} {B C i : Nat} {t : TypeId} {cs : Array Value} {v : Value} (h : CBox W B t cs) (hne : C ≠ B) : CBox (W.setCell ⟨C, i, none⟩ v) B t cs := by
  have h' : W.heap[B]? = _ := h
  unfold CBox
  simp [World.setCell, Array.getElem?_modify, h', hne]
theorem CBox.set {W : World} {B i : Nat} {t : TypeId} {cs : Array Value} (h : CBox W B t cs) (v : Value) : CBox (W.setCell ⟨B, i, none⟩ v) B t (cs.setIfInBounds i v) := by
  have h' : W.heap[B]? = _ := h
  unfold CBox
  simp [World.setCell, Array.getElem?_modify, h']
theorem g_trans {a b c : World} {row : Option Nat} (h : a.grownBy b row) (k : b.grownBy c row) : a.grownBy c row :=
  ⟨k.os.trans h.os, k.tape.trans h.tape, k.output.trans h.output, Nat.le_trans h.size k.size, fun i hi hn => (k.block i (Nat.lt_of_lt_of_le hi h.size) hn).trans (h.block i hi hn)⟩
theorem g_alloc {a b : World} {row : Option Nat} (h : a.grownBy b row) (o : Obj) : a.grownBy (b.alloc o) row := g_trans h (World.grownBy_alloc b o row)
theorem g_set {a b : World} {row : Option Nat} (h : a.grownBy b row) {B i : Nat} (v : Value) (hB : a.heap.size ≤ B ∨ row = some B) : a.grownBy (b.setCell ⟨B, i, none⟩ v) row :=
  ⟨h.os, h.tape, h.output, by simp [World.setCell]; exact h.size, fun k hk hn => by
    have : k ≠ B := by rintro rfl; rcases hB with hB | hB; omega; exact hn hB.symm
    rw [Below.heap_setCell _ _ _ _ (by exact this)]; exact h.block k hk hn⟩
theorem g_below {a b c : World} {row : Option Nat} (h : a.grownBy b row) (hb : Below b.heap.size b c) : a.grownBy c row :=
  ⟨hb.os.trans h.os, hb.tape.trans h.tape, hb.output.trans h.output, Nat.le_trans h.size hb.size, fun k hk hn => (hb.block k (Nat.lt_of_lt_of_le hk h.size)).trans (h.block k hk hn)⟩
theorem g_refl (a : World) (row : Option Nat) : a.grownBy a row := ⟨rfl, rfl, rfl, Nat.le_refl _, fun _ _ _ => rfl⟩
/-- What has been turned beside a block of one's own is below. -/
theorem g_own {a b : World} {o : Obj} {B : Nat} (h : (a.alloc o).grownBy b (some B)) (hB : a.heap.size ≤ B) : Below a.heap.size a b :=
  ⟨h.os, h.tape, h.output, by have := h.size; simp at this; omega, fun k hk => by
    rw [h.block k (by simp; omega) (by intro e; cases e; omega)]; exact Below.heap_alloc _ _ _ hk⟩

def vC (v : Sf.Par) : Array Value := #[.int .i64 v.kind, .int .i64 v.n, .string (bA v.text)]
def pC (p : Sf.Par) : Array Value := #[.string (bA p.key), .int .i64 p.kind, .int .i64 p.n, .string (bA p.text)]
def iC (k n : Int) (t : List UInt8) (l : Value) : Array Value := #[.int .i64 k, .int .i64 n, .string (bA t), l]
/-- A value, a parameter, an item as the program has them. -/
def valV (v : Sf.Par) : Value := .agg (vC v)
def parV (p : Sf.Par) : Value := .agg (pC p)
def itmV (k n : Int) (t : List UInt8) (l : Value) : Value := .agg (iC k n t l)

set_option maxHeartbeats 1000000 in
theorem load_val {w : World} {B : Nat} {v : Sf.Par} (h : CBox w B 65 (vC v)) : (loadVar 65 ⟨B, 0, none⟩).run Tryz.prog w = .ok (valV v) w := by
  have c0 := h.c 0; have c1 := h.c 1; have c2 := h.c 2
  simp [vC] at c0 c1 c2
  simp [go_sem, c0, c1, c2, valV, vC]
set_option maxHeartbeats 1000000 in
theorem load_par {w : World} {B : Nat} {v : Sf.Par} (h : CBox w B 53 (pC v)) : (loadVar 53 ⟨B, 0, none⟩).run Tryz.prog w = .ok (parV v) w := by
  have c0 := h.c 0; have c1 := h.c 1; have c2 := h.c 2; have c3 := h.c 3
  simp [pC] at c0 c1 c2 c3
  simp [go_sem, c0, c1, c2, c3, parV, pC]
set_option maxHeartbeats 1000000 in
theorem load_itm {w : World} {B : Nat} {k n : Int} {t : List UInt8} {l : Value} (h : CBox w B 35 (iC k n t l)) : (loadVar 35 ⟨B, 0, none⟩).run Tryz.prog w = .ok (itmV k n t l) w := by
  have c0 := h.c 0; have c1 := h.c 1; have c2 := h.c 2; have c3 := h.c 3
  simp [iC] at c0 c1 c2 c3
  simp [go_sem, c0, c1, c2, c3, itmV, iC]
theorem results_val {fn : Func} {t : Tmp} (h : fn.results = #[.cell t 65]) (tmps : Array Value) (w : World) {B : Nat} {x : Sf.Par} (hp : tmps[t]?.getD undef = .pointer (some ⟨B, 0, none⟩)) (hb : CBox w B 65 (vC x)) :
    (results fn tmps).run Tryz.prog w = .ok (valV x) w := by
  have hl := load_val hb
  simp [results, h, hp, hl, asAddr]
theorem results_par {fn : Func} {t : Tmp} (h : fn.results = #[.cell t 53]) (tmps : Array Value) (w : World) {B : Nat} {x : Sf.Par} (hp : tmps[t]?.getD undef = .pointer (some ⟨B, 0, none⟩)) (hb : CBox w B 53 (pC x)) :
    (results fn tmps).run Tryz.prog w = .ok (parV x) w := by
  have hl := load_par hb
  simp [results, h, hp, hl, asAddr]
theorem results_itm {fn : Func} {t : Tmp} (h : fn.results = #[.cell t 35]) (tmps : Array Value) (w : World) {B : Nat} {k n : Int} {x : List UInt8} {l : Value} (hp : tmps[t]?.getD undef = .pointer (some ⟨B, 0, none⟩)) (hb : CBox w B 35 (iC k n x l)) :
    (results fn tmps).run Tryz.prog w = .ok (itmV k n x l) w := by
  have hl := load_itm hb
  simp [results, h, hp, hl, asAddr]

abbrev set3 (W : World) (B : Nat) (a b c : Value) : World := ((W.setCell ⟨B, 0, none⟩ a).setCell ⟨B, 1, none⟩ b).setCell ⟨B, 2, none⟩ c
abbrev set4 (W : World) (B : Nat) (a b c d : Value) : World := (((W.setCell ⟨B, 0, none⟩ a).setCell ⟨B, 1, none⟩ b).setCell ⟨B, 2, none⟩ c).setCell ⟨B, 3, none⟩ d
theorem CBox.set3 {W : World} {B : Nat} {t : TypeId} {x y z : Value} (h : CBox W B t #[x, y, z]) (a b c : Value) : CBox (set3 W B a b c) B t #[a, b, c] := (((h.set a).set b).set c)
theorem CBox.set4 {W : World} {B : Nat} {t : TypeId} {x y z u : Value} (h : CBox W B t #[x, y, z, u]) (a b c d : Value) : CBox (set4 W B a b c d) B t #[a, b, c, d] := ((((h.set a).set b).set c).set d)
theorem CBox.other3 {W : World} {B C : Nat} {t : TypeId} {cs : Array Value} (h : CBox W B t cs) (hne : C ≠ B) (a b c : Value) : CBox (Go.Proofs.YtogjekjklknfeaaGreatDoor.set3 W C a b c) B t cs := ((h.other hne).other hne).other hne
theorem CBox.other4 {W : World} {B C : Nat} {t : TypeId} {cs : Array Value} (h : CBox W B t cs) (hne : C ≠ B) (a b c d : Value) : CBox (Go.Proofs.YtogjekjklknfeaaGreatDoor.set4 W C a b c d) B t cs := (((h.other hne).other hne).other hne).other hne
theorem g_set3 {a b : World} {row : Option Nat} (h : a.grownBy b row) {B : Nat} (x y z : Value) (hB : a.heap.size ≤ B ∨ row = some B) : a.grownBy (set3 b B x y z) row := g_set (g_set (g_set h x hB) y hB) z hB
theorem g_set4 {a b : World} {row : Option Nat} (h : a.grownBy b row) {B : Nat} (x y z u : Value) (hB : a.heap.size ≤ B ∨ row = some B) : a.grownBy (set4 b B x y z u) row := g_set (g_set (g_set (g_set h x hB) y hB) z hB) u hB
theorem CBox.all3 {W : World} {B : Nat} {t : TypeId} {x y z : Value} (h : CBox W B t #[x, y, z]) : W.cell? ⟨B, 0, none⟩ = some x ∧ W.cell? ⟨B, 1, none⟩ = some y ∧ W.cell? ⟨B, 2, none⟩ = some z ∧ W.frozen? ⟨B, 0, none⟩ = false ∧ W.frozen? ⟨B, 1, none⟩ = false ∧ W.frozen? ⟨B, 2, none⟩ = false := ⟨h.c 0, h.c 1, h.c 2, h.fr 0, h.fr 1, h.fr 2⟩
theorem CBox.all4 {W : World} {B : Nat} {t : TypeId} {x y z u : Value} (h : CBox W B t #[x, y, z, u]) : W.cell? ⟨B, 0, none⟩ = some x ∧ W.cell? ⟨B, 1, none⟩ = some y ∧ W.cell? ⟨B, 2, none⟩ = some z ∧ W.cell? ⟨B, 3, none⟩ = some u ∧ W.frozen? ⟨B, 0, none⟩ = false ∧ W.frozen? ⟨B, 1, none⟩ = false ∧ W.frozen? ⟨B, 2, none⟩ = false ∧ W.frozen? ⟨B, 3, none⟩ = false := ⟨h.c 0, h.c 1, h.c 2, h.c 3, h.fr 0, h.fr 1, h.fr 2, h.fr 3⟩
end Go.Proofs.YtogjekjklknfeaaGreatDoor
