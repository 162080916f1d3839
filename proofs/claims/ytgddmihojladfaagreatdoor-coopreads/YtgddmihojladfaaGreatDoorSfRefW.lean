/- Our texts of one layer, joined: plain functions and their laws, and the contracts of the functions of that layer. -/
import Derived.Test.YtgddmihojladfaaGreatDoorOctAll
import Derived.Test.YtgddmihojladfaaGreatDoorBytes
import Derived.Test.YtgddmihojladfaaGreatDoorSfMath4
import Derived.OwnWalk
import Derived.Deep.QuietTactic
import Derived.BigQuiet
import Derived.Test.YtgddmihojladfaaGreatDoorSfBox
import Derived.Deep.RegionWith
import Derived.IntWalk

/- The contracts of the document's functions of one byte and of one text: tokens, base, small, digits, told, Blank, Trim, Key. -/

namespace Go.Proofs.YtgddmihojladfaaGreatDoor
open Go.RowKit

set_option maxHeartbeats 400000 in
theorem rtokens_any (c : Int) (w : World) : Calls Tryz.prog 90 #[.int .u8 c] w fun e w' => e = .returned (.bool (Sf.tokI c)) ∧ w = w' := by
  have H : Hid (∀ W : World, Calls Tryz.prog 106 #[.int .u8 c] W fun e w' => e = .returned (.bool (Oct.tcharI c)) ∧ W = w') := Lib.hid (fun W => rtchar_any c W)
  obtain ⟨a, ha⟩ : ∃ a, Oct.tcharI c = a := ⟨_, rfl⟩
  unfold Sf.tokI
  rw [ha] at H ⊢
  clear ha
  go_enter Tryz.func90, Tryz.ntmps90
  go_wp2_with (go_at_call 106; refine (H.out _).mono ?_; rintro e w' ⟨rfl, rfl⟩)
  all_goals (go_ret; refine ⟨Oct.ret_bool ?_, rfl⟩; simp_all)
set_option maxHeartbeats 400000 in
theorem rbase_any (c : Int) (w : World) : Calls Tryz.prog 91 #[.int .u8 c] w fun e w' => e = .returned (.bool (Sf.baseI c)) ∧ w = w' := by
  have H : Hid (∀ W : World, Calls Tryz.prog 86 #[.int .u8 c] W fun e w' => e = .returned (.bool (Oct.letterI c)) ∧ W = w') := Lib.hid (fun W => rletter_any c W)
  have G : Hid (∀ W : World, Calls Tryz.prog 87 #[.int .u8 c] W fun e w' => e = .returned (.bool (Oct.digitI c)) ∧ W = w') := Lib.hid (fun W => rdigit_any c W)
  obtain ⟨a, ha⟩ : ∃ a, Oct.letterI c = a := ⟨_, rfl⟩
  obtain ⟨b, hb⟩ : ∃ b, Oct.digitI c = b := ⟨_, rfl⟩
  unfold Sf.baseI
  rw [ha] at H ⊢
  rw [hb] at G ⊢
  clear ha hb
  go_enter Tryz.func91, Tryz.ntmps91
  go_wp2_with (first
    | (go_at_call 86; refine (H.out _).mono ?_; rintro e w' ⟨rfl, rfl⟩)
    | (go_at_call 87; refine (G.out _).mono ?_; rintro e w' ⟨rfl, rfl⟩))
  all_goals (go_ret; refine ⟨Oct.ret_bool ?_, rfl⟩; rw [Bool.eq_iff_iff]; simp_all; try omega)
def smallI (c : Int) (first : Bool) : Bool := Sf.key1I c || (!first && (Oct.digitI c || (c == 95 || (c == 45 || c == 46))))
set_option maxHeartbeats 400000 in
theorem rsmall_any (c : Int) (f : Bool) (w : World) : Calls Tryz.prog 107 #[.int .u8 c, .bool f] w fun e w' => e = .returned (.bool (smallI c f)) ∧ w = w' := by
  go_enter Tryz.func107, Tryz.ntmps107
  go_wp2
  all_goals (go_ret; refine ⟨Oct.ret_bool ?_, rfl⟩; cases f <;> (rw [Bool.eq_iff_iff]; simp_all [smallI, Sf.key1I, Oct.digitI]; try omega))

theorem tw_hit (p : Int → Bool) (s : ByteArray) (k : Nat) (h : k < s.size) (hi : Oct.allB p (s.data.toList.take k) = true) (hc : p s[k].toNat = false) : Sf.tw p s.data.toList = s.data.toList.take k ∧ Sf.dw p s.data.toList = s.data.toList.drop k := Byt.while_hit p s k h hi hc
theorem tw_end (p : Int → Bool) (s : ByteArray) (k : Nat) (h : s.size ≤ k) (hi : Oct.allB p (s.data.toList.take k) = true) : Sf.tw p s.data.toList = s.data.toList ∧ Sf.dw p s.data.toList = [] := Byt.while_all p s k h hi
theorem len_take (s : ByteArray) (k : Nat) (h : k ≤ s.size) : (s.data.toList.take k).length = k := by
  rw [List.length_take]; have e : s.data.toList.length = s.size := by simp
  omega

set_option maxHeartbeats 1000000 in
theorem rdigits_of (s : ByteArray) (w : World) (hs : s.size ≤ maxLen) : Calls Tryz.prog 104 #[.string s] w fun e w' => e = .returned (.int .i64 (Sf.tw Oct.digitI s.data.toList).length) ∧ w = w' := by
  unfold maxLen at hs
  go_enter Tryz.func104, Tryz.ntmps104
  go_wp2
  go_loop [3] (fun i => ∃ k : Nat, k ≤ s.size ∧ i = .int .i64 k ∧ Hid (Oct.allB Oct.digitI (s.data.toList.take k) = true)) (fun i => s.size - (intOf i).toNat)
  case atStart => exact ⟨0, Nat.zero_le _, rfl, rfl⟩
  case round =>
    obtain ⟨k, hk, rfl, hin⟩ := hrel
    by_cases hlt : k < s.size
    · cases hl : Oct.digitI s[k].toNat with
      | true =>
        have HL : Hid (∀ W : World, Calls Tryz.prog 87 #[.int .u8 (s[k].toNat : Int)] W fun e w' => e = .returned (.bool true) ∧ W = w') := Lib.hid (fun W => by rw [← hl]; exact rdigit_any _ W)
        have HN := Lib.hid hl
        clear hl
        go_wp2_with (go_at_call 87; refine (HL.out _).mono ?_; rintro e w' ⟨rfl, rfl⟩)
        go_round
        case rel => exact ⟨k + 1, by omega, by go_num, Oct.allB_next _ s k hlt hin.out HN.out⟩
        case measure => simp [intOf]; omega
      | false =>
        have HL : Hid (∀ W : World, Calls Tryz.prog 87 #[.int .u8 (s[k].toNat : Int)] W fun e w' => e = .returned (.bool false) ∧ W = w') := Lib.hid (fun W => by rw [← hl]; exact rdigit_any _ W)
        have HN := Lib.hid hl
        clear hl
        go_wp2_with (go_at_call 87; refine (HL.out _).mono ?_; rintro e w' ⟨rfl, rfl⟩)
        go_ret
        refine ⟨Oct.ret_int ?_, rfl⟩
        rw [(tw_hit _ s k hlt hin.out HN.out).1, len_take s k (by omega)]
    · go_wp2_with fail
      go_ret
      refine ⟨Oct.ret_int ?_, rfl⟩
      rw [(tw_end _ s k (by omega) hin.out).1]
      simp; omega

theorem byte_off {c d : UInt8} (h : c ≠ d) : ((c.toNat : Int) == (d.toNat : Int)) = false := by
  rw [beq_eq_false_iff_ne]
  intro he
  exact h (UInt8.toNat_inj.1 (by exact_mod_cast he))
theorem head_bA (c : UInt8) (s : List UInt8) : (bA (c :: s))[0]'(Nat.succ_pos _) = c := rfl
theorem tail_bA (c : UInt8) (s : List UInt8) : (bA (c :: s)).extract 1 (s.length + 1) = bA s := by have := Byt.drop_ext (bA (c :: s)) 1; exact this
set_option maxHeartbeats 1000000 in
theorem sblank_any (s : List UInt8) (w : World) : Calls Tryz.prog 74 #[.string (bA s)] w fun e w' => e = .returned (.string (bA (Sf.blk s))) ∧ w = w' := by
  obtain ⟨B, hB⟩ : ∃ B, Sf.blk s = B := ⟨_, rfl⟩
  rw [hB]
  have HB := Lib.hid hB
  clear hB
  go_enter Tryz.func74, Tryz.ntmps74
  go_wp2_with fail
  go_loop [0] (fun v => ∃ r : List UInt8, v = .string (bA r) ∧ Hid (Sf.blk r = B)) (fun v => (Byt.sOf v).size)
  case atStart => exact ⟨s, rfl, HB⟩
  case round =>
    obtain ⟨r, rfl, hr⟩ := hrel
    clear HB
    cases r with
    | nil =>
      have : B = [] := hr.out.symm
      subst this
      go_wp2_with fail
      go_ret
      exact ⟨rfl, rfl⟩
    | cons c r =>
      have HX := Lib.hid (tail_bA c r)
      by_cases hc : c = 32
      · subst hc
        have h0 : ((((bA (32 :: r))[0]'(Nat.succ_pos _)).toNat : Int) == 32) = true := rfl
        have h2 : Sf.blk r = B := by rw [← hr.out]; rfl
        have H2 := Lib.hid h2
        clear hr h2
        go_wp2_with fail
        go_round
        case rel => exact ⟨r, by rw [HX.out], H2⟩
        case measure =>
          show ((bA (32 :: r)).extract 1 (r.length + 1)).size < (bA (32 :: r)).size
          rw [HX.out]; exact Nat.lt_succ_self _
      · have h0 : ((((bA (c :: r))[0]'(Nat.succ_pos _)).toNat : Int) == 32) = false := by rw [head_bA]; exact byte_off hc
        have : B = c :: r := by rw [← hr.out]; unfold Sf.blk; rw [List.dropWhile_cons_of_neg (by simpa using hc)]
        subst this
        clear hr
        go_wp2_with fail
        go_ret
        exact ⟨rfl, rfl⟩
end Go.Proofs.YtgddmihojladfaaGreatDoor

/- The contracts of the document's Trim, Key, told. -/


namespace Go.Proofs.YtgddmihojladfaaGreatDoor
open Go.RowKit

theorem last_bA (s : List UInt8) (c : UInt8) (h : s.length < (bA (s ++ [c])).size) : (bA (s ++ [c]))[s.length]'h = c := by
  show (s ++ [c]).toArray[s.length]'_ = c
  simp
theorem init_bA (s : List UInt8) (c : UInt8) : (bA (s ++ [c])).extract 0 s.length = bA s := by rw [Byt.take_ext]; simp
def trimR (s : List UInt8) : List UInt8 := (s.reverse.dropWhile fun b => b == 32).reverse
theorem trimR_yes (s : List UInt8) : trimR (s ++ [32]) = trimR s := by unfold trimR; rw [List.reverse_append]; rfl
theorem trimR_no (s : List UInt8) {c : UInt8} (h : c ≠ 32) : trimR (s ++ [c]) = s ++ [c] := by
  unfold trimR
  rw [List.reverse_append, show [c].reverse = [c] from rfl, List.cons_append, List.dropWhile_cons_of_neg (by simpa using h)]
  simp
set_option maxHeartbeats 1000000 in
theorem strim_any (s : List UInt8) (w : World) (hs : s.length ≤ 1000000) : Calls Tryz.prog 56 #[.string (bA s)] w fun e w' => e = .returned (.string (bA (Sf.trimS s))) ∧ w = w' := by
  have H := Lib.hid (sblank_any s w)
  have hbl : (Sf.blk s).length ≤ 1000000 := Nat.le_trans (List.dropWhile_sublist _).length_le hs
  obtain ⟨t, ht⟩ : ∃ t, Sf.blk s = t := ⟨_, rfl⟩
  obtain ⟨B, hB⟩ : ∃ B, Sf.trimS s = B := ⟨_, rfl⟩
  have HB : Hid (trimR t = B) := Lib.hid (by rw [← hB, ← ht]; rfl)
  rw [ht] at H hbl
  rw [hB]
  clear hB ht
  go_enter Tryz.func56, Tryz.ntmps56
  go_wp2_with fail
  refine H.out.mono ?_
  rintro e w1 ⟨rfl, rfl⟩
  go_wp2_with fail
  go_loop [0] (fun v => ∃ r : List UInt8, v = .string (bA r) ∧ r.length ≤ 1000000 ∧ Hid (trimR r = B)) (fun v => (Byt.sOf v).size)
  case atStart => exact ⟨t, rfl, hbl, HB⟩
  case round =>
    obtain ⟨r, rfl, hrl, hr⟩ := hrel
    clear HB H
    rcases List.eq_nil_or_concat r with rfl | ⟨q, c, rfl⟩
    · have : B = [] := hr.out.symm
      subst this
      go_wp2_with fail
      go_ret
      exact ⟨rfl, rfl⟩
    · rw [List.concat_eq_append] at hrl hr ⊢
      have hsz : (bA (q ++ [c])).size = q.length + 1 := by simp [bA_size]
      have HX := Lib.hid (init_bA q c)
      have hq : q.length ≤ 1000000 := by simp at hrl; omega
      have HL := Lib.hid (last_bA q c)
      obtain ⟨S, hS⟩ : ∃ S, bA (q ++ [c]) = S := ⟨_, rfl⟩
      rw [hS] at hsz HX HL ⊢
      have hp : (0 : Int) < (S.size : Int) := by omega
      have hlt : S.size - 1 < S.size := by omega
      have hto : ((S.size : Int) - 1).toNat = S.size - 1 := by omega
      have hge : (0 : Int) ≤ (S.size : Int) - 1 := by omega
      have hle : (S.size : Int) - 1 ≤ (S.size : Int) := by omega
      have hlast : S[S.size - 1]'hlt = c := by have := HL.out (by omega); simpa [hsz] using this
      have hszb : S.size ≤ 1000001 := by omega
      have HSZ := Lib.hid hsz
      clear hsz
      by_cases hc : c = 32
      · subst hc
        have h0 : (((S[S.size - 1]'hlt).toNat : Int) == 32) = true := by rw [hlast]; rfl
        have H2 : Hid (trimR q = B) := Lib.hid (by rw [← hr.out, trimR_yes])
        clear hr hlast HL
        go_wp2_with fail
        go_round
        case rel => exact ⟨q, by rw [show S.size - 1 = q.length by have := HSZ.out; omega, HX.out], hq, H2⟩
        case measure => simp [Byt.sOf]; omega
      · have h0 : (((S[S.size - 1]'hlt).toNat : Int) == 32) = false := by rw [hlast]; exact byte_off hc
        have hb : B = q ++ [c] := by rw [← hr.out, trimR_no q hc]
        have HBS : Hid (bA B = S) := Lib.hid (by rw [hb, hS])
        clear hr hlast HL hS hb
        go_wp2_with fail
        go_ret
        refine ⟨?_, rfl⟩
        rw [HBS.out]
        rfl

theorem small_one (c : Int) : smallI c true = Sf.key1I c := by simp [smallI]
theorem small_two (c : Int) : smallI c false = Sf.keyI c := by simp [smallI, Sf.keyI]
theorem keyI_of {c : Int} (h : Sf.key1I c = true) : Sf.keyI c = true := by simp [Sf.keyI, h]
/-- What Key answers. -/
def keyV (o : Option (List UInt8 × List UInt8)) : Value := match o with | some (k, r) => .tuple #[.string (bA k), .string (bA r), .int .i64 0] | none => .tuple #[.string ⟨#[]⟩, .string ⟨#[]⟩, .int .i64 50]
set_option maxHeartbeats 2000000 in
theorem rkey_any (s : List UInt8) (w : World) (hs : s.length ≤ 1000000) : Calls Tryz.prog 92 #[.string (bA s)] w fun e w' => e = .returned (keyV (Sf.keyOf s)) ∧ ∃ q, w' = w.drewN q := by
  cases s with
  | nil =>
    go_enter Tryz.func92, Tryz.ntmps92
    go_wp2_with fail
    go_loop [5] (fun v => v = .int .i64 0) (fun _ => 0)
    case atStart => rfl
    case round =>
      subst hrel
      go_wp2_with fail
      go_ret3
      exact ⟨rfl, 0, rfl⟩
  | cons c r =>
    obtain ⟨S, hS⟩ : ∃ S, bA (c :: r) = S := ⟨_, rfl⟩
    have hsz : S.size = r.length + 1 := by rw [← hS]; rfl
    have hsl : S.data.toList = c :: r := by rw [← hS]
    have h0 : (S[0]'(by omega)) = c := by subst hS; rfl
    rw [hS]
    simp only [List.length_cons] at hs
    have hb : S.size ≤ 1000001 := by omega
    have hp : 0 < S.size := by omega
    have HR1 := Lib.hid (fun (x : Int) (W : World) => rsmall_any x true W)
    have HR2 := Lib.hid (fun (x : Int) (W : World) => rsmall_any x false W)
    simp only [small_one] at HR1
    simp only [small_two] at HR2
    cases hk : Sf.key1I c.toNat with
    | false =>
      have he : Sf.keyOf (c :: r) = none := by simp [Sf.keyOf, hk]
      rw [he]
      have H1 : Hid (∀ W : World, Calls Tryz.prog 107 #[.int .u8 ((S[0]'(by omega)).toNat : Int), .bool true] W fun e w' => e = .returned (.bool false) ∧ W = w') := Lib.hid (fun W => by have := HR1.out ((S[0]'(by omega)).toNat : Int) W; rw [h0, hk] at this; rw [h0]; exact this)
      clear hS hsz hsl h0 he hk
      go_enter Tryz.func92, Tryz.ntmps92
      go_wp2_with fail
      go_loop [5] (fun v => v = .int .i64 0) (fun _ => 0)
      case atStart => rfl
      case round =>
        subst hrel
        go_wp2_with (go_at_call 107; refine (H1.out _).mono ?_; rintro e w' ⟨rfl, rfl⟩)
        go_ret3
        exact ⟨rfl, 0, rfl⟩
    | true =>
      have he : Sf.keyOf (c :: r) = some (c :: Sf.tw Sf.keyI r, Sf.dw Sf.keyI r) := by simp [Sf.keyOf, hk]
      have hkc := keyI_of hk
      have htw : Sf.tw Sf.keyI (c :: r) = c :: Sf.tw Sf.keyI r := List.takeWhile_cons_of_pos (by exact hkc)
      have hdw : Sf.dw Sf.keyI (c :: r) = Sf.dw Sf.keyI r := List.dropWhile_cons_of_pos (by exact hkc)
      rw [he, ← htw, ← hdw, ← hsl]
      have H1 : Hid (∀ W : World, Calls Tryz.prog 107 #[.int .u8 ((S[0]'(by omega)).toNat : Int), .bool true] W fun e w' => e = .returned (.bool true) ∧ W = w') := Lib.hid (fun W => by have := HR1.out ((S[0]'(by omega)).toNat : Int) W; rw [h0, hk] at this; rw [h0]; exact this)
      have H0 : Hid (Oct.allB Sf.keyI (S.data.toList.take (0 + 1)) = true) := Lib.hid (Oct.allB_next _ S 0 hp rfl (by rw [h0]; exact hkc))
      obtain ⟨kk, hkk⟩ : ∃ kk, Sf.tw Sf.keyI S.data.toList = kk := ⟨_, rfl⟩
      obtain ⟨rr, hrr⟩ : ∃ rr, Sf.dw Sf.keyI S.data.toList = rr := ⟨_, rfl⟩
      rw [hkk, hrr]
      have HKK := Lib.hid hkk; have HRR := Lib.hid hrr
      clear hS hsz hsl h0 he hk htw hdw hkc HR1 hkk hrr
      unfold keyV
      go_enter Tryz.func92, Tryz.ntmps92
      go_wp2_with fail
      go_loop [5] (fun v => ∃ k : Nat, k ≤ S.size ∧ v = .int .i64 k ∧ Hid (Oct.allB Sf.keyI (S.data.toList.take k) = true)) (fun v => S.size - (intOf v).toNat)
      case atStart => exact ⟨0, Nat.zero_le _, rfl, rfl⟩
      case round =>
        obtain ⟨k, hk, rfl, hin⟩ := hrel
        by_cases hk0 : k = 0
        · subst hk0
          go_wp2_with (go_at_call 107; refine (H1.out _).mono ?_; rintro e w' ⟨rfl, rfl⟩)
          go_round
          case rel => exact ⟨1, by omega, by go_num, H0⟩
          case measure => simp [intOf]; omega
        · have hz : ((k : Int) == 0) = false := by simp; exact hk0
          by_cases hlt : k < S.size
          · cases hl : Sf.keyI S[k].toNat with
            | true =>
              have HL : Hid (∀ W : World, Calls Tryz.prog 107 #[.int .u8 (S[k].toNat : Int), .bool false] W fun e w' => e = .returned (.bool true) ∧ W = w') := Lib.hid (fun W => by have := HR2.out (S[k].toNat : Int) W; rw [hl] at this; exact this)
              have HN := Lib.hid hl
              clear hl
              go_wp2_with (go_at_call 107; refine (HL.out _).mono ?_; rintro e w' ⟨rfl, rfl⟩)
              go_round
              case rel => exact ⟨k + 1, by omega, by go_num, Oct.allB_next _ S k hlt hin.out HN.out⟩
              case measure => simp [intOf]; omega
            | false =>
              have HL : Hid (∀ W : World, Calls Tryz.prog 107 #[.int .u8 (S[k].toNat : Int), .bool false] W fun e w' => e = .returned (.bool false) ∧ W = w') := Lib.hid (fun W => by have := HR2.out (S[k].toNat : Int) W; rw [hl] at this; exact this)
              have hh := tw_hit _ S k hlt hin.out hl
              have HE1 : Hid (S.extract 0 k = bA kk) := Lib.hid (by rw [Byt.take_ext, ← hh.1, HKK.out])
              have HE2 : Hid (S.extract k S.size = bA rr) := Lib.hid (by rw [Byt.drop_ext, ← hh.2, HRR.out])
              clear hl hh
              go_wp2_with (go_at_call 107; refine (HL.out _).mono ?_; rintro e w' ⟨rfl, rfl⟩)
              go_quiet (fail)
              go_wp2_with fail
              go_ret3
              refine ⟨?_, nq, rfl⟩
              rw [← HE1.out, ← HE2.out]
              rfl
          · have hh := tw_end _ S k (by omega) hin.out
            have ek : k = S.size := by omega
            subst ek
            have HE1 : Hid (S = bA kk) := Lib.hid (by rw [← HKK.out, hh.1])
            have HE2 : Hid (ByteArray.empty = bA rr) := Lib.hid (by rw [← HRR.out, hh.2]; rfl)
            clear hh
            go_wp2_with fail
            go_quiet (fail)
            go_wp2_with fail
            go_ret3
            refine ⟨?_, nq, rfl⟩
            have e1 := HE1.out
            have e2 := HE2.out
            rw [← e2, ← e1]
            rfl

theorem told_next (s : ByteArray) (k : Nat) (h : k < s.size) : Oct.val (s.data.toList.take (k + 1)) = 10 * Oct.val (s.data.toList.take k) + ((s[k].toNat : Int) - 48) := by
  have h' : k < s.data.toList.length := by simpa using h
  rw [List.take_succ_eq_append_getElem h', Oct.val_snoc]; rfl
theorem dig_at (s : ByteArray) (hd : Oct.allB Oct.digitI s.data.toList = true) (k : Nat) (h : k < s.size) : 48 ≤ s[k].toNat ∧ s[k].toNat ≤ 57 := by
  have h' : k < s.data.toList.length := by simpa using h
  have := List.all_eq_true.1 hd _ (List.getElem_mem h')
  have h2 : Oct.digitI (s[k].toNat : Int) = true := this
  simp [Oct.digitI] at h2
  omega
theorem told_small (s : ByteArray) (hd : Oct.allB Oct.digitI s.data.toList = true) (hl : s.size ≤ 18) (k : Nat) : 0 ≤ Oct.val (s.data.toList.take k) ∧ Oct.val (s.data.toList.take k) ≤ 999999999999999999 := by
  have ht : Oct.allB Oct.digitI (s.data.toList.take k) = true := by
    rw [Oct.allB, List.all_eq_true] at hd ⊢
    exact fun x hx => hd x (List.mem_of_mem_take hx)
  have h1 := Oct.val_nonneg _ ht
  have h2 := Sf.val_bound ht 18 (by simp; omega)
  exact ⟨h1, by omega⟩
set_option maxHeartbeats 1000000 in
theorem rtold_any (s : ByteArray) (w : World) (hd : Oct.allB Oct.digitI s.data.toList = true) (hl : s.size ≤ 15) : Calls Tryz.prog 105 #[.string s] w fun e w' => e = .returned (.int .i64 (Oct.val s.data.toList)) ∧ w = w' := by
  have HD := Lib.hid (dig_at s hd)
  have HN := Lib.hid (told_next s)
  have HS := Lib.hid (told_small s hd (by omega))
  clear hd
  go_enter Tryz.func105, Tryz.ntmps105
  go_wp2_with fail
  go_loop [3, 4] (fun v i => ∃ k : Nat, k ≤ s.size ∧ i = .int .i64 k ∧ v = .int .i64 (Oct.val (s.data.toList.take k))) (fun _ i => s.size - (intOf i).toNat)
  case atStart => exact ⟨0, Nat.zero_le _, rfl, rfl⟩
  case round =>
    obtain ⟨k, hk, rfl, rfl⟩ := hrel
    by_cases hlt : k < s.size
    · obtain ⟨d0, d1⟩ := HD.out k hlt
      have hn := HN.out k hlt
      obtain ⟨s0, s1⟩ := HS.out k
      obtain ⟨t0, t1⟩ := HS.out (k + 1)
      obtain ⟨V, hV⟩ : ∃ V, Oct.val (s.data.toList.take k) = V := ⟨_, rfl⟩
      rw [hV] at hn s0 s1 ⊢
      rw [hn] at t0 t1
      have HNN := Lib.hid hn
      clear hV hn HD HS HN
      go_wp2_with fail
      go_round
      case rel => exact ⟨k + 1, by omega, by go_num, by rw [HNN.out]⟩
      case measure => simp [intOf]; omega
    · have e : s.data.toList.take k = s.data.toList := List.take_of_length_le (by simp; omega)
      rw [e]
      obtain ⟨V, hV⟩ : ∃ V, Oct.val s.data.toList = V := ⟨_, rfl⟩
      rw [hV]
      have HV := Lib.hid hV
      clear e hV HD HS HN
      go_wp2_with fail
      go_ret
      exact ⟨Oct.ret_int HV.out.symm, rfl⟩
end Go.Proofs.YtgddmihojladfaaGreatDoor

/- The contract of the document's number. (Written by mkn.py.) -/


namespace Go.Proofs.YtgddmihojladfaaGreatDoor
open Go.RowKit

def zPar : Value := .agg #[.string ⟨#[]⟩, .int .i64 0, .int .i64 0, .string ⟨#[]⟩]
/-- What the document's value, number, quoted answer. -/
def rvalV (o : Option (Sf.Par × List UInt8)) : Value := match o with | some (p, r) => .tuple #[parV p, .string (bA r), .bool true] | none => .tuple #[zPar, .string ⟨#[]⟩, .bool false]
theorem results_pv {fn : Func} (h : fn.results = #[.cell 2 72, .tmp 3, .tmp 4]) (tmps : Array Value) (w : World) {B : Nat} {x : Sf.Par} (hp : tmps[2]?.getD undef = .pointer (some ⟨B, 0, none⟩)) (hb : CBox w B 72 (pC x)) :
    (results fn tmps).run Tryz.prog w = .ok (.tuple #[parV x, tmps.getD 3 undef, tmps.getD 4 undef]) w := by
  have hl := load_par hb
  simp [results, h, hp, hl, asAddr]
theorem ext_l (d r : List UInt8) : (bA (d ++ r)).extract 0 d.length = bA d := by rw [Byt.take_ext]; simp
theorem ext_r (d r : List UInt8) : (bA (d ++ r)).extract d.length (bA (d ++ r)).size = bA r := by rw [Byt.drop_ext]; simp
theorem at_r (d r : List UInt8) (c : UInt8) (h : d.length < (bA (d ++ c :: r)).size) : (bA (d ++ c :: r))[d.length]'h = c := by
  show (d ++ c :: r).toArray[d.length]'_ = c
  simp
theorem CBox.drew {W : World} {B : Nat} {t : TypeId} {cs : Array Value} (h : CBox W B t cs) : CBox W.drew B t cs := h
theorem below_one (w : World) (o : Obj) : Below w.heap.size w (w.alloc o) := (Below.refl _ _).alloc (Nat.le_refl _) _
theorem below_dr {w w' : World} {B : Nat} (h : Below B w w') (q : Nat) : Below B w (w'.drewN q) := h.trans ⟨rfl, rfl, rfl, Nat.le_refl _, fun _ _ => rfl⟩
theorem tw_dw (p : Int → Bool) (s : List UInt8) : Sf.tw p s ++ Sf.dw p s = s := List.takeWhile_append_dropWhile
theorem rdw_head (p : Int → Bool) {s r : List UInt8} {c : UInt8} (h : Sf.dw p s = c :: r) : p c.toNat = false := by
  have := List.head_dropWhile_not (fun b : UInt8 => p b.toNat) (l := s) (by unfold Sf.dw at h; rw [h]; simp)
  unfold Sf.dw at h
  simpa [h] using this

theorem ext_l' {T : ByteArray} {d r : List UInt8} (h : d ++ r = T.data.toList) : T.extract 0 d.length = bA d := by rw [Byt.take_ext, ← h]; simp
theorem ext_r' {T : ByteArray} {d r : List UInt8} (h : d ++ r = T.data.toList) : T.extract d.length T.size = bA r := by rw [Byt.drop_ext, ← h]; simp
theorem ext_s' {T : ByteArray} {d r : List UInt8} {c : UInt8} (h : d ++ c :: r = T.data.toList) : T.extract (d.length + 1) T.size = bA r := by rw [Byt.drop_ext, ← h, List.drop_append]; simp
theorem size_of {T : ByteArray} {d r : List UInt8} (h : d ++ r = T.data.toList) : T.size = d.length + r.length := by
  have e : T.data.toList.length = T.size := by simp
  rw [← e, ← h, List.length_append]
theorem at_r' {T : ByteArray} {d r : List UInt8} {c : UInt8} (h : d ++ c :: r = T.data.toList) (hl : d.length < T.size) : T[d.length]'hl = c := by
  have h2 : T.data.toList[d.length]'(by simpa using hl) = c := by simp [← h]
  exact h2
set_option maxHeartbeats 4000000 in
set_option maxRecDepth 20000 in
theorem rdec_pos (T : ByteArray) (w : World) (hs : T.size ≤ 1000000) (hp : 0 < T.size) (hq : ((T[0].toNat : Int) == 45) = false) (d q d2 r2 : List UInt8) (hdr : d ++ 46 :: q = T.data.toList) (hdr2 : d2 ++ r2 = q) (had : Oct.allB Oct.digitI d = true) (had2 : Oct.allB Oct.digitI d2 = true) (b0 : 0 < d.length) (b1 : d.length ≤ 12) (b2 : 1 ≤ d2.length) (b3 : d2.length ≤ 3)
    (H1 : Hid (∀ W : World, Calls Tryz.prog 104 #[.string T] W fun e w' => e = .returned (.int .i64 d.length) ∧ W = w')) (H3 : Hid (∀ W : World, Calls Tryz.prog 104 #[.string (bA q)] W fun e w' => e = .returned (.int .i64 d2.length) ∧ W = w')) :
    Calls Tryz.prog 88 #[.string T] w fun e w' => e = .returned (rvalV (some (Sf.kv 2 (1 * (Oct.val (d ++ d2) * 10 ^ (3 - d2.length))) [], r2))) ∧ Below w.heap.size w w' := by
  have hsz := size_of hdr
  have hsz2 : q.length = d2.length + r2.length := by rw [← hdr2, List.length_append]
  have hlt : d.length < T.size := by rw [hsz]; simp
  have hz1 : ((d.length : Int) == 0) = false := by simp; intro h; rw [h] at b0; simp at b0
  have hz2 : (d.length : Int) ≤ 15 := by omega
  have hdl' : ((d.length : Int) == (T.size : Int)) = false := by simp; omega
  have hat : (((T[d.length]'hlt).toNat : Int) != 46) = false := by rw [at_r' hdr hlt]; rfl
  have hx1 := ext_l' hdr
  have hx3 := ext_s' hdr
  have hx4 : T.extract (d.length + 1) (d.length + 1 + d2.length) = bA d2 := by
    rw [Lib.extract_eq, ← hdr, ← hdr2, List.drop_append, show d.length + 1 + d2.length - (d.length + 1) = d2.length by omega, show d.length + 1 - d.length = 1 by omega, List.drop_of_length_le (by omega)]
    simp
  have hx5 : T.extract (d.length + 1 + d2.length) T.size = bA r2 := by
    rw [Byt.drop_ext, ← hdr, ← hdr2, List.drop_append]
    simp [show d.length + 1 + d2.length - d.length = d2.length + 1 by omega]
    omega
  have hadd : Oct.allB Oct.digitI (d ++ d2) = true := by rw [Sf.allB_app, had, had2]; rfl
  have hx6 := bA_app d d2
  have H2 : Hid (∀ W : World, Calls Tryz.prog 105 #[.string (bA (d ++ d2))] W fun e w' => e = .returned (.int .i64 (Oct.val (d ++ d2))) ∧ W = w') := Lib.hid (fun W => rtold_any (bA (d ++ d2)) W hadd (by rw [bA_size, List.length_append]; omega))
  have hv0 := Oct.val_nonneg _ hadd
  have hv1 : Oct.val (d ++ d2) ≤ 999999999999999 := by have := Sf.val_bound hadd 15 (by rw [List.length_append]; omega); omega
  have hle5 : d.length + 1 + d2.length ≤ T.size := by rw [hsz]; simp; omega
  have b1' : (d.length : Int) ≤ 12 := by omega
  have b2' : (1 : Int) ≤ (d2.length : Int) := by omega
  have b3' : (d2.length : Int) ≤ 3 := by omega
  obtain ⟨X, hX⟩ : ∃ X, Oct.val (d ++ d2) * 10 ^ (3 - d2.length) = X := ⟨_, rfl⟩
  rw [hX]
  have hX0 : 0 ≤ X ∧ X ≤ 99999999999999900 := by
    rw [← hX]
    have hc : d2.length = 1 ∨ d2.length = 2 ∨ d2.length = 3 := by omega
    rcases hc with h | h | h <;> (rw [h]; simp; omega)
  obtain ⟨x0, x1⟩ := hX0
  rw [show (1 : Int) * X = X by omega]
  have HX := Lib.hid hX
  obtain ⟨V, hV⟩ : ∃ V, Oct.val (d ++ d2) = V := ⟨_, rfl⟩
  rw [hV] at H2
  rw [hV] at hv0 hv1 HX
  have H2q : Hid (∀ W : World, Calls Tryz.prog 105 #[.string (bA (d ++ d2))] W fun e w' => e = .returned (.int .i64 V) ∧ w' = W) := Lib.hid (fun W => (H2.out W).mono fun _ _ h => ⟨h.1, h.2.symm⟩)
  clear H2
  clear hx6
  clear hdr hdr2 had had2 hadd hX hV hsz hsz2
  go_enter Tryz.func88, Tryz.ntmps88
  go_wp2_with fail
  refine (H1.out _).mono ?_
  rintro e w1 ⟨rfl, rfl⟩
  go_wp2_with fail
  refine (H3.out _).mono ?_
  rintro e w2 ⟨rfl, rfl⟩
  go_wp2_with fail
  have s1 : IntKind.i64.wrap ((d.length : Int) + 1) = (d.length : Int) + 1 := IntWalk.i64_in _ (by omega)
  have s2 : IntKind.i64.wrap ((d.length : Int) + 1 + (d2.length : Int)) = (d.length : Int) + 1 + (d2.length : Int) := IntWalk.i64_in _ (by omega)
  have s3 : (0 : Int) ≤ (d.length : Int) + 1 := by omega
  have s4 : ((d.length : Int) + 1).toNat = d.length + 1 := by omega
  have s5 : ((d.length : Int) + 1 + (d2.length : Int)).toNat = d.length + 1 + d2.length := by omega
  have s6 : (d.length : Int) + 1 ≤ (d.length : Int) + 1 + (d2.length : Int) := by omega
  have s7 : (d.length : Int) + 1 + (d2.length : Int) ≤ (T.size : Int) := by omega
  have s8 : (d.length : Int) ≤ (T.size : Int) := by omega
  have s9 : (0 : Int) ≤ (d.length : Int) + 1 + (d2.length : Int) := by omega
  have sa : ∀ W : World, (Op.stringOp .add (bA d) (bA d2)).run Tryz.prog W = .ok (.string (bA (d ++ d2))) W := fun W => by
    rw [run_string_add_sum W (bA d) (bA d2) (by rw [bA_size, bA_size]; omega), bA_app]
  go_quiet (first | (go_at_call 105; refine Calls.quiet_of_same (H2q.out _)))
  have S1 := Lib.hid s1; have S2 := Lib.hid s2; have S5 := Lib.hid s5
  clear s1 s2 s4 s5 sa H1 H3 H2q hx1 hx3 hx4 hdl' hat
  go_wp2_with fail
  go_loop [8, 9] (fun x i => ∃ (j : Nat) (Y : Int), d2.length ≤ j ∧ j ≤ 3 ∧ i = .int .i64 j ∧ x = .int .i64 Y ∧ 0 ≤ Y ∧ Y ≤ 99999999999999900 ∧ Hid (Y * 10 ^ (3 - j) = X)) (fun _ i => 3 - (intOf i).toNat)
  case atStart => exact ⟨d2.length, V, Nat.le_refl _, b3, rfl, rfl, hv0, by omega, HX⟩
  case round =>
    obtain ⟨j, Y, hj, hj3, rfl, rfl, y0, y1, hY⟩ := hrel
    by_cases hlt3 : j < 3
    · have hlt3' : (j : Int) < 3 := by omega
      have hn : 10 * Y ≤ 99999999999999900 ∧ (10 * Y) * 10 ^ (3 - (j + 1)) = X := by
        have h := hY.out
        have hc : j = 1 ∨ j = 2 := by omega
        rcases hc with rfl | rfl <;> (simp at h ⊢; omega)
      have HN := Lib.hid hn
      clear hn hY HX
      go_wp2_with fail
      go_round
      case rel => exact ⟨j + 1, 10 * Y, by omega, by omega, by go_num, by go_num, by omega, HN.out.1, HN.out.2⟩
      case measure => simp [intOf]; omega
    · have ej : j = 3 := by omega
      subst ej
      have hYX : Y = X := by have h := hY.out; simpa using h
      subst hYX
      have w1 : IntKind.i64.wrap Y = Y := IntWalk.i64_in _ (by omega)
      have w2 : IntKind.i64.wrap (-Y) = -Y := IntWalk.i64_in _ (by omega)
      have s1 := S1.out; have s2 := S2.out; have s5 := S5.out
      clear hY HX
      go_wp2_with fail
      have hbx : CBox ((w.alloc (.cells #[.string ⟨#[]⟩, .int .i64 0, .int .i64 0, .string ⟨#[]⟩] 72)).drewN nq) w.heap.size 72 #[.string ⟨#[]⟩, .int .i64 0, .int .i64 0, .string ⟨#[]⟩] := CBox.new _ _ _
      have hbw := below_dr (below_one w (.cells #[.string ⟨#[]⟩, .int .i64 0, .int .i64 0, .string ⟨#[]⟩] 72)) nq
      generalize ((w.alloc (.cells #[.string ⟨#[]⟩, .int .i64 0, .int .i64 0, .string ⟨#[]⟩] 72)).drewN nq) = W at hbx hbw ⊢
      obtain ⟨c0, c1, c2, c3, f0, f1, f2, f3⟩ := hbx.all4
      have HBX := Lib.hid hbx; have HBW := Lib.hid hbw
      clear hbx hbw
      go_region_with (fail)
      all_goals
        go_wp2_with fail
        have hgA := fun (a b c e : Value) => (g_set4 (g_refl W (some w.heap.size)) (B := w.heap.size) a b c e (.inr rfl))
        refine bodyPost_ret (results_pv (x := Sf.kv 2 Y []) rfl _ _ rfl ((HBX.out.set4 _ _ _ _).drew)) rfl ?_
        exact ⟨rfl, (HBW.out.grown (hgA _ _ _ _) HBW.out.size (fun k hk => by cases hk; exact Nat.le_refl _)).drew⟩
set_option maxHeartbeats 4000000 in
set_option maxRecDepth 20000 in
theorem rdec_neg (S T : ByteArray) (w : World) (hS : S.size ≤ 1000000) (hp : 0 < S.size) (hq : ((S[0].toNat : Int) == 45) = true) (hT : S.extract 1 S.size = T) (hs : T.size ≤ 1000000) (d q d2 r2 : List UInt8) (hdr : d ++ 46 :: q = T.data.toList) (hdr2 : d2 ++ r2 = q) (had : Oct.allB Oct.digitI d = true) (had2 : Oct.allB Oct.digitI d2 = true) (b0 : 0 < d.length) (b1 : d.length ≤ 12) (b2 : 1 ≤ d2.length) (b3 : d2.length ≤ 3)
    (H1 : Hid (∀ W : World, Calls Tryz.prog 104 #[.string T] W fun e w' => e = .returned (.int .i64 d.length) ∧ W = w')) (H3 : Hid (∀ W : World, Calls Tryz.prog 104 #[.string (bA q)] W fun e w' => e = .returned (.int .i64 d2.length) ∧ W = w')) :
    Calls Tryz.prog 88 #[.string S] w fun e w' => e = .returned (rvalV (some (Sf.kv 2 ((-1) * (Oct.val (d ++ d2) * 10 ^ (3 - d2.length))) [], r2))) ∧ Below w.heap.size w w' := by
  have hsz := size_of hdr
  have hsz2 : q.length = d2.length + r2.length := by rw [← hdr2, List.length_append]
  have hlt : d.length < T.size := by rw [hsz]; simp
  have hz1 : ((d.length : Int) == 0) = false := by simp; intro h; rw [h] at b0; simp at b0
  have hz2 : (d.length : Int) ≤ 15 := by omega
  have hdl' : ((d.length : Int) == (T.size : Int)) = false := by simp; omega
  have hat : (((T[d.length]'hlt).toNat : Int) != 46) = false := by rw [at_r' hdr hlt]; rfl
  have hx1 := ext_l' hdr
  have hx3 := ext_s' hdr
  have hx4 : T.extract (d.length + 1) (d.length + 1 + d2.length) = bA d2 := by
    rw [Lib.extract_eq, ← hdr, ← hdr2, List.drop_append, show d.length + 1 + d2.length - (d.length + 1) = d2.length by omega, show d.length + 1 - d.length = 1 by omega, List.drop_of_length_le (by omega)]
    simp
  have hx5 : T.extract (d.length + 1 + d2.length) T.size = bA r2 := by
    rw [Byt.drop_ext, ← hdr, ← hdr2, List.drop_append]
    simp [show d.length + 1 + d2.length - d.length = d2.length + 1 by omega]
    omega
  have hadd : Oct.allB Oct.digitI (d ++ d2) = true := by rw [Sf.allB_app, had, had2]; rfl
  have hx6 := bA_app d d2
  have H2 : Hid (∀ W : World, Calls Tryz.prog 105 #[.string (bA (d ++ d2))] W fun e w' => e = .returned (.int .i64 (Oct.val (d ++ d2))) ∧ W = w') := Lib.hid (fun W => rtold_any (bA (d ++ d2)) W hadd (by rw [bA_size, List.length_append]; omega))
  have hv0 := Oct.val_nonneg _ hadd
  have hv1 : Oct.val (d ++ d2) ≤ 999999999999999 := by have := Sf.val_bound hadd 15 (by rw [List.length_append]; omega); omega
  have hle5 : d.length + 1 + d2.length ≤ T.size := by rw [hsz]; simp; omega
  have b1' : (d.length : Int) ≤ 12 := by omega
  have b2' : (1 : Int) ≤ (d2.length : Int) := by omega
  have b3' : (d2.length : Int) ≤ 3 := by omega
  obtain ⟨X, hX⟩ : ∃ X, Oct.val (d ++ d2) * 10 ^ (3 - d2.length) = X := ⟨_, rfl⟩
  rw [hX]
  have hX0 : 0 ≤ X ∧ X ≤ 99999999999999900 := by
    rw [← hX]
    have hc : d2.length = 1 ∨ d2.length = 2 ∨ d2.length = 3 := by omega
    rcases hc with h | h | h <;> (rw [h]; simp; omega)
  obtain ⟨x0, x1⟩ := hX0
  rw [show (-1 : Int) * X = -X by omega]
  have HX := Lib.hid hX
  obtain ⟨V, hV⟩ : ∃ V, Oct.val (d ++ d2) = V := ⟨_, rfl⟩
  rw [hV] at H2
  rw [hV] at hv0 hv1 HX
  have H2q : Hid (∀ W : World, Calls Tryz.prog 105 #[.string (bA (d ++ d2))] W fun e w' => e = .returned (.int .i64 V) ∧ w' = W) := Lib.hid (fun W => (H2.out W).mono fun _ _ h => ⟨h.1, h.2.symm⟩)
  clear H2
  clear hx6
  clear hdr hdr2 had had2 hadd hX hV hsz hsz2
  go_enter Tryz.func88, Tryz.ntmps88
  go_wp2_with fail
  refine (H1.out _).mono ?_
  rintro e w1 ⟨rfl, rfl⟩
  go_wp2_with fail
  refine (H3.out _).mono ?_
  rintro e w2 ⟨rfl, rfl⟩
  go_wp2_with fail
  have s1 : IntKind.i64.wrap ((d.length : Int) + 1) = (d.length : Int) + 1 := IntWalk.i64_in _ (by omega)
  have s2 : IntKind.i64.wrap ((d.length : Int) + 1 + (d2.length : Int)) = (d.length : Int) + 1 + (d2.length : Int) := IntWalk.i64_in _ (by omega)
  have s3 : (0 : Int) ≤ (d.length : Int) + 1 := by omega
  have s4 : ((d.length : Int) + 1).toNat = d.length + 1 := by omega
  have s5 : ((d.length : Int) + 1 + (d2.length : Int)).toNat = d.length + 1 + d2.length := by omega
  have s6 : (d.length : Int) + 1 ≤ (d.length : Int) + 1 + (d2.length : Int) := by omega
  have s7 : (d.length : Int) + 1 + (d2.length : Int) ≤ (T.size : Int) := by omega
  have s8 : (d.length : Int) ≤ (T.size : Int) := by omega
  have s9 : (0 : Int) ≤ (d.length : Int) + 1 + (d2.length : Int) := by omega
  have sa : ∀ W : World, (Op.stringOp .add (bA d) (bA d2)).run Tryz.prog W = .ok (.string (bA (d ++ d2))) W := fun W => by
    rw [run_string_add_sum W (bA d) (bA d2) (by rw [bA_size, bA_size]; omega), bA_app]
  go_quiet (first | (go_at_call 105; refine Calls.quiet_of_same (H2q.out _)))
  have S1 := Lib.hid s1; have S2 := Lib.hid s2; have S5 := Lib.hid s5
  clear s1 s2 s4 s5 sa H1 H3 H2q hx1 hx3 hx4 hdl' hat
  go_wp2_with fail
  go_loop [8, 9] (fun x i => ∃ (j : Nat) (Y : Int), d2.length ≤ j ∧ j ≤ 3 ∧ i = .int .i64 j ∧ x = .int .i64 Y ∧ 0 ≤ Y ∧ Y ≤ 99999999999999900 ∧ Hid (Y * 10 ^ (3 - j) = X)) (fun _ i => 3 - (intOf i).toNat)
  case atStart => exact ⟨d2.length, V, Nat.le_refl _, b3, rfl, rfl, hv0, by omega, HX⟩
  case round =>
    obtain ⟨j, Y, hj, hj3, rfl, rfl, y0, y1, hY⟩ := hrel
    by_cases hlt3 : j < 3
    · have hlt3' : (j : Int) < 3 := by omega
      have hn : 10 * Y ≤ 99999999999999900 ∧ (10 * Y) * 10 ^ (3 - (j + 1)) = X := by
        have h := hY.out
        have hc : j = 1 ∨ j = 2 := by omega
        rcases hc with rfl | rfl <;> (simp at h ⊢; omega)
      have HN := Lib.hid hn
      clear hn hY HX
      go_wp2_with fail
      go_round
      case rel => exact ⟨j + 1, 10 * Y, by omega, by omega, by go_num, by go_num, by omega, HN.out.1, HN.out.2⟩
      case measure => simp [intOf]; omega
    · have ej : j = 3 := by omega
      subst ej
      have hYX : Y = X := by have h := hY.out; simpa using h
      subst hYX
      have w1 : IntKind.i64.wrap Y = Y := IntWalk.i64_in _ (by omega)
      have w2 : IntKind.i64.wrap (-Y) = -Y := IntWalk.i64_in _ (by omega)
      have s1 := S1.out; have s2 := S2.out; have s5 := S5.out
      clear hY HX
      go_wp2_with fail
      have hbx : CBox ((w.alloc (.cells #[.string ⟨#[]⟩, .int .i64 0, .int .i64 0, .string ⟨#[]⟩] 72)).drewN nq) w.heap.size 72 #[.string ⟨#[]⟩, .int .i64 0, .int .i64 0, .string ⟨#[]⟩] := CBox.new _ _ _
      have hbw := below_dr (below_one w (.cells #[.string ⟨#[]⟩, .int .i64 0, .int .i64 0, .string ⟨#[]⟩] 72)) nq
      generalize ((w.alloc (.cells #[.string ⟨#[]⟩, .int .i64 0, .int .i64 0, .string ⟨#[]⟩] 72)).drewN nq) = W at hbx hbw ⊢
      obtain ⟨c0, c1, c2, c3, f0, f1, f2, f3⟩ := hbx.all4
      have HBX := Lib.hid hbx; have HBW := Lib.hid hbw
      clear hbx hbw
      go_region_with (fail)
      all_goals
        go_wp2_with fail
        have hgA := fun (a b c e : Value) => (g_set4 (g_refl W (some w.heap.size)) (B := w.heap.size) a b c e (.inr rfl))
        refine bodyPost_ret (results_pv (x := Sf.kv 2 (-Y) []) rfl _ _ rfl ((HBX.out.set4 _ _ _ _).drew)) rfl ?_
        exact ⟨rfl, (HBW.out.grown (hgA _ _ _ _) HBW.out.size (fun k hk => by cases hk; exact Nat.le_refl _)).drew⟩
end Go.Proofs.YtgddmihojladfaaGreatDoor

/- The contract of the document's number. (Written by mkn.py.) -/

namespace Go.Proofs.YtgddmihojladfaaGreatDoor
open Go.RowKit

set_option maxHeartbeats 4000000 in
set_option maxRecDepth 20000 in
theorem rnumber_pos (T : ByteArray) (w : World) (hs : T.size ≤ 1000000) (hp : 0 < T.size) (hq : ((T[0].toNat : Int) == 45) = false) : Calls Tryz.prog 88 #[.string T] w fun e w' => e = .returned (rvalV (Sf.num 1 T.data.toList)) ∧ Below w.heap.size w w' := by
  obtain ⟨d, hd⟩ : ∃ d, Sf.tw Oct.digitI T.data.toList = d := ⟨_, rfl⟩
  obtain ⟨r, hr⟩ : ∃ r, Sf.dw Oct.digitI T.data.toList = r := ⟨_, rfl⟩
  have hdr : d ++ r = T.data.toList := by rw [← hd, ← hr]; exact tw_dw _ _
  have had : Oct.allB Oct.digitI d = true := by rw [← hd]; exact Sf.tw_all _ _
  have H1 : Hid (∀ W : World, Calls Tryz.prog 104 #[.string T] W fun e w' => e = .returned (.int .i64 d.length) ∧ W = w') := Lib.hid (fun W => by have := rdigits_of T W (by unfold maxLen; omega); rw [hd] at this; exact this)
  have hnum : Sf.num 1 T.data.toList = if d.length = 0 ∨ 15 < d.length then none else if r.headD 0 = 46 then (if 12 < d.length ∨ (Sf.tw Oct.digitI (r.drop 1)).length < 1 ∨ 3 < (Sf.tw Oct.digitI (r.drop 1)).length then none else some (Sf.kv 2 (1 * (Oct.val (d ++ Sf.tw Oct.digitI (r.drop 1)) * 10 ^ (3 - (Sf.tw Oct.digitI (r.drop 1)).length))) [], Sf.dw Oct.digitI (r.drop 1))) else some (Sf.kv 1 (1 * Oct.val d) [], r) := by unfold Sf.num; rw [hd, hr]
  have HSZ := Lib.hid (size_of hdr)
  clear hd hr
  by_cases hz : d.length = 0 ∨ 15 < d.length
  · rw [hnum, if_pos hz]
    clear hnum had hdr
    go_enter Tryz.func88, Tryz.ntmps88
    go_wp2_with fail
    refine (H1.out _).mono ?_
    rintro e w1 ⟨rfl, rfl⟩
    rcases hz with hz | hz
    · rw [hz]
      go_wp2_with fail
      refine bodyPost_ret (results_pv (x := ⟨[], 0, 0, []⟩) rfl _ _ rfl (CBox.new _ _ _)) rfl ?_
      exact ⟨rfl, below_one _ _⟩
    · have hz' : (15 : Int) < (d.length : Int) := by omega
      have hz2 : ((d.length : Int) == 0) = false := by simp; intro h; rw [h] at hz; simp at hz
      go_wp2_with fail
      refine bodyPost_ret (results_pv (x := ⟨[], 0, 0, []⟩) rfl _ _ rfl (CBox.new _ _ _)) rfl ?_
      exact ⟨rfl, below_one _ _⟩
  · rw [hnum, if_neg hz]
    have hz1 : ((d.length : Int) == 0) = false := by simp; intro h; rw [h] at hz; simp at hz
    have hz2 : (d.length : Int) ≤ 15 := by omega
    have hv0 := Oct.val_nonneg _ had
    have hv1 : Oct.val d ≤ 999999999999999 := by have := Sf.val_bound had 15 (by omega); omega
    by_cases hr46 : r.headD 0 = 46
    · rw [if_pos hr46]
      obtain ⟨q, rfl⟩ : ∃ q, r = 46 :: q := by
        cases r with
        | nil => cases hr46
        | cons c q => exact ⟨q, by rw [show c = 46 from hr46]⟩
      rw [show (46 :: q : List UInt8).drop 1 = q from rfl]
      obtain ⟨d2, hd2⟩ : ∃ d2, Sf.tw Oct.digitI q = d2 := ⟨_, rfl⟩
      obtain ⟨r2, hr2⟩ : ∃ r2, Sf.dw Oct.digitI q = r2 := ⟨_, rfl⟩
      have had2 : Oct.allB Oct.digitI d2 = true := by rw [← hd2]; exact Sf.tw_all _ _
      have hdr2 : d2 ++ r2 = q := by rw [← hd2, ← hr2]; exact tw_dw _ _
      have hql : q.length ≤ 1000000 := by have := HSZ.out; simp at this; omega
      have H3 : Hid (∀ W : World, Calls Tryz.prog 104 #[.string (bA q)] W fun e w' => e = .returned (.int .i64 d2.length) ∧ W = w') := Lib.hid (fun W => by have := rdigits_of (bA q) W (by rw [bA_size]; unfold maxLen; omega); rw [show (bA q).data.toList = q from rfl, hd2] at this; exact this)
      rw [hd2, hr2]
      have hlt : d.length < T.size := by rw [HSZ.out]; simp
      have hdl' : ((d.length : Int) == (T.size : Int)) = false := by simp; omega
      have hat : (((T[d.length]'hlt).toNat : Int) != 46) = false := by rw [at_r' hdr hlt]; rfl
      have hx1 := ext_l' hdr
      have hx3 := ext_s' hdr
      clear hnum hr46 hd2 hr2
      by_cases hb : 12 < d.length ∨ d2.length < 1 ∨ 3 < d2.length
      · rw [if_pos hb]
        clear had had2 hdr hdr2 hz
        by_cases b1 : 12 < d.length
        · have b1' : (12 : Int) < (d.length : Int) := by omega
          clear hb
          go_enter Tryz.func88, Tryz.ntmps88
          go_wp2_with fail
          refine (H1.out _).mono ?_
          rintro e w1 ⟨rfl, rfl⟩
          go_wp2_with fail
          refine (H3.out _).mono ?_
          rintro e w2 ⟨rfl, rfl⟩
          go_wp2_with fail
          refine bodyPost_ret (results_pv (x := ⟨[], 0, 0, []⟩) rfl _ _ rfl (CBox.new _ _ _)) rfl ?_
          exact ⟨rfl, below_one _ _⟩
        · have b1' : (d.length : Int) ≤ 12 := by omega
          by_cases b2 : d2.length < 1
          · have b2' : (d2.length : Int) < 1 := by omega
            clear hb
            go_enter Tryz.func88, Tryz.ntmps88
            go_wp2_with fail
            refine (H1.out _).mono ?_
            rintro e w1 ⟨rfl, rfl⟩
            go_wp2_with fail
            refine (H3.out _).mono ?_
            rintro e w2 ⟨rfl, rfl⟩
            go_wp2_with fail
            refine bodyPost_ret (results_pv (x := ⟨[], 0, 0, []⟩) rfl _ _ rfl (CBox.new _ _ _)) rfl ?_
            exact ⟨rfl, below_one _ _⟩
          · have b2' : (1 : Int) ≤ (d2.length : Int) := by omega
            have b3' : (3 : Int) < (d2.length : Int) := by omega
            clear hb
            go_enter Tryz.func88, Tryz.ntmps88
            go_wp2_with fail
            refine (H1.out _).mono ?_
            rintro e w1 ⟨rfl, rfl⟩
            go_wp2_with fail
            refine (H3.out _).mono ?_
            rintro e w2 ⟨rfl, rfl⟩
            go_wp2_with fail
            refine bodyPost_ret (results_pv (x := ⟨[], 0, 0, []⟩) rfl _ _ rfl (CBox.new _ _ _)) rfl ?_
            exact ⟨rfl, below_one _ _⟩
      · rw [if_neg hb]
        exact rdec_pos T w hs hp hq d q d2 r2 hdr hdr2 had had2 (by omega) (by omega) (by omega) (by omega) H1 H3
    · rw [if_neg hr46]
      have H2 : Hid (∀ W : World, Calls Tryz.prog 105 #[.string (bA d)] W fun e w' => e = .returned (.int .i64 (Oct.val d)) ∧ W = w') := Lib.hid (fun W => rtold_any (bA d) W had (by rw [bA_size]; omega))
      obtain ⟨V, hV⟩ : ∃ V, Oct.val d = V := ⟨_, rfl⟩
      rw [hV] at H2 hv0 hv1 ⊢
      rw [show (1 : Int) * V = V by omega]
      have hw1 : IntKind.i64.wrap V = V := IntWalk.i64_in _ (by omega)
      have hw2 : IntKind.i64.wrap (-V) = -V := IntWalk.i64_in _ (by omega)
      clear hnum had hV
      cases r with
      | nil =>
        have hx1 := ext_l' hdr
        have hx2 := ext_r' hdr
        have hdl' : ((d.length : Int) == (T.size : Int)) = true := by rw [HSZ.out]; simp
        have hle : d.length ≤ T.size := by rw [HSZ.out]; simp
        clear hdr hr46 hz
        go_enter Tryz.func88, Tryz.ntmps88
        go_wp2_with fail
        refine (H1.out _).mono ?_
        rintro e w1 ⟨rfl, rfl⟩
        go_wp2_with fail
        go_region_with (first | (go_at_call 105; refine (H2.out _).mono ?_; rintro e w' ⟨rfl, rfl⟩))
        all_goals
          go_wp2_with fail
          refine bodyPost_ret (results_pv (x := Sf.kv 1 V []) rfl _ _ rfl ((CBox.new _ _ _).drew)) rfl ?_
          exact ⟨rfl, (below_one _ _).drew⟩
      | cons c r =>
        have hx1 := ext_l' hdr
        have hx2 := ext_r' hdr
        have hlt : d.length < T.size := by rw [HSZ.out]; simp
        have hdl' : ((d.length : Int) == (T.size : Int)) = false := by simp; omega
        have hat : (((T[d.length]'hlt).toNat : Int) != 46) = true := by rw [at_r' hdr hlt]; simpa using byte_off (d := 46) hr46
        clear hdr hr46 hz
        go_enter Tryz.func88, Tryz.ntmps88
        go_wp2_with fail
        refine (H1.out _).mono ?_
        rintro e w1 ⟨rfl, rfl⟩
        go_wp2_with fail
        go_region_with (first | (go_at_call 105; refine (H2.out _).mono ?_; rintro e w' ⟨rfl, rfl⟩))
        all_goals
          go_wp2_with fail
          refine bodyPost_ret (results_pv (x := Sf.kv 1 V []) rfl _ _ rfl ((CBox.new _ _ _).drew)) rfl ?_
          exact ⟨rfl, (below_one _ _).drew⟩
set_option maxHeartbeats 4000000 in
set_option maxRecDepth 20000 in
theorem rnumber_neg (S T : ByteArray) (w : World) (hS : S.size ≤ 1000000) (hp : 0 < S.size) (hq : ((S[0].toNat : Int) == 45) = true) (hT : S.extract 1 S.size = T) (hs : T.size ≤ 1000000) : Calls Tryz.prog 88 #[.string S] w fun e w' => e = .returned (rvalV (Sf.num (-1) T.data.toList)) ∧ Below w.heap.size w w' := by
  obtain ⟨d, hd⟩ : ∃ d, Sf.tw Oct.digitI T.data.toList = d := ⟨_, rfl⟩
  obtain ⟨r, hr⟩ : ∃ r, Sf.dw Oct.digitI T.data.toList = r := ⟨_, rfl⟩
  have hdr : d ++ r = T.data.toList := by rw [← hd, ← hr]; exact tw_dw _ _
  have had : Oct.allB Oct.digitI d = true := by rw [← hd]; exact Sf.tw_all _ _
  have H1 : Hid (∀ W : World, Calls Tryz.prog 104 #[.string T] W fun e w' => e = .returned (.int .i64 d.length) ∧ W = w') := Lib.hid (fun W => by have := rdigits_of T W (by unfold maxLen; omega); rw [hd] at this; exact this)
  have hnum : Sf.num (-1) T.data.toList = if d.length = 0 ∨ 15 < d.length then none else if r.headD 0 = 46 then (if 12 < d.length ∨ (Sf.tw Oct.digitI (r.drop 1)).length < 1 ∨ 3 < (Sf.tw Oct.digitI (r.drop 1)).length then none else some (Sf.kv 2 ((-1) * (Oct.val (d ++ Sf.tw Oct.digitI (r.drop 1)) * 10 ^ (3 - (Sf.tw Oct.digitI (r.drop 1)).length))) [], Sf.dw Oct.digitI (r.drop 1))) else some (Sf.kv 1 ((-1) * Oct.val d) [], r) := by unfold Sf.num; rw [hd, hr]
  have HSZ := Lib.hid (size_of hdr)
  clear hd hr
  by_cases hz : d.length = 0 ∨ 15 < d.length
  · rw [hnum, if_pos hz]
    clear hnum had hdr
    go_enter Tryz.func88, Tryz.ntmps88
    go_wp2_with fail
    refine (H1.out _).mono ?_
    rintro e w1 ⟨rfl, rfl⟩
    rcases hz with hz | hz
    · rw [hz]
      go_wp2_with fail
      refine bodyPost_ret (results_pv (x := ⟨[], 0, 0, []⟩) rfl _ _ rfl (CBox.new _ _ _)) rfl ?_
      exact ⟨rfl, below_one _ _⟩
    · have hz' : (15 : Int) < (d.length : Int) := by omega
      have hz2 : ((d.length : Int) == 0) = false := by simp; intro h; rw [h] at hz; simp at hz
      go_wp2_with fail
      refine bodyPost_ret (results_pv (x := ⟨[], 0, 0, []⟩) rfl _ _ rfl (CBox.new _ _ _)) rfl ?_
      exact ⟨rfl, below_one _ _⟩
  · rw [hnum, if_neg hz]
    have hz1 : ((d.length : Int) == 0) = false := by simp; intro h; rw [h] at hz; simp at hz
    have hz2 : (d.length : Int) ≤ 15 := by omega
    have hv0 := Oct.val_nonneg _ had
    have hv1 : Oct.val d ≤ 999999999999999 := by have := Sf.val_bound had 15 (by omega); omega
    by_cases hr46 : r.headD 0 = 46
    · rw [if_pos hr46]
      obtain ⟨q, rfl⟩ : ∃ q, r = 46 :: q := by
        cases r with
        | nil => cases hr46
        | cons c q => exact ⟨q, by rw [show c = 46 from hr46]⟩
      rw [show (46 :: q : List UInt8).drop 1 = q from rfl]
      obtain ⟨d2, hd2⟩ : ∃ d2, Sf.tw Oct.digitI q = d2 := ⟨_, rfl⟩
      obtain ⟨r2, hr2⟩ : ∃ r2, Sf.dw Oct.digitI q = r2 := ⟨_, rfl⟩
      have had2 : Oct.allB Oct.digitI d2 = true := by rw [← hd2]; exact Sf.tw_all _ _
      have hdr2 : d2 ++ r2 = q := by rw [← hd2, ← hr2]; exact tw_dw _ _
      have hql : q.length ≤ 1000000 := by have := HSZ.out; simp at this; omega
      have H3 : Hid (∀ W : World, Calls Tryz.prog 104 #[.string (bA q)] W fun e w' => e = .returned (.int .i64 d2.length) ∧ W = w') := Lib.hid (fun W => by have := rdigits_of (bA q) W (by rw [bA_size]; unfold maxLen; omega); rw [show (bA q).data.toList = q from rfl, hd2] at this; exact this)
      rw [hd2, hr2]
      have hlt : d.length < T.size := by rw [HSZ.out]; simp
      have hdl' : ((d.length : Int) == (T.size : Int)) = false := by simp; omega
      have hat : (((T[d.length]'hlt).toNat : Int) != 46) = false := by rw [at_r' hdr hlt]; rfl
      have hx1 := ext_l' hdr
      have hx3 := ext_s' hdr
      clear hnum hr46 hd2 hr2
      by_cases hb : 12 < d.length ∨ d2.length < 1 ∨ 3 < d2.length
      · rw [if_pos hb]
        clear had had2 hdr hdr2 hz
        by_cases b1 : 12 < d.length
        · have b1' : (12 : Int) < (d.length : Int) := by omega
          clear hb
          go_enter Tryz.func88, Tryz.ntmps88
          go_wp2_with fail
          refine (H1.out _).mono ?_
          rintro e w1 ⟨rfl, rfl⟩
          go_wp2_with fail
          refine (H3.out _).mono ?_
          rintro e w2 ⟨rfl, rfl⟩
          go_wp2_with fail
          refine bodyPost_ret (results_pv (x := ⟨[], 0, 0, []⟩) rfl _ _ rfl (CBox.new _ _ _)) rfl ?_
          exact ⟨rfl, below_one _ _⟩
        · have b1' : (d.length : Int) ≤ 12 := by omega
          by_cases b2 : d2.length < 1
          · have b2' : (d2.length : Int) < 1 := by omega
            clear hb
            go_enter Tryz.func88, Tryz.ntmps88
            go_wp2_with fail
            refine (H1.out _).mono ?_
            rintro e w1 ⟨rfl, rfl⟩
            go_wp2_with fail
            refine (H3.out _).mono ?_
            rintro e w2 ⟨rfl, rfl⟩
            go_wp2_with fail
            refine bodyPost_ret (results_pv (x := ⟨[], 0, 0, []⟩) rfl _ _ rfl (CBox.new _ _ _)) rfl ?_
            exact ⟨rfl, below_one _ _⟩
          · have b2' : (1 : Int) ≤ (d2.length : Int) := by omega
            have b3' : (3 : Int) < (d2.length : Int) := by omega
            clear hb
            go_enter Tryz.func88, Tryz.ntmps88
            go_wp2_with fail
            refine (H1.out _).mono ?_
            rintro e w1 ⟨rfl, rfl⟩
            go_wp2_with fail
            refine (H3.out _).mono ?_
            rintro e w2 ⟨rfl, rfl⟩
            go_wp2_with fail
            refine bodyPost_ret (results_pv (x := ⟨[], 0, 0, []⟩) rfl _ _ rfl (CBox.new _ _ _)) rfl ?_
            exact ⟨rfl, below_one _ _⟩
      · rw [if_neg hb]
        exact rdec_neg S T w hS hp hq hT hs d q d2 r2 hdr hdr2 had had2 (by omega) (by omega) (by omega) (by omega) H1 H3
    · rw [if_neg hr46]
      have H2 : Hid (∀ W : World, Calls Tryz.prog 105 #[.string (bA d)] W fun e w' => e = .returned (.int .i64 (Oct.val d)) ∧ W = w') := Lib.hid (fun W => rtold_any (bA d) W had (by rw [bA_size]; omega))
      obtain ⟨V, hV⟩ : ∃ V, Oct.val d = V := ⟨_, rfl⟩
      rw [hV] at H2 hv0 hv1 ⊢
      rw [show (-1 : Int) * V = -V by omega]
      have hw1 : IntKind.i64.wrap V = V := IntWalk.i64_in _ (by omega)
      have hw2 : IntKind.i64.wrap (-V) = -V := IntWalk.i64_in _ (by omega)
      clear hnum had hV
      cases r with
      | nil =>
        have hx1 := ext_l' hdr
        have hx2 := ext_r' hdr
        have hdl' : ((d.length : Int) == (T.size : Int)) = true := by rw [HSZ.out]; simp
        have hle : d.length ≤ T.size := by rw [HSZ.out]; simp
        clear hdr hr46 hz
        go_enter Tryz.func88, Tryz.ntmps88
        go_wp2_with fail
        refine (H1.out _).mono ?_
        rintro e w1 ⟨rfl, rfl⟩
        go_wp2_with fail
        go_region_with (first | (go_at_call 105; refine (H2.out _).mono ?_; rintro e w' ⟨rfl, rfl⟩))
        all_goals
          go_wp2_with fail
          refine bodyPost_ret (results_pv (x := Sf.kv 1 (-V) []) rfl _ _ rfl ((CBox.new _ _ _).drew)) rfl ?_
          exact ⟨rfl, (below_one _ _).drew⟩
      | cons c r =>
        have hx1 := ext_l' hdr
        have hx2 := ext_r' hdr
        have hlt : d.length < T.size := by rw [HSZ.out]; simp
        have hdl' : ((d.length : Int) == (T.size : Int)) = false := by simp; omega
        have hat : (((T[d.length]'hlt).toNat : Int) != 46) = true := by rw [at_r' hdr hlt]; simpa using byte_off (d := 46) hr46
        clear hdr hr46 hz
        go_enter Tryz.func88, Tryz.ntmps88
        go_wp2_with fail
        refine (H1.out _).mono ?_
        rintro e w1 ⟨rfl, rfl⟩
        go_wp2_with fail
        go_region_with (first | (go_at_call 105; refine (H2.out _).mono ?_; rintro e w' ⟨rfl, rfl⟩))
        all_goals
          go_wp2_with fail
          refine bodyPost_ret (results_pv (x := Sf.kv 1 (-V) []) rfl _ _ rfl ((CBox.new _ _ _).drew)) rfl ?_
          exact ⟨rfl, (below_one _ _).drew⟩
end Go.Proofs.YtgddmihojladfaaGreatDoor
