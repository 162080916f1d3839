/- The contracts of the document's Trim, Key, told. -/
import Derived.Test.YtgddmihojladfaaGreatDoorSfRef1
import Derived.OwnWalk
import Derived.Deep.QuietTactic
import Derived.BigQuiet
namespace Go.Proofs.YtgddmihojladfaaGreatDoor
open Go.RowKit

theorem last_bA (s : List UInt8) (c : UInt8) (h : s.length < (bA (s ++ [c])).size) : (bA (s ++ [c]))[s.length]'h = c := by
  show (s ++ [c]).toArray[s.length]'_ = c
  simp
theorem init_bA (s : List UInt8) (c : UInt8) : (bA (s ++ [c])).extract 0 s.length = bA s := by rw [Byt.take_ext]; simp
def trimR (s : List UInt8) : List UInt8 := (s.reverse.dropWhile fun b => b == 32).reverse
theorem trimR_yes (s : List UInt8) : trimR (s ++ [32]) = trimR s := by unfold trimR; rw [List.reverse_append]; rfl
theorem trimR_no (s : List UInt8) {c : UInt8} (h : c ≠ 32) : trimR (s ++ [c]) = s ++ [c] := by
  unfold trimR
  rw [List.reverse_append, show [c].reverse = [c] from rfl, List.cons_append, List.dropWhile_cons_of_neg (by simpa using h)]
  simp
set_option maxHeartbeats 1000000 in
theorem strim_any (s : List UInt8) (w : World) (hs : s.length ≤ 1000000) : Calls Tryz.prog 56 #[.string (bA s)] w fun e w' => e = .returned (.string (bA (Sf.trimS s))) ∧ w = w' := by
  have H := Lib.hid (sblank_any s w)
  have hbl : (Sf.blk s).length ≤ 1000000 := Nat.le_trans (List.dropWhile_sublist _).length_le hs
  obtain ⟨t, ht⟩ : ∃ t, Sf.blk s = t := ⟨_, rfl⟩
  obtain ⟨B, hB⟩ : ∃ B, Sf.trimS s = B := ⟨_, rfl⟩
  have HB : Hid (trimR t = B) := Lib.hid (by rw [← hB, ← ht]; rfl)
  rw [ht] at H hbl
  rw [hB]
  clear hB ht
  go_enter Tryz.func56, Tryz.ntmps56
  go_wp2_with fail
  refine H.out.mono ?_
  rintro e w1 ⟨rfl, rfl⟩
  go_wp2_with fail
  go_loop [0] (fun v => ∃ r : List UInt8, v = .string (bA r) ∧ r.length ≤ 1000000 ∧ Hid (trimR r = B)) (fun v => (Byt.sOf v).size)
  case atStart => exact ⟨t, rfl, hbl, HB⟩
  case round =>
    obtain ⟨r, rfl, hrl, hr⟩ := hrel
    clear HB H
    rcases List.eq_nil_or_concat r with rfl | ⟨q, c, rfl⟩
    · have : B = [] := hr.out.symm
      subst this
      go_wp2_with fail
      go_ret
      exact ⟨rfl, rfl⟩
    · rw [List.concat_eq_append] at hrl hr ⊢
      have hsz : (bA (q ++ [c])).size = q.length + 1 := by simp [bA_size]
      have HX := Lib.hid (init_bA q c)
      have hq : q.length ≤ 1000000 := by simp at hrl; omega
      have HL := Lib.hid (last_bA q c)
      obtain ⟨S, hS⟩ : ∃ S, bA (q ++ [c]) = S := ⟨_, rfl⟩
      rw [hS] at hsz HX HL ⊢
      have hp : (0 : Int) < (S.size : Int) := by omega
      have hlt : S.size - 1 < S.size := by omega
      have hto : ((S.size : Int) - 1).toNat = S.size - 1 := by omega
      have hge : (0 : Int) ≤ (S.size : Int) - 1 := by omega
      have hle : (S.size : Int) - 1 ≤ (S.size : Int) := by omega
      have hlast : S[S.size - 1]'hlt = c := by have := HL.out (by omega); simpa [hsz] using this
      have hszb : S.size ≤ 1000001 := by omega
      have HSZ := Lib.hid hsz
      clear hsz
      by_cases hc : c = 32
      · subst hc
        have h0 : (((S[S.size - 1]'hlt).toNat : Int) == 32) = true := by rw [hlast]; rfl
        have H2 : Hid (trimR q = B) := Lib.hid (by rw [← hr.out, trimR_yes])
        clear hr hlast HL
        go_wp2_with fail
        go_round
        case rel => exact ⟨q, by rw [show S.size - 1 = q.length by have := HSZ.out; omega, HX.out], hq, H2⟩
        case measure => simp [Byt.sOf]; omega
      · have h0 : (((S[S.size - 1]'hlt).toNat : Int) == 32) = false := by rw [hlast]; exact byte_off hc
        have hb : B = q ++ [c] := by rw [← hr.out, trimR_no q hc]
        have HBS : Hid (bA B = S) := Lib.hid (by rw [hb, hS])
        clear hr hlast HL hS hb
        go_wp2_with fail
        go_ret
        refine ⟨?_, rfl⟩
        rw [HBS.out]
        rfl

theorem small_one (c : Int) : smallI c true = Sf.key1I c := by simp [smallI]
theorem small_two (c : Int) : smallI c false = Sf.keyI c := by simp [smallI, Sf.keyI]
theorem keyI_of {c : Int} (h : Sf.key1I c = true) : Sf.keyI c = true := by simp [Sf.keyI, h]
/-- What Key answers. -/
def keyV (o : Option (List UInt8 × List UInt8)) : Value := match o with | some (k, r) => .tuple #[.string (bA k), .string (bA r), .int .i64 0] | none => .tuple #[.string ⟨#[]⟩, .string ⟨#[]⟩, .int .i64 50]
set_option maxHeartbeats 2000000 in
theorem rkey_any (s : List UInt8) (w : World) (hs : s.length ≤ 1000000) : Calls Tryz.prog 92 #[.string (bA s)] w fun e w' => e = .returned (keyV (Sf.keyOf s)) ∧ ∃ q, w' = w.drewN q := by
  cases s with
  | nil =>
    go_enter Tryz.func92, Tryz.ntmps92
    go_wp2_with fail
    go_loop [5] (fun v => v = .int .i64 0) (fun _ => 0)
    case atStart => rfl
    case round =>
      subst hrel
      go_wp2_with fail
      go_ret3
      exact ⟨rfl, 0, rfl⟩
  | cons c r =>
    obtain ⟨S, hS⟩ : ∃ S, bA (c :: r) = S := ⟨_, rfl⟩
    have hsz : S.size = r.length + 1 := by rw [← hS]; rfl
    have hsl : S.data.toList = c :: r := by rw [← hS]
    have h0 : (S[0]'(by omega)) = c := by subst hS; rfl
    rw [hS]
    simp only [List.length_cons] at hs
    have hb : S.size ≤ 1000001 := by omega
    have hp : 0 < S.size := by omega
    have HR1 := Lib.hid (fun (x : Int) (W : World) => rsmall_any x true W)
    have HR2 := Lib.hid (fun (x : Int) (W : World) => rsmall_any x false W)
    simp only [small_one] at HR1
    simp only [small_two] at HR2
    cases hk : Sf.key1I c.toNat with
    | false =>
      have he : Sf.keyOf (c :: r) = none := by simp [Sf.keyOf, hk]
      rw [he]
      have H1 : Hid (∀ W : World, Calls Tryz.prog 107 #[.int .u8 ((S[0]'(by omega)).toNat : Int), .bool true] W fun e w' => e = .returned (.bool false) ∧ W = w') := Lib.hid (fun W => by have := HR1.out ((S[0]'(by omega)).toNat : Int) W; rw [h0, hk] at this; rw [h0]; exact this)
      clear hS hsz hsl h0 he hk
      go_enter Tryz.func92, Tryz.ntmps92
      go_wp2_with fail
      go_loop [5] (fun v => v = .int .i64 0) (fun _ => 0)
      case atStart => rfl
      case round =>
        subst hrel
        go_wp2_with (go_at_call 107; refine (H1.out _).mono ?_; rintro e w' ⟨rfl, rfl⟩)
        go_ret3
        exact ⟨rfl, 0, rfl⟩
    | true =>
      have he : Sf.keyOf (c :: r) = some (c :: Sf.tw Sf.keyI r, Sf.dw Sf.keyI r) := by simp [Sf.keyOf, hk]
      have hkc := keyI_of hk
      have htw : Sf.tw Sf.keyI (c :: r) = c :: Sf.tw Sf.keyI r := List.takeWhile_cons_of_pos (by exact hkc)
      have hdw : Sf.dw Sf.keyI (c :: r) = Sf.dw Sf.keyI r := List.dropWhile_cons_of_pos (by exact hkc)
      rw [he, ← htw, ← hdw, ← hsl]
      have H1 : Hid (∀ W : World, Calls Tryz.prog 107 #[.int .u8 ((S[0]'(by omega)).toNat : Int), .bool true] W fun e w' => e = .returned (.bool true) ∧ W = w') := Lib.hid (fun W => by have := HR1.out ((S[0]'(by omega)).toNat : Int) W; rw [h0, hk] at this; rw [h0]; exact this)
      have H0 : Hid (Oct.allB Sf.keyI (S.data.toList.take (0 + 1)) = true) := Lib.hid (Oct.allB_next _ S 0 hp rfl (by rw [h0]; exact hkc))
      obtain ⟨kk, hkk⟩ : ∃ kk, Sf.tw Sf.keyI S.data.toList = kk := ⟨_, rfl⟩
      obtain ⟨rr, hrr⟩ : ∃ rr, Sf.dw Sf.keyI S.data.toList = rr := ⟨_, rfl⟩
      rw [hkk, hrr]
      have HKK := Lib.hid hkk; have HRR := Lib.hid hrr
      clear hS hsz hsl h0 he hk htw hdw hkc HR1 hkk hrr
      unfold keyV
      go_enter Tryz.func92, Tryz.ntmps92
      go_wp2_with fail
      go_loop [5] (fun v => ∃ k : Nat, k ≤ S.size ∧ v = .int .i64 k ∧ Hid (Oct.allB Sf.keyI (S.data.toList.take k) = true)) (fun v => S.size - (intOf v).toNat)
      case atStart => exact ⟨0, Nat.zero_le _, rfl, rfl⟩
      case round =>
        obtain ⟨k, hk, rfl, hin⟩ := hrel
        by_cases hk0 : k = 0
        · subst hk0
          go_wp2_with (go_at_call 107; refine (H1.out _).mono ?_; rintro e w' ⟨rfl, rfl⟩)
          go_round
          case rel => exact ⟨1, by omega, by go_num, H0⟩
          case measure => simp [intOf]; omega
        · have hz : ((k : Int) == 0) = false := by simp; exact hk0
          by_cases hlt : k < S.size
          · cases hl : Sf.keyI S[k].toNat with
            | true =>
              have HL : Hid (∀ W : World, Calls Tryz.prog 107 #[.int .u8 (S[k].toNat : Int), .bool false] W fun e w' => e = .returned (.bool true) ∧ W = w') := Lib.hid (fun W => by have := HR2.out (S[k].toNat : Int) W; rw [hl] at this; exact this)
              have HN := Lib.hid hl
              clear hl
              go_wp2_with (go_at_call 107; refine (HL.out _).mono ?_; rintro e w' ⟨rfl, rfl⟩)
              go_round
              case rel => exact ⟨k + 1, by omega, by go_num, Oct.allB_next _ S k hlt hin.out HN.out⟩
              case measure => simp [intOf]; omega
            | false =>
              have HL : Hid (∀ W : World, Calls Tryz.prog 107 #[.int .u8 (S[k].toNat : Int), .bool false] W fun e w' => e = .returned (.bool false) ∧ W = w') := Lib.hid (fun W => by have := HR2.out (S[k].toNat : Int) W; rw [hl] at this; exact this)
              have hh := tw_hit _ S k hlt hin.out hl
              have HE1 : Hid (S.extract 0 k = bA kk) := Lib.hid (by rw [Byt.take_ext, ← hh.1, HKK.out])
              have HE2 : Hid (S.extract k S.size = bA rr) := Lib.hid (by rw [Byt.drop_ext, ← hh.2, HRR.out])
              clear hl hh
              go_wp2_with (go_at_call 107; refine (HL.out _).mono ?_; rintro e w' ⟨rfl, rfl⟩)
              go_quiet (fail)
              go_wp2_with fail
              go_ret3
              refine ⟨?_, nq, rfl⟩
              rw [← HE1.out, ← HE2.out]
              rfl
          · have hh := tw_end _ S k (by omega) hin.out
            have ek : k = S.size := by omega
            subst ek
            have HE1 : Hid (S = bA kk) := Lib.hid (by rw [← HKK.out, hh.1])
            have HE2 : Hid (ByteArray.empty = bA rr) := Lib.hid (by rw [← HRR.out, hh.2]; rfl)
            clear hh
            go_wp2_with fail
            go_quiet (fail)
            go_wp2_with fail
            go_ret3
            refine ⟨?_, nq, rfl⟩
            have e1 := HE1.out
            have e2 := HE2.out
            rw [← e2, ← e1]
            rfl

theorem told_next (s : ByteArray) (k : Nat) (h : k < s.size) : Oct.val (s.data.toList.take (k + 1)) = 10 * Oct.val (s.data.toList.take k) + ((s[k].toNat : Int) - 48) := by
  have h' : k < s.data.toList.length := by simpa using h
  rw [List.take_succ_eq_append_getElem h', Oct.val_snoc]; rfl
theorem dig_at (s : ByteArray) (hd : Oct.allB Oct.digitI s.data.toList = true) (k : Nat) (h : k < s.size) : 48 ≤ s[k].toNat ∧ s[k].toNat ≤ 57 := by
  have h' : k < s.data.toList.length := by simpa using h
  have := List.all_eq_true.1 hd _ (List.getElem_mem h')
  have h2 : Oct.digitI (s[k].toNat : Int) = true := this
  simp [Oct.digitI] at h2
  omega
theorem told_small (s : ByteArray) (hd : Oct.allB Oct.digitI s.data.toList = true) (hl : s.size ≤ 18) (k : Nat) : 0 ≤ Oct.val (s.data.toList.take k) ∧ Oct.val (s.data.toList.take k) ≤ 999999999999999999 := by
  have ht : Oct.allB Oct.digitI (s.data.toList.take k) = true := by
    rw [Oct.allB, List.all_eq_true] at hd ⊢
    exact fun x hx => hd x (List.mem_of_mem_take hx)
  have h1 := Oct.val_nonneg _ ht
  have h2 := Sf.val_bound ht 18 (by simp; omega)
  exact ⟨h1, by omega⟩
set_option maxHeartbeats 1000000 in
theorem rtold_any (s : ByteArray) (w : World) (hd : Oct.allB Oct.digitI s.data.toList = true) (hl : s.size ≤ 15) : Calls Tryz.prog 105 #[.string s] w fun e w' => e = .returned (.int .i64 (Oct.val s.data.toList)) ∧ w = w' := by
  have HD := Lib.hid (dig_at s hd)
  have HN := Lib.hid (told_next s)
  have HS := Lib.hid (told_small s hd (by omega))
  clear hd
  go_enter Tryz.func105, Tryz.ntmps105
  go_wp2_with fail
  go_loop [3, 4] (fun v i => ∃ k : Nat, k ≤ s.size ∧ i = .int .i64 k ∧ v = .int .i64 (Oct.val (s.data.toList.take k))) (fun _ i => s.size - (intOf i).toNat)
  case atStart => exact ⟨0, Nat.zero_le _, rfl, rfl⟩
  case round =>
    obtain ⟨k, hk, rfl, rfl⟩ := hrel
    by_cases hlt : k < s.size
    · obtain ⟨d0, d1⟩ := HD.out k hlt
      have hn := HN.out k hlt
      obtain ⟨s0, s1⟩ := HS.out k
      obtain ⟨t0, t1⟩ := HS.out (k + 1)
      obtain ⟨V, hV⟩ : ∃ V, Oct.val (s.data.toList.take k) = V := ⟨_, rfl⟩
      rw [hV] at hn s0 s1 ⊢
      rw [hn] at t0 t1
      have HNN := Lib.hid hn
      clear hV hn HD HS HN
      go_wp2_with fail
      go_round
      case rel => exact ⟨k + 1, by omega, by go_num, by rw [HNN.out]⟩
      case measure => simp [intOf]; omega
    · have e : s.data.toList.take k = s.data.toList := List.take_of_length_le (by simp; omega)
      rw [e]
      obtain ⟨V, hV⟩ : ∃ V, Oct.val s.data.toList = V := ⟨_, rfl⟩
      rw [hV]
      have HV := Lib.hid hV
      clear e hV HD HS HN
      go_wp2_with fail
      go_ret
      exact ⟨Oct.ret_int HV.out.symm, rfl⟩
end Go.Proofs.YtgddmihojladfaaGreatDoor
