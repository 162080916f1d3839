/- The contracts of the document's functions of one text: cut, trim, scheme, begins, fails, Own, Net. -/
import Derived.Test.YtehjnidggnfbfaaGreatDoorUrlpParse
namespace Go.Proofs.YtehjnidggnfbfaaGreatDoor
open Go.RowKit

def notIn (of : List UInt8) (c : Int) : Bool := !Oct.inI c of
/-- What stands ahead of the first one of some bytes, and from that on. -/
def rbef (of l : List UInt8) : List UInt8 := l.takeWhile fun b => notIn of b.toNat
def raft (of l : List UInt8) : List UInt8 := l.dropWhile fun b => notIn of b.toNat
theorem while_hit (p : Int → Bool) (s : ByteArray) (k : Nat) (h : k < s.size) (hi : Oct.allB p (s.data.toList.take k) = true) (hc : p s[k].toNat = false) :
    (s.data.toList.takeWhile fun b => p b.toNat) = s.data.toList.take k ∧ (s.data.toList.dropWhile fun b => p b.toNat) = s.data.toList.drop k := by
  have h' : k < s.data.toList.length := by simpa using h
  have ha : ∀ b ∈ s.data.toList.take k, p b.toNat = true := by simpa [Oct.allB] using hi
  have e := List.take_append_drop k s.data.toList
  have hd : s.data.toList.drop k = s[k] :: s.data.toList.drop (k + 1) := by rw [List.drop_eq_getElem_cons h']; rfl
  constructor
  · rw [← e, List.takeWhile_append_of_pos ha, hd, List.takeWhile_cons_of_neg (by rw [hc]; simp), List.append_nil, ← hd, e]
  · rw [← e, List.dropWhile_append_of_pos ha, hd, List.dropWhile_cons_of_neg (by rw [hc]; simp), ← hd, e]
theorem while_all (p : Int → Bool) (s : ByteArray) (k : Nat) (h : s.size ≤ k) (hi : Oct.allB p (s.data.toList.take k) = true) :
    (s.data.toList.takeWhile fun b => p b.toNat) = s.data.toList ∧ (s.data.toList.dropWhile fun b => p b.toNat) = [] := by
  rw [Oct.take_all s k h] at hi
  have ha : ∀ b ∈ s.data.toList, p b.toNat = true := List.all_eq_true.1 hi
  constructor
  · have := List.takeWhile_append_of_pos (l₁ := s.data.toList) (l₂ := []) ha
    simpa using this
  · have := List.dropWhile_append_of_pos (l₁ := s.data.toList) (l₂ := []) ha
    simpa using this
theorem cut_fin (of : List UInt8) (s : ByteArray) (k : Nat) (h : k < s.size) (hi : Oct.allB (notIn of) (s.data.toList.take k) = true) (hc : notIn of s[k].toNat = false) : s.extract 0 k = bA (rbef of s.data.toList) ∧ s.extract k s.size = bA (raft of s.data.toList) := by
  obtain ⟨h1, h2⟩ := while_hit (notIn of) s k h hi hc
  unfold rbef raft
  rw [h1, h2]
  exact ⟨by rw [Lib.extract_eq]; simp, by rw [Lib.extract_eq, List.take_of_length_le (by simp)]⟩
theorem cut_none (of : List UInt8) (s : ByteArray) (k : Nat) (h : s.size ≤ k) (hi : Oct.allB (notIn of) (s.data.toList.take k) = true) : rbef of s.data.toList = s.data.toList ∧ raft of s.data.toList = [] :=
  while_all (notIn of) s k h hi

set_option maxHeartbeats 1000000 in
theorem rcut_any (s of : ByteArray) (w : World) (hs : s.size ≤ maxLen) (ho : of.size ≤ maxLen) : Calls Tryz.prog 48 #[.string s, .string of] w fun e w' => e = .returned (.tuple #[.string (bA (rbef of.data.toList s.data.toList)), .string (bA (raft of.data.toList s.data.toList))]) ∧ Below w.heap.size w w' := by
  unfold maxLen at hs
  go_enter Tryz.func48, Tryz.ntmps48
  go_wp2
  go_loop [6] (fun i => ∃ k : Nat, k ≤ s.size ∧ i = .int .i64 k ∧ Hid (Oct.allB (notIn of.data.toList) (s.data.toList.take k) = true)) (fun i => s.size - (intOf i).toNat)
  case atStart => exact ⟨0, Nat.zero_le _, rfl, rfl⟩
  case round =>
    obtain ⟨k, hk, rfl, hin⟩ := hrel
    by_cases hlt : k < s.size
    · cases hl : Oct.inI s[k].toNat of.data.toList with
      | false =>
        have HN : Hid (notIn of.data.toList s[k].toNat = true) := by unfold notIn; rw [hl]; exact rfl
        go_wp2_with (go_at_call 73; refine (rin_any _ _ _ ho).mono ?_; rintro e w' ⟨rfl, rfl⟩)
        go_round
        case rel => exact ⟨k + 1, by omega, by go_num, Oct.allB_next _ s k hlt hin HN.out⟩
        case measure => simp [intOf]; omega
      | true =>
        have HN : Hid (notIn of.data.toList s[k].toNat = false) := by unfold notIn; rw [hl]; exact rfl
        go_wp2_with (go_at_call 73; refine (rin_any _ _ _ ho).mono ?_; rintro e w' ⟨rfl, rfl⟩)
        go_quiet (fail)
        go_wp2_with fail
        obtain ⟨f1, f2⟩ := cut_fin of.data.toList s k hlt hin HN.out
        go_ret2
        exact ⟨by rw [← f1, ← f2]; rfl, ⟨rfl, rfl, rfl, Nat.le_refl _, fun _ _ => rfl⟩⟩
    · go_wp2_with fail
      obtain ⟨f1, f2⟩ := cut_none of.data.toList s k (by omega) hin
      go_ret2
      exact ⟨by rw [f1, f2]; rfl, Below.refl _ _⟩

theorem dw_head (s : ByteArray) (h : 0 < s.size) : s.data.toList = s[0] :: (s.extract 1 s.size).data.toList := by
  have e := Oct.split_at s 0 h
  rw [drop_extract]
  simpa using e
theorem dw_last (s : ByteArray) (h : 0 < s.size) (h1 : s.size - 1 < s.size) : s.data.toList = (s.extract 0 (s.size - 1)).data.toList ++ [s[s.size - 1]] := by
  have h2 : s.size - 1 < s.data.toList.length := by simpa using h1
  have e : (s.extract 0 (s.size - 1)).data.toList = s.data.toList.take (s.size - 1) := by rw [Lib.extract_data]; simp
  rw [e]
  have := List.take_succ_eq_append_getElem h2
  rw [show s.size - 1 + 1 = s.size by omega, Oct.take_all s s.size (Nat.le_refl _)] at this
  exact this
theorem outer_int (b : UInt8) : Urp.outerB b = decide ((b.toNat : Int) ≤ 32) := by
  unfold Urp.outerB; rw [Bool.eq_iff_iff]; simp; omega
/-- Without what stands at the end. -/
def rtr (l : List UInt8) : List UInt8 := (l.reverse.dropWhile Urp.outerB).reverse
theorem tl_step (s : ByteArray) (h : 0 < s.size) (h32 : (s[0].toNat : Int) ≤ 32) : (s.extract 1 s.size).data.toList.dropWhile Urp.outerB = s.data.toList.dropWhile Urp.outerB := by
  rw [dw_head s h, List.dropWhile_cons_of_pos (by rw [outer_int]; exact decide_eq_true h32)]
theorem tl_stop (s : ByteArray) (h : 0 < s.size) (h32 : ¬ (s[0].toNat : Int) ≤ 32) : s.data.toList.dropWhile Urp.outerB = s.data.toList := by
  conv => lhs; rw [dw_head s h]
  rw [List.dropWhile_cons_of_neg (by rw [outer_int, decide_eq_false h32]; simp), ← dw_head s h]
theorem tr_step (s : ByteArray) (h : 0 < s.size) (h1 : s.size - 1 < s.size) (h32 : ((s[s.size - 1]'h1).toNat : Int) ≤ 32) : rtr (s.extract 0 (s.size - 1)).data.toList = rtr s.data.toList := by
  unfold rtr
  rw [dw_last s h h1, List.reverse_append]
  simp only [List.reverse_cons, List.reverse_nil, List.nil_append, List.singleton_append]
  rw [List.dropWhile_cons_of_pos (by rw [outer_int]; exact decide_eq_true h32)]
theorem tr_stop (s : ByteArray) (h : 0 < s.size) (h1 : s.size - 1 < s.size) (h32 : ¬ ((s[s.size - 1]'h1).toNat : Int) ≤ 32) : rtr s.data.toList = s.data.toList := by
  unfold rtr
  have e := dw_last s h h1
  conv => lhs; rw [e, List.reverse_append]
  simp only [List.reverse_cons, List.reverse_nil, List.nil_append, List.singleton_append]
  rw [List.dropWhile_cons_of_neg (by rw [outer_int, decide_eq_false h32]; simp)]
  simp only [List.reverse_cons, List.reverse_reverse]
  exact e.symm
theorem nil_of_size (s : ByteArray) (h : ¬ 0 < s.size) : s.data.toList = [] := by
  have e : s.data.toList.length = s.size := by simp
  exact List.length_eq_zero_iff.1 (by omega)
def sOf : Value → ByteArray | .string s => s | _ => ⟨#[]⟩
set_option maxHeartbeats 1000000 in
theorem rtrimU_any (s : ByteArray) (w : World) (hs : s.size ≤ maxLen) : Calls Tryz.prog 46 #[.string s] w fun e w' => e = .returned (.string (bA (Urp.trimU s.data.toList))) ∧ w = w' := by
  unfold maxLen at hs
  go_enter Tryz.func46, Tryz.ntmps46
  go_wp2
  go_loop [0] (fun v => ∃ t : ByteArray, v = .string t ∧ t.size ≤ s.size ∧ Hid (t.data.toList.dropWhile Urp.outerB = s.data.toList.dropWhile Urp.outerB)) (fun v => (sOf v).size)
  case atStart => exact ⟨s, rfl, Nat.le_refl _, rfl⟩
  case round =>
    obtain ⟨t, rfl, hts, hin⟩ := hrel
    by_cases h0 : 0 < t.size
    · by_cases h32 : (t[0].toNat : Int) ≤ 32
      · go_wp2
        go_round
        case rel => exact ⟨t.extract 1 t.size, rfl, by simp; omega, (tl_step t h0 h32).trans hin⟩
        case measure => simp [sOf]; omega
      · have HD : Hid (t.data.toList = s.data.toList.dropWhile Urp.outerB) := Lib.hid (by rw [← hin.out]; exact (tl_stop t h0 h32).symm)
        go_wp2
        go_loop [0] (fun v => ∃ z : ByteArray, v = .string z ∧ z.size ≤ s.size ∧ Hid (rtr z.data.toList = Urp.trimU s.data.toList)) (fun v => (sOf v).size)
        case atStart => exact ⟨t, rfl, hts, by rw [HD.out]; rfl⟩
        case round =>
          obtain ⟨z, rfl, hzs, hzi⟩ := hrel
          by_cases g0 : 0 < z.size
          · have g1 : z.size - 1 < z.size := by omega
            by_cases g32 : ((z[z.size - 1]'g1).toNat : Int) ≤ 32
            · go_wp2
              go_round
              case rel => exact ⟨z.extract 0 (z.size - 1), by first | rfl | (congr 1; congr 1; omega), by simp; omega, (tr_step z g0 g1 g32).trans hzi⟩
              case measure => simp [sOf]; omega
            · go_wp2
              go_ret
              exact ⟨by rw [← hzi.out, tr_stop z g0 g1 (by omega)]; rfl, rfl⟩
          · go_wp2
            go_ret
            exact ⟨by rw [← hzi.out, nil_of_size z g0]; first | rfl | (rw [← bA_of z, nil_of_size z g0]; rfl), rfl⟩
    · have HD : Hid (t.data.toList = s.data.toList.dropWhile Urp.outerB) := Lib.hid (by rw [← hin.out, nil_of_size t h0]; rfl)
      go_wp2
      go_loop [0] (fun v => ∃ z : ByteArray, v = .string z ∧ z.size ≤ s.size ∧ Hid (rtr z.data.toList = Urp.trimU s.data.toList)) (fun v => (sOf v).size)
      case atStart => exact ⟨t, rfl, hts, by rw [HD.out]; rfl⟩
      case round =>
        obtain ⟨z, rfl, hzs, hzi⟩ := hrel
        by_cases g0 : 0 < z.size
        · have g1 : z.size - 1 < z.size := by omega
          by_cases g32 : ((z[z.size - 1]'g1).toNat : Int) ≤ 32
          · go_wp2
            go_round
            case rel => exact ⟨z.extract 0 (z.size - 1), by first | rfl | (congr 1; congr 1; omega), by simp; omega, (tr_step z g0 g1 g32).trans hzi⟩
            case measure => simp [sOf]; omega
          · go_wp2
            go_ret
            exact ⟨by rw [← hzi.out, tr_stop z g0 g1 (by omega)]; rfl, rfl⟩
        · go_wp2
          go_ret
          exact ⟨by rw [← hzi.out, nil_of_size z g0]; first | rfl | (rw [← bA_of z, nil_of_size z g0]; rfl), rfl⟩

/-- May a text be a scheme, great letters let in? -/
def rsI (c : Int) : Bool := Oct.letterI c || (Oct.digitI c || Oct.inI c [43, 45, 46])
def rschB (l : List UInt8) : Bool := Oct.allB rsI l && (!l.isEmpty && Oct.letterI (l.headD 0).toNat)
theorem rsch_low (l : List UInt8) : rschB (Oct.lower l) = Urp.schemeB (Oct.lower l) := by
  have key : ∀ n : Fin 256, rsI (Oct.low1 (UInt8.ofNat n)).toNat = Urp.schI (Oct.low1 (UInt8.ofNat n)).toNat ∧ Oct.letterI (Oct.low1 (UInt8.ofNat n)).toNat = Urp.lowI (Oct.low1 (UInt8.ofNat n)).toNat := by decide +kernel
  have k2 : ∀ c : UInt8, rsI (Oct.low1 c).toNat = Urp.schI (Oct.low1 c).toNat ∧ Oct.letterI (Oct.low1 c).toNat = Urp.lowI (Oct.low1 c).toNat := fun c => by
    have h := key ⟨c.toNat, c.toNat_lt⟩
    simpa using h
  unfold rschB Urp.schemeB Oct.allB Oct.lower
  rw [List.all_map, List.all_map]
  congr 1
  · congr 1
    funext c
    exact (k2 c).1
  · cases l with
    | nil => rfl
    | cons c r => simp only [List.map_cons, List.headD_cons]; rw [(k2 c).2]
theorem rsch_miss (s : ByteArray) (k : Nat) (h : k < s.size) (hc : rsI s[k].toNat = false) : false = rschB s.data.toList := by
  unfold rschB; rw [Oct.allB_miss _ s k h hc]; rfl
theorem rsch_head (s : ByteArray) (h : 0 < s.size) (hc : Oct.letterI s[0].toNat = false) : false = rschB s.data.toList := by
  unfold rschB; rw [Oct.head_at s h, hc]; simp
theorem rsch_end (s : ByteArray) (k : Nat) (h : s.size ≤ k) (hi : Oct.allB rsI (s.data.toList.take k) = true) (h0 : 0 < k → s.size ≤ 0 ∨ ∃ h : 0 < s.size, Oct.letterI (s[0]'h).toNat = true) : (!s.toList.isEmpty) = rschB s.data.toList := by
  rw [Oct.take_all s k h] at hi
  unfold rschB
  rw [hi, Lib.toList_data]
  by_cases hp : 0 < s.size
  · rcases h0 (by omega) with hx | ⟨_, hx⟩
    · omega
    · rw [Oct.head_at s hp, hx]; simp
  · rw [nil_of_size s hp]; rfl
theorem rs_next (s : ByteArray) (k : Nat) (a b c : Bool) (hlt : k < s.size) (hin : Oct.allB rsI (s.data.toList.take k) = true) (hh : 0 < k → s.size ≤ 0 ∨ ∃ h : 0 < s.size, Oct.letterI (s[0]'h).toNat = true) (hS : rsI s[k].toNat = (a || (b || c))) (hA : Oct.letterI s[k].toNat = a)
    (h1 : (a || (b || c)) = true) (h2 : k = 0 → a = true) : Hid (Oct.allB rsI (s.data.toList.take (k + 1)) = true) ∧ Hid (0 < k + 1 → s.size ≤ 0 ∨ ∃ h : 0 < s.size, Oct.letterI (s[0]'h).toNat = true) := by
  refine ⟨Lib.hid (Oct.allB_next _ s k hlt hin (by rw [hS, h1])), Lib.hid fun _ => ?_⟩
  rcases Nat.eq_zero_or_pos k with h | h
  · subst h
    exact .inr ⟨hlt, by rw [hA]; exact h2 rfl⟩
  · exact hh h
theorem rs_bad (s : ByteArray) (k : Nat) (a b c : Bool) (hlt : k < s.size) (hS : rsI s[k].toNat = (a || (b || c))) (hA : Oct.letterI s[k].toNat = a) (h1 : (a || (b || c)) = false ∨ (a = false ∧ k = 0)) : false = rschB s.data.toList := by
  rcases h1 with h1 | ⟨h1, h2⟩
  · exact rsch_miss s k hlt (by rw [hS, h1])
  · subst h2; exact rsch_head s hlt (by rw [hA, h1])
set_option maxHeartbeats 2000000 in
theorem rscheme_any (s : ByteArray) (w : World) (hs : s.size ≤ maxLen) : Calls Tryz.prog 50 #[.string s] w fun e w' => e = .returned (.bool (rschB s.data.toList)) ∧ w = w' := by
  unfold maxLen at hs
  have hin3 : ∀ (c : Int) (W : World), Calls Tryz.prog 73 #[.int .u8 c, .string ⟨#[43, 45, 46]⟩] W fun e w' => e = .returned (.bool (Oct.inI c [43, 45, 46])) ∧ W = w' := fun c W => rin_any c ⟨#[43, 45, 46]⟩ W (by decide)
  have H3 := Lib.hid hin3
  clear hin3
  go_enter Tryz.func50, Tryz.ntmps50
  go_wp2
  go_loop [3] (fun i => ∃ k : Nat, k ≤ s.size ∧ i = .int .i64 k ∧ Hid (Oct.allB rsI (s.data.toList.take k) = true) ∧ Hid (0 < k → s.size ≤ 0 ∨ ∃ h : 0 < s.size, Oct.letterI (s[0]'h).toNat = true)) (fun i => s.size - (intOf i).toNat)
  case atStart => exact ⟨0, Nat.zero_le _, rfl, rfl, fun h => absurd h (by omega)⟩
  case round =>
    obtain ⟨k, hk, rfl, hin, hh⟩ := hrel
    by_cases hlt : k < s.size
    · obtain ⟨a, ha⟩ : ∃ a, Oct.letterI s[k].toNat = a := ⟨_, rfl⟩
      obtain ⟨b, hb⟩ : ∃ b, Oct.digitI s[k].toNat = b := ⟨_, rfl⟩
      obtain ⟨c, hc⟩ : ∃ c, Oct.inI s[k].toNat [43, 45, 46] = c := ⟨_, rfl⟩
      have HL : Hid (∀ W : World, Calls Tryz.prog 74 #[.int .u8 (s[k].toNat : Int)] W fun e w' => e = .returned (.bool a) ∧ W = w') := Lib.hid (fun W => by rw [← ha]; exact rletter_any _ W)
      have HD : Hid (∀ W : World, Calls Tryz.prog 75 #[.int .u8 (s[k].toNat : Int)] W fun e w' => e = .returned (.bool b) ∧ W = w') := Lib.hid (fun W => by rw [← hb]; exact rdigit_any _ W)
      have HI : Hid (∀ W : World, Calls Tryz.prog 73 #[.int .u8 (s[k].toNat : Int), .string ⟨#[43, 45, 46]⟩] W fun e w' => e = .returned (.bool c) ∧ W = w') := Lib.hid (fun W => by rw [← hc]; exact H3.out _ W)
      have HS : Hid (rsI s[k].toNat = (a || (b || c))) := Lib.hid (by unfold rsI; rw [ha, hb, hc])
      have HA := Lib.hid ha
      clear ha hb hc
      go_wp2_with (first
        | (go_at_call 74; refine (HL.out _).mono ?_; rintro e w' ⟨rfl, rfl⟩)
        | (go_at_call 75; refine (HD.out _).mono ?_; rintro e w' ⟨rfl, rfl⟩)
        | (go_at_call 73; refine (HI.out _).mono ?_; rintro e w' ⟨rfl, rfl⟩))
      all_goals first
        | (go_round
           case rel => exact ⟨k + 1, by omega, by go_num, rs_next s k a b c hlt hin.out hh.out HS.out HA.out (by simp_all) (by intro h; simp_all)⟩
           case measure => simp [intOf]; omega)
        | (go_ret
           exact ⟨Oct.ret_bool (rs_bad s k a b c hlt HS.out HA.out (by simp_all)), rfl⟩)
    · go_wp2
      go_ret
      exact ⟨Oct.ret_bool (rsch_end s k (by omega) hin.out hh.out), rfl⟩
theorem beg_size (p s : ByteArray) (h : s.size < p.size) : Urp.begB p.data.toList s.data.toList = false := by
  unfold Urp.begB
  rw [Bool.eq_false_iff]
  intro hc
  have := (List.isPrefixOf_iff_prefix.1 hc).length_le
  simp at this; omega
theorem beg_eq (p s : ByteArray) : ((s.extract 0 p.size).toList == p.toList) = Urp.begB p.data.toList s.data.toList := by
  unfold Urp.begB
  rw [Bool.eq_iff_iff, beq_iff_eq, List.isPrefixOf_iff_prefix, Lib.toList_data, Lib.toList_data, Lib.extract_data, List.prefix_iff_eq_take]
  have e : p.data.toList.length = p.size := by simp
  rw [e]
  simp only [List.drop_zero, Nat.sub_zero]
  exact ⟨fun h => h.symm, fun h => h.symm⟩
set_option maxHeartbeats 1000000 in
theorem rbegins_any (s p : ByteArray) (w : World) : Calls Tryz.prog 52 #[.string s, .string p] w fun e w' => e = .returned (.bool (Urp.begB p.data.toList s.data.toList)) ∧ w = w' := by
  by_cases h : p.size ≤ s.size
  · have h' : (p.size : Int) ≤ (s.size : Int) := by omega
    go_enter Tryz.func52, Tryz.ntmps52
    go_wp2
    all_goals
      go_ret
      refine ⟨Oct.ret_bool ?_, rfl⟩
      exact beg_eq p s
  · have h' : (s.size : Int) < (p.size : Int) := by omega
    rw [beg_size p s (by omega)]
    go_enter Tryz.func52, Tryz.ntmps52
    go_wp2
    go_ret
    exact ⟨rfl, rfl⟩
theorem rfails_any (e : Int) (w : World) : Calls Tryz.prog 47 #[.int .i64 e] w fun r w' => r = .returned (.tuple #[.agg #[.string ⟨#[]⟩, .string ⟨#[]⟩, .bool false, .int .u32 0, .int .i64 0, .string ⟨#[]⟩, .bool false, .string ⟨#[]⟩, .string ⟨#[]⟩], .int .i64 e]) ∧ Below w.heap.size w w' := by
  go_enter Tryz.func47, Tryz.ntmps47
  go_wp2_with fail
  exact bodyPost_ret (results_url rfl _ _ rfl (UBox.new w Urp.zeroU)) rfl ⟨rfl, (Below.refl _ w).alloc (Nat.le_refl _) _⟩
theorem rOwn_any (s : ByteArray) (w : World) : Calls Tryz.prog 23 #[.string s] w fun r w' => r = .returned (.int .i64 (Urp.own s.data.toList)) ∧ w = w' := by
  unfold Urp.own
  cases h : (s.data.toList == Urp.sHttps) with
  | true =>
    have h' : s.toList = [104, 116, 116, 112, 115] := by rw [Lib.toList_data]; exact beq_iff_eq.1 h
    go_enter Tryz.func23, Tryz.ntmps23
    go_wp2
    go_ret
    exact ⟨rfl, rfl⟩
  | false =>
    have h' : (s.toList == [104, 116, 116, 112, 115]) = false := by rw [Lib.toList_data]; exact h
    go_enter Tryz.func23, Tryz.ntmps23
    go_wp2
    go_ret
    exact ⟨rfl, rfl⟩
theorem rnetV_any (sc hn : ByteArray) (hb : Bool) (ha po : Int) (pa : ByteArray) (hq : Bool) (qu re : ByteArray) (w : World) : Calls Tryz.prog 22 #[.agg #[.string sc, .string hn, .bool hb, .int .u32 ha, .int .i64 po, .string pa, .bool hq, .string qu, .string re]] w fun e w' => e = .returned (.bool (Urp.netB sc.data.toList)) ∧ Below w.heap.size w w' := by
  go_enter Tryz.func22, Tryz.ntmps22
  go_wp2
  · go_ret
    rename_i h
    rw [Lib.toList_data] at h
    refine ⟨Oct.ret_bool ?_, (Below.refl _ _).alloc (Nat.le_refl _) _⟩
    unfold Urp.netB; rw [h]; rfl
  · go_ret
    refine ⟨Oct.ret_bool ?_, (Below.refl _ _).alloc (Nat.le_refl _) _⟩
    rw [Lib.toList_data]; rfl
end Go.Proofs.YtehjnidggnfbfaaGreatDoor
