/- The walk of the statement that a number has the digits that it was told by. -/
import Derived.Test.YtnkalbhpmhheiaaOctLaws3
import Derived.Test.YtnkalbhpmhheiaaOctMath6
namespace Go.Proofs.Ytnkalbhpmhheiaa
open Go.RowKit

theorem conv_oneI (d : Int) (h0 : 0 ≤ d) (h1 : d ≤ 255) (W : World) : (convert 34 9 (.slice (some ⟨W.heap.size, 0, none⟩) 1 1)).run Try.prog (W.alloc (.cells #[.int .u8 d] 5)) = .ok (.string ⟨#[UInt8.ofNat d.toNat]⟩) (W.alloc (.cells #[.int .u8 d] 5)) := by
  have := conv_one (UInt8.ofNat d.toNat) W
  have e : ((UInt8.ofNat d.toNat).toNat : Int) = d := by simp; omega
  rw [e] at this
  exact this

theorem number_yes (s : ByteArray) (m n : Int) (w : World) (hs : s.size ≤ maxLen) (m0 : -9223372036854775808 ≤ m) (m1 : m ≤ 9223372036854775807) (hok : Oct.numOk s.data.toList m = true) (hn : Oct.val s.data.toList = n) :
    Calls Try.prog 23 #[.string s, .int .i64 m] w fun e w' => e = .returned (.tuple #[.int .i64 n, .bool true]) ∧ w = w' :=
  (number_any s m w hs m0 m1).mono (by rintro e w' ⟨rfl, h⟩; exact ⟨(num_yes hok hn.symm).symm, h⟩)

theorem dig_size {a s : ByteArray} {i : Nat} {c : UInt8} (h : a.size + (i + 1) = s.size) : ((⟨#[c]⟩ : ByteArray) ++ a).size + i = s.size := by
  rw [ByteArray.size_append]
  have : (⟨#[c]⟩ : ByteArray).size = 1 := rfl
  omega
theorem dig_text {a s : ByteArray} {i : Nat} {c : UInt8} (hi : i < s.data.toList.length) (hc : c = s.data.toList[i]) (h : a.data.toList = s.data.toList.drop (i + 1)) : ((⟨#[c]⟩ : ByteArray) ++ a).data.toList = s.data.toList.drop i := by
  rw [List.drop_eq_getElem_cons hi, ← h, ← hc]
  simp

set_option maxHeartbeats 1000000 in
theorem walk_OctetDigits (s : ByteArray) (m : Int) (hs : s.size ≤ maxLen) (hm : (Lit.int .i64 m).wf = true) (w : World) :
    Calls Try.prog 9 #[.string s, .int .i64 m] w fun e w' => e = .returned (.bool true) ∧ Below w.heap.size w w' := by
  obtain ⟨m0, m1⟩ := bounds_i64 hm
  clear hm
  cases hok : Oct.numOk s.data.toList m with
  | false =>
    have hv : Oct.numV s.data.toList m = 0 := by unfold Oct.numV; rw [hok]; rfl
    go_enter Try.func9, Try.ntmps9
    go_wp2_with fail
    refine (awake_any _).mono ?_
    rintro e w1 ⟨rfl, hb1⟩
    go_wp2_with fail
    refine (number_any _ _ _ hs m0 m1).mono ?_
    rintro e w2 ⟨rfl, rfl⟩
    go_wp2_with fail
    go_ret
    exact ⟨rfl, hb1⟩
  | true =>
    have hlen := Oct.digits_len _ _ hok m1
    obtain ⟨p1, p2, p3, p4⟩ := Oct.numOk_parts _ _ hok
    have p5 := Oct.val_nonneg _ p3
    obtain ⟨n, hn⟩ : ∃ n, Oct.val s.data.toList = n := ⟨_, rfl⟩
    have l1 : s.data.toList.length = s.size := by simp
    rw [l1] at hlen p1
    rw [hn] at p4 p5
    have hnum := fun W => number_yes s m n W hs m0 m1 hok hn
    have HN := Lib.hid hn
    have HOK := Lib.hid hok
    have P3 := Lib.hid p3
    have HNUM := Lib.hid hnum
    clear l1 p2 hn hs p3 hok hnum
    by_cases hz : n = 0
    · have hs48 := Oct.val_zero _ _ HOK.out (by rw [HN.out]; exact hz)
      have hsz : s = ⟨#[48]⟩ := by cases s; simp only at hs48; congr 1; exact Array.toList_inj.1 hs48
      subst hsz hz
      clear hs48 hlen p1 p5
      go_enter Try.func9, Try.ntmps9
      go_wp2_with fail
      refine (awake_any _).mono ?_
      rintro e w1 ⟨rfl, hb1⟩
      go_wp2_with fail
      refine (HNUM.out _).mono ?_
      rintro e w2 ⟨rfl, rfl⟩
      go_wp2_with fail
      go_loop [6, 8] (fun x tx => x = .int .i64 0 ∧ tx = .string ⟨#[48]⟩) (fun _ _ => 0)
      case atStart => exact ⟨rfl, rfl⟩
      case round =>
        obtain ⟨rfl, rfl⟩ := hrel
        go_wp2_with fail
        go_ret
        exact ⟨rfl, hb1⟩
    · have hpos := Oct.val_pos _ _ HOK.out (by rw [HN.out]; omega)
      have HPOS := Lib.hid hpos
      clear hpos
      have hz' : (n == 0) = false := by simpa using hz
      have hn0 : 0 < n := by omega
      clear hz
      go_enter Try.func9, Try.ntmps9
      go_wp2_with fail
      refine (awake_any _).mono ?_
      rintro e w1 ⟨rfl, hb1⟩
      go_wp2_with fail
      refine (HNUM.out _).mono ?_
      rintro e w2 ⟨rfl, rfl⟩
      go_wp2_with fail
      clear hz'
      go_loopw [6, 8] (fun x tx wr => ∃ j : Nat, ∃ v : Int, ∃ a : ByteArray, j ≤ s.size ∧ x = .int .i64 v ∧ tx = .string a ∧ 0 ≤ v ∧ v ≤ n ∧ a.size ≤ 19 ∧ Hid (a.size + j = s.size) ∧ Hid (v = Oct.val (s.data.toList.take j)) ∧ Hid (a.data.toList = s.data.toList.drop j) ∧ Below w.heap.size w wr) (fun x _ _ => (intOf x).toNat)
      case atStart => exact ⟨s.size, n, ⟨#[]⟩, Nat.le_refl _, rfl, rfl, p5, Int.le_refl _, by decide, Nat.zero_add _, by rw [Oct.take_all s s.size (Nat.le_refl _)]; exact HN.out.symm, by rw [List.drop_of_length_le (by simp)]; rfl, hb1⟩
      case round =>
        obtain ⟨j, v, a, hj, rfl, rfl, hv0, hv1, ha, HA, HV, HT, hbel⟩ := hrel
        by_cases hv : 0 < v
        · obtain ⟨i, rfl⟩ : ∃ i, j = i + 1 := by
            cases j with
            | zero => exfalso; have := HV.out; simp [Oct.val] at this; omega
            | succ i => exact ⟨i, rfl⟩
          have hcv := conv_oneI (48 + v % 10) (by omega) (by omega)
          go_wp2_with fail
          have hil : i < s.data.toList.length := by simp; omega
          obtain ⟨d1, d2⟩ := Oct.digit_step s.data.toList P3.out i hil v HV.out
          go_roundw
          case rel => exact ⟨i, v / 10, _, by omega, rfl, rfl, by omega, by omega, by have h9 := dig_size (c := UInt8.ofNat (48 + v % 10).toNat) HA.out; omega, dig_size HA.out, d1, dig_text hil d2 HT.out, hbel.alloc hbel.size _⟩
          case measure => simp [intOf]; omega
        · have hj0 : j = 0 := by
            rcases Nat.eq_zero_or_pos j with h | h
            · exact h
            · have := HPOS.out j h (by simpa using hj)
              rw [← HV.out] at this; omega
          have hfin : a = s := by
            have h1 := HT.out
            rw [hj0, List.drop_zero] at h1
            cases a; cases s; simp only at h1; congr 1; exact Array.toList_inj.1 h1
          clear HA HV HT
          subst hfin
          go_wp2_with fail
          go_ret
          exact ⟨rfl, hbel⟩
end Go.Proofs.Ytnkalbhpmhheiaa
