/- The contract of the document's Text. -/
import Derived.Test.YtbeckddgelcbhaaGreatDoorHostText
namespace Go.Proofs.YtbeckddgelcbhaaGreatDoor
open Go.RowKit

theorem and255i (x : Int) (h0 : 0 ≤ x) (h1 : x ≤ 4294967295) : bits .and .i64 x 255 = x % 256 := by
  obtain ⟨n, rfl⟩ := Int.eq_ofNat_of_zero_le h0
  have of64 : ∀ m : Nat, m < 4294967296 → (BitVec.ofInt 64 (m : Int)).toNat = m := fun m hm => by
    rw [BitVec.ofInt_natCast, BitVec.toNat_ofNat]; exact Nat.mod_eq_of_lt (by omega)
  have e : n &&& 255 = n % 256 := by
    have := Nat.and_two_pow_sub_one_eq_mod n 8
    simpa using this
  show IntKind.i64.wrap ((BitVec.ofInt 64 (n : Int) &&& BitVec.ofInt 64 ((255 : Nat) : Int)).toNat : Int) = _
  rw [BitVec.toNat_and, of64 n (by omega), of64 255 (by omega), e, IntKind.wrap_i64]
  omega

theorem text_size (z : ByteArray) (l : List UInt8) (hz : z = ⟨l.toArray⟩) (hl : l.length ≤ 3) : z.size ≤ 3 := by
  rw [hz]; simpa [ByteArray.size] using hl
theorem size_dot : (⟨#[46]⟩ : ByteArray).size = 1 := rfl
/-- What a round keeps: the text gathered so far. -/
structure RtInv (w wr : World) (a : Int) (k : Nat) (t : ByteArray) : Prop where
  bel : Below w.heap.size w wr
  txt : t.data.toList = Oct.join 46 ((quad a).take k)
  box : ∃ n, HBox wr w.heap.size n true a

set_option maxHeartbeats 1000000 in
theorem rtext_any (n : ByteArray) (b : Bool) (a : Int) (w : World) (hT : Tab w) (a0 : 0 ≤ a) (a1 : a ≤ 4294967295) : Calls Tryz.prog 15 #[.agg #[.string n, .bool b, .int .u32 a]] w fun e w' => e = .returned (.string ⟨(textL ⟨n.data.toList, b, a⟩).toArray⟩) ∧ Below w.heap.size w w' := by
  cases b with
  | false =>
    go_enter Tryz.func15, Tryz.ntmps15
    go_wp2_with fail
    go_ret
    exact ⟨rfl, (Below.refl _ _).alloc (Nat.le_refl _) _⟩
  | true =>
    go_enter Tryz.func15, Tryz.ntmps15
    go_wp2_with fail
    go_loopw [3, 4] (fun v i wr => ∃ k : Nat, ∃ t : ByteArray, k ≤ 4 ∧ i = .int .i64 k ∧ v = .string t ∧ t.size ≤ 4 * k ∧ RtInv w wr a k t) (fun _ i _ => 4 - (intOf i).toNat)
    case atStart => exact ⟨0, ⟨#[]⟩, by omega, rfl, rfl, by decide, (Below.refl _ _).alloc (Nat.le_refl _) _, rfl, n, HBox.new w n true a⟩
    case round =>
      obtain ⟨k, t, hk, rfl, rfl, hts, hin⟩ := hrel
      obtain ⟨hbel, htx, n', hbox⟩ := hin
      have c2 := hbox.c2
      have hTr := Lib.hid (hT.below hbel)
      by_cases hlt : k < 4
      · have h : k = 0 ∨ k = 1 ∨ k = 2 ∨ k = 3 := by omega
        rcases h with rfl | rfl | rfl | rfl
        · rw [show ((0 : Nat) : Int) = 0 from rfl]
          have hl := itoa_len (a / 16777216) (by omega) (by omega)
          have hsz := text_size (⟨(Lib.itoa (a / 16777216)).toArray⟩ : ByteArray) _ rfl hl
          go_wp2_with fail
          rw [and255i (a / 16777216) (by omega) (by omega), show a / 16777216 % 256 = a / 16777216 by omega]
          refine (itoa_any _ wr (by omega) (by omega) hTr.out).mono ?_
          rintro e w1 ⟨rfl, hb1⟩
          obtain ⟨z, hz⟩ : ∃ z : ByteArray, z = ⟨(Lib.itoa (a / 16777216)).toArray⟩ := ⟨_, rfl⟩
          rw [← hz] at hsz ⊢
          have HZ := Lib.hid hz
          clear hz hl
          go_wp2_with fail
          go_roundw
          case rel => exact ⟨1, _, by omega, rfl, rfl, by simp only [ByteArray.size_append]; omega, hbel.trans (hb1.mono hbel.size), by rw [HZ.out]; simp [htx, quad, quadI, Oct.join], n', hbox.below hb1 hbox.lt⟩
          case measure => simp [intOf]
        · rw [show ((1 : Nat) : Int) = 1 from rfl]
          have hl := itoa_len (a / 65536 % 256) (by omega) (by omega)
          have hsz := text_size (⟨(Lib.itoa (a / 65536 % 256)).toArray⟩ : ByteArray) _ rfl hl
          go_wp2_with fail
          rw [and255i (a / 65536) (by omega) (by omega)]
          refine (itoa_any _ wr (by omega) (by omega) hTr.out).mono ?_
          rintro e w1 ⟨rfl, hb1⟩
          obtain ⟨z, hz⟩ : ∃ z : ByteArray, z = ⟨(Lib.itoa (a / 65536 % 256)).toArray⟩ := ⟨_, rfl⟩
          rw [← hz] at hsz ⊢
          have HZ := Lib.hid hz
          clear hz hl
          go_wp2_with fail
          go_roundw
          case rel => exact ⟨2, _, by omega, rfl, rfl, by simp only [ByteArray.size_append, size_dot]; omega, hbel.trans (hb1.mono hbel.size), by rw [HZ.out]; simp [htx, quad, quadI, Oct.join], n', hbox.below hb1 hbox.lt⟩
          case measure => simp [intOf]
        · rw [show ((2 : Nat) : Int) = 2 from rfl]
          have hl := itoa_len (a / 256 % 256) (by omega) (by omega)
          have hsz := text_size (⟨(Lib.itoa (a / 256 % 256)).toArray⟩ : ByteArray) _ rfl hl
          go_wp2_with fail
          rw [and255i (a / 256) (by omega) (by omega)]
          refine (itoa_any _ wr (by omega) (by omega) hTr.out).mono ?_
          rintro e w1 ⟨rfl, hb1⟩
          obtain ⟨z, hz⟩ : ∃ z : ByteArray, z = ⟨(Lib.itoa (a / 256 % 256)).toArray⟩ := ⟨_, rfl⟩
          rw [← hz] at hsz ⊢
          have HZ := Lib.hid hz
          clear hz hl
          go_wp2_with fail
          go_roundw
          case rel => exact ⟨3, _, by omega, rfl, rfl, by simp only [ByteArray.size_append, size_dot]; omega, hbel.trans (hb1.mono hbel.size), by rw [HZ.out]; simp [htx, quad, quadI, Oct.join], n', hbox.below hb1 hbox.lt⟩
          case measure => simp [intOf]
        · rw [show ((3 : Nat) : Int) = 3 from rfl]
          have hl := itoa_len (a % 256) (by omega) (by omega)
          have hsz := text_size (⟨(Lib.itoa (a % 256)).toArray⟩ : ByteArray) _ rfl hl
          go_wp2_with fail
          rw [and255i (a) (by omega) (by omega)]
          refine (itoa_any _ wr (by omega) (by omega) hTr.out).mono ?_
          rintro e w1 ⟨rfl, hb1⟩
          obtain ⟨z, hz⟩ : ∃ z : ByteArray, z = ⟨(Lib.itoa (a % 256)).toArray⟩ := ⟨_, rfl⟩
          rw [← hz] at hsz ⊢
          have HZ := Lib.hid hz
          clear hz hl
          go_wp2_with fail
          go_roundw
          case rel => exact ⟨4, _, by omega, rfl, rfl, by simp only [ByteArray.size_append, size_dot]; omega, hbel.trans (hb1.mono hbel.size), by rw [HZ.out]; simp [htx, quad, quadI, Oct.join], n', hbox.below hb1 hbox.lt⟩
          case measure => simp [intOf]
      · obtain rfl : k = 4 := by omega
        have hfin : t = ⟨(textL ⟨n.data.toList, true, a⟩).toArray⟩ := by
          cases t
          congr 1
          apply Array.toList_inj.1
          simpa [textL, quad, quadI] using htx
        subst hfin
        go_wp2_with fail
        go_ret
        exact ⟨rfl, hbel⟩
end Go.Proofs.YtbeckddgelcbhaaGreatDoor
