/- The contracts of octet.Split. -/
import Derived.Test.YtcmbckacbdiebaaOctText
import Derived.Test.YtcmbckacbdiebaaOctOut
import Derived.Test.YtcmbckacbdiebaaOctMath3
import Derived.Laws.IdiomStrings
namespace Go.Proofs.Ytcmbckacbdiebaa
open Go.RowKit

set_option maxHeartbeats 400000 in
theorem s1_any (c b : Int) (a : Addr) (w : World) (hc : w.cell? a = some (.int .u8 b)) : Calls Try.prog 30 #[.int .u8 c, .pointer (some a)] w fun e w' => e = .returned (.bool (c == b)) ∧ w = w' := by
  go_enter Try.func30, Try.ntmps30
  go_wp2_with fail
  go_ret
  exact ⟨rfl, rfl⟩

/-- What a round of cut, for Split, keeps: the separating byte's cell, the parts gathered, all below as it was. -/
structure SpInv (w wr : World) (Bo : Nat) (b : Int) (s : ByteArray) (k f : Nat) : Prop where
  cell : wr.cell? ⟨Bo - 1, 0, none⟩ = some (.int .u8 b)
  bel : Below (Bo - 1) w wr
  more : ∃ d c, Oct.st (fun x => x == b) (s.data.toList.take k) = (d, c) ∧ f + c.length = k ∧ Out wr Bo (d.map Oct.strV)

theorem SpInv.no {w wr : World} {Bo : Nat} {b : Int} {s : ByteArray} {k f : Nat} (h : SpInv w wr Bo b s k f) (hk : k < s.size) (hb : ((s[k].toNat : Int) == b) = false) : SpInv w wr Bo b s (k + 1) f := by
  obtain ⟨hc, hbel, d, c, h1, h2, h3⟩ := h
  refine ⟨hc, hbel, d, c ++ [s[k]], ?_, by simp; omega, h3⟩
  rw [Oct.take_snoc s k hk]
  exact Oct.st_no _ d c _ _ h1 hb
theorem SpInv.take {w wr : World} {Bo : Nat} {b : Int} {s : ByteArray} {k f : Nat} (h : SpInv w wr Bo b s k f) (hB : 0 < Bo) (hk : k ≤ s.size) (hs : s.size ≤ 8796093022206) :
    Calls Try.prog 32 #[.string (s.extract f k), .pointer (some ⟨Bo, 0, none⟩)] wr fun e w' => e = .returned (.tuple #[]) ∧ w'.cell? ⟨Bo - 1, 0, none⟩ = some (.int .u8 b) ∧ Below (Bo - 1) w w' ∧
      ∃ d c, Oct.st (fun x => x == b) (s.data.toList.take k) = (d, c) ∧ Out w' Bo ((d ++ [c]).map Oct.strV) := by
  obtain ⟨hc, hbel, d, c, h1, h2, h3⟩ := h
  have hl := Oct.st_len _ _ _ _ h1
  have hl2 : (s.data.toList.take k).length ≤ s.size := by simp; omega
  refine (stake_any _ Bo _ wr h3 (by simp; omega)).mono ?_
  rintro e w' ⟨rfl, hO, hb⟩
  refine ⟨rfl, ?_, hbel.trans (hb.mono (by omega)), d, c, h1, ?_⟩
  · rw [hb.cell (by show Bo - 1 < Bo; omega)]; exact hc
  · rw [Oct.st_extract _ s k f d c h1 hk h2] at hO
    simpa using hO

theorem SpInv.yes {w w' : World} {Bo : Nat} {b : Int} {s : ByteArray} {k : Nat} (hk : k < s.size) (hb : ((s[k].toNat : Int) == b) = true) (hc : w'.cell? ⟨Bo - 1, 0, none⟩ = some (.int .u8 b)) (hbel : Below (Bo - 1) w w')
    (hd : ∃ d c, Oct.st (fun x => x == b) (s.data.toList.take k) = (d, c) ∧ Out w' Bo ((d ++ [c]).map Oct.strV)) : SpInv w w' Bo b s (k + 1) (k + 1) := by
  obtain ⟨d, c, h1, h2⟩ := hd
  refine ⟨hc, hbel, d ++ [c], [], ?_, rfl, h2⟩
  rw [Oct.take_snoc s k hk]
  exact Oct.st_yes _ d c _ _ h1 hb
theorem split_end {w' : World} {Bo : Nat} {b : Int} {s : ByteArray} (hd : ∃ d c, Oct.st (fun x => x == b) (s.data.toList.take s.size) = (d, c) ∧ Out w' Bo ((d ++ [c]).map Oct.strV)) : Out w' Bo ((Oct.split (fun x => x == b) s.data.toList).map Oct.strV) := by
  obtain ⟨d, c, h1, h2⟩ := hd
  rw [Oct.take_all s s.size (Nat.le_refl _)] at h1
  rw [Oct.split_of _ _ _ _ h1]
  exact h2

set_option maxHeartbeats 1000000 in
theorem cutS_any (s : ByteArray) (b : Int) (Bo : Nat) (w : World) (hs : s.size ≤ 8796093022206) (hB : 0 < Bo) (hI : SpInv w w Bo b s 0 0) :
    Calls Try.prog 31 #[.string s, .func (.func 30) #[] #[.pointer (some ⟨Bo - 1, 0, none⟩)], .func (.func 32) #[] #[.pointer (some ⟨Bo, 0, none⟩)]] w fun e w' =>
      e = .returned (.tuple #[]) ∧ Below (Bo - 1) w w' ∧ Out w' Bo ((Oct.split (fun x => x == b) s.data.toList).map Oct.strV) := by
  go_enter Try.func31, Try.ntmps31
  go_wp2_with fail
  go_loopw [6, 10] (fun fr i wr => ∃ k f : Nat, k ≤ s.size ∧ f ≤ k ∧ i = .int .i64 k ∧ fr = .int .i64 f ∧ SpInv w wr Bo b s k f) (fun _ i _ => s.size - (intOf i).toNat)
  case atStart => exact ⟨0, 0, Nat.zero_le _, Nat.le_refl _, rfl, rfl, hI⟩
  case round =>
    obtain ⟨k, f, hk, hf, rfl, rfl, hin⟩ := hrel
    have hcell := hin.cell
    by_cases hlt : k < s.size
    · cases hb : ((s[k].toNat : Int) == b) with
      | true =>
        go_wp2_with (first
          | (go_at_call 30; refine (s1_any _ _ _ _ hcell).mono ?_; rintro e w' ⟨rfl, rfl⟩)
          | (go_at_call 32; refine (hin.take hB hk hs).mono ?_; rintro e w' ⟨rfl, hc2, hbel2, hd⟩))
        go_roundw
        case rel => exact ⟨k + 1, k + 1, by omega, by omega, by go_num, by go_num, SpInv.yes hlt hb hc2 hbel2 hd⟩
        case measure => simp [intOf]; omega
      | false =>
        go_wp2_with (first
          | (go_at_call 30; refine (s1_any _ _ _ _ hcell).mono ?_; rintro e w' ⟨rfl, rfl⟩))
        go_roundw
        case rel => exact ⟨k + 1, f, by omega, by omega, by go_num, rfl, hin.no hlt hb⟩
        case measure => simp [intOf]; omega
    · obtain rfl : k = s.size := by omega
      go_wp2_with (first
          | (go_at_call 32; refine (hin.take hB hk hs).mono ?_; rintro e w' ⟨rfl, hc2, hbel2, hd⟩))
      go_end0
      exact ⟨rfl, hbel2, split_end hd⟩

/-- A list of texts in memory of the call's own is answered. -/
def RetTexts (w : World) (ps : List (List UInt8)) (e : Ending) (w' : World) : Prop := ∃ v, e = .returned v ∧ Below w.heap.size w w' ∧ w'.ownsRow w.heap.size 9 1 v ps.length (ps.map Oct.strV)

set_option maxHeartbeats 1000000 in
theorem split_any (s : ByteArray) (b : Int) (w : World) (hs : s.size ≤ 8796093022206) : Calls Try.prog 20 #[.string s, .int .u8 b] w (RetTexts w (Oct.split (fun x => x == b) s.data.toList)) := by
  have hI : SpInv ((w.alloc (.cells #[.int .u8 b] 5)).alloc (.cells #[.slice none 0 0] 24)) ((w.alloc (.cells #[.int .u8 b] 5)).alloc (.cells #[.slice none 0 0] 24)) (w.heap.size + 1) b s 0 0 := by
    refine ⟨?_, Below.refl _ _, [], [], rfl, rfl, ?_⟩
    · rw [World.cell?_alloc_lt _ _ _ (by simp)]
      show (w.alloc _).cell? ⟨w.heap.size, 0, none⟩ = _
      rw [World.cell?_alloc_mark]; rfl
    · have := Out.new (w.alloc (.cells #[.int .u8 b] 5))
      simpa using this
  go_enter Try.func20, Try.ntmps20
  go_wp2_with fail
  refine (cutS_any s b (w.heap.size + 1) _ hs (by omega) hI).mono ?_
  rintro e w1 ⟨rfl, hbel, hO⟩
  obtain ⟨v, hv, hown⟩ := hO
  have hc := cell_of_one hv
  go_wp2_with fail
  go_ret
  refine ⟨v, rfl, ?_, ?_⟩
  · exact (((Below.refl _ w).alloc (Nat.le_refl _) _).alloc (by simp) _).trans hbel
  · rw [List.length_map] at hown
    exact owns_base hown (by omega)
end Go.Proofs.Ytcmbckacbdiebaa
