/- The walk of the statement on words. -/
import Derived.Test.YtnkalbhpmhheiaaOctLaws3
import Derived.Test.YtnkalbhpmhheiaaOctMath7
import Derived.Deep.RegionWith
namespace Go.Proofs.Ytnkalbhpmhheiaa
open Go.RowKit

theorem trim_word (x : ByteArray) (w : World) (hs : x.size ≤ maxLen) (h : Oct.trim x.data.toList = x.data.toList) : Calls Try.prog 14 #[.string x] w fun e w' => e = .returned (.string x) ∧ w = w' :=
  (trim_any x w hs).mono (by rintro e w' ⟨rfl, h2⟩; exact ⟨by rw [h], h2⟩)
theorem words_word (x : ByteArray) (w : World) (hs : x.size ≤ 8796093022206) (h : Oct.words x.data.toList = [x.data.toList]) : Calls Try.prog 21 #[.string x] w (RetLen w 1) :=
  (words_any x w hs).mono (fun _ _ h2 => h2.len 1 (by rw [h]; rfl))

theorem words_fin {n : Nat} {b : Bool} (h : (n == 0) = b) : (((n : Int) == 0) == b) = true := by
  rw [beq_iff_eq, ← h, Bool.eq_iff_iff, beq_iff_eq, beq_iff_eq]; omega

set_option maxHeartbeats 2000000 in
theorem walk_OctetWords (s : ByteArray) (hs : s.size ≤ maxLen) (hk : s.size ≤ 1048576) (w : World) :
    Calls Try.prog 8 #[.string s] w fun e w' => e = .returned (.bool true) ∧ Below w.heap.size w w' := by
  obtain ⟨ps, hps⟩ : ∃ ps, Oct.words s.data.toList = ps := ⟨_, rfl⟩
  have hnil := Oct.words_nil s.data.toList
  have hword : ∀ k (h : k < ps.length), ps[k] ≠ [] ∧ Oct.trim ps[k] = ps[k] ∧ Oct.words ps[k] = [ps[k]] := by
    intro k h
    subst hps
    obtain ⟨h1, h2⟩ := Oct.word_of _ _ (List.getElem_mem h)
    exact ⟨h1, Oct.trim_none _ h2, Oct.words_one _ h1 h2⟩
  have hplen := Oct.words_len s.data.toList
  have hwl : ∀ k (h : k < ps.length), ps[k].length ≤ s.size := by
    intro k h
    subst hps
    have := Oct.word_len _ _ (List.getElem_mem h)
    have l1 : s.data.toList.length = s.size := by simp
    omega
  rw [hps] at hplen hnil
  have l1 : s.data.toList.length = s.size := by simp
  rw [l1] at hplen
  have HW := Lib.hid hword
  have HP := Lib.hid hps
  have HNL := Lib.hid hnil
  have HWL := Lib.hid hwl
  clear l1 hword hps hnil hwl
  go_enter Try.func8, Try.ntmps8
  go_wp2_with fail
  refine (awake_any _).mono ?_
  rintro e w1 ⟨rfl, hb1⟩
  go_wp2_with fail
  refine (words_any _ _ (by omega)).mono ?_
  rintro e w2 ⟨v2, rfl, hb2, ho2⟩
  rw [HP.out] at ho2
  obtain ⟨ao, cap, hv2, HC⟩ : ∃ ao cap, v2 = .slice ao ps.length cap ∧ Hid (∀ k (h : k < ps.length), ∃ g, ao = some ⟨g, 0, none⟩ ∧ g < w2.heap.size ∧ w2.cell? ⟨g, k, none⟩ = some (Oct.strV ps[k])) := by
    rcases owns_view ho2 with ⟨rfl, h0⟩ | ⟨g, cap, rfl, hm, hg, _, hcells⟩
    · subst h0; exact ⟨none, 0, rfl, fun k h => by simp at h⟩
    · exact ⟨_, _, rfl, fun k h => ⟨g, rfl, hg, hcells k h⟩⟩
  subst hv2
  have hbe := Below.onto hb1 hb2
  clear ho2 hb1 hb2
  go_wp2_with fail
  go_loopw [5] (fun i wr => ∃ k : Nat, k ≤ ps.length ∧ i = .int .i64 k ∧ Below w2.heap.size w2 wr) (fun i _ => ps.length - (intOf i).toNat)
  case atStart => exact ⟨0, Nat.zero_le _, rfl, Below.refl _ _⟩
  case round =>
    obtain ⟨k, hk2, rfl, hbel⟩ := hrel
    by_cases hlt : k < ps.length
    · obtain ⟨g, rfl, hg, hce⟩ := HC.out k hlt
      rw [← hbel.cell (by exact hg)] at hce
      obtain ⟨x, hx⟩ : ∃ x : ByteArray, x = ⟨ps[k].toArray⟩ := ⟨_, rfl⟩
      obtain ⟨q1, q2, q3⟩ := HW.out k hlt
      have hxv : Oct.strV ps[k] = .string x := by rw [hx]; rfl
      rw [hxv] at hce
      have hxl := HWL.out k hlt
      have hxs : x.size = ps[k].length := by rw [hx, size_mk]
      have T1 : Hid (Oct.trim x.data.toList = x.data.toList) := by rw [hx]; exact q2
      have T2 : Hid (Oct.words x.data.toList = [x.data.toList]) := by rw [hx]; exact q3
      have e1 : x.toList.isEmpty = false := by rw [Lib.toList_data, hx]; simpa using q1
      have e2 : ¬ x.toList = [] := by simpa using e1
      have hxm : x.size ≤ 1048576 := by omega
      clear hx q1 q2 q3 hxv hxl hxs
      go_wp2_with fail
      go_region_with (first | (go_at_call 14; refine (trim_word x _ (by unfold maxLen; omega) T1.out).mono ?_; rintro e w' ⟨rfl, rfl⟩) | (go_at_call 21; refine (words_word x _ (by omega) T2.out).mono ?_; rintro e w' ⟨ao2, c2, rfl, hb5⟩))
      all_goals
        go_wp2
        go_roundw
        case rel => exact ⟨k + 1, by omega, by go_num, Below.onto hbel.drew hb5⟩
        case measure => simp [intOf]; omega
    · have hbe2 := Below.onto hbe hbel
      clear hbel hbe
      go_wp2_with fail
      refine (trim_any _ _ hs).mono ?_
      rintro e w5 ⟨rfl, rfl⟩
      go_wp2_with fail
      go_ret
      exact ⟨Oct.ret_bool (words_fin HNL.out), hbe2⟩
end Go.Proofs.Ytnkalbhpmhheiaa
