/- The contracts of the document's cut, domain and pattern. -/
import Derived.Test.YtinjkpbpkedfnaaGreatDoorCmRef1
namespace Go.Proofs.YtinjkpbpkedfnaaGreatDoor
open Go.RowKit
open Urp (bef aft hasB No)

namespace Cm
theorem cut_hit {l : List UInt8} {c : UInt8} {k : Nat} (hk : k < l.length) (hn : No c (l.take k)) (hc : l[k] = c) : bef c l = l.take k ∧ aft c l = l.drop (k + 1) ∧ hasB c l = true := by
  have e : l = l.take k ++ c :: l.drop (k + 1) := by rw [← hc, ← List.drop_eq_getElem_cons hk, List.take_append_drop]
  have h1 : bef c (l.take k ++ c :: l.drop (k + 1)) = l.take k := by rw [Urp.bef_app hn, Urp.bef_hit, List.append_nil]
  have h2 : aft c (l.take k ++ c :: l.drop (k + 1)) = l.drop (k + 1) := by rw [Urp.aft_app hn, Urp.aft_hit]
  have h3 : hasB c (l.take k ++ c :: l.drop (k + 1)) = true := by rw [Urp.has_app, Urp.has_hit, Bool.or_true]
  rw [← e] at h1 h2 h3
  exact ⟨h1, h2, h3⟩
theorem no_succ {l : List UInt8} {c : UInt8} {k : Nat} (hk : k < l.length) (hn : No c (l.take k)) (hc : l[k] ≠ c) : No c (l.take (k + 1)) := by
  rw [List.take_succ_eq_append_getElem hk]
  exact Urp.no_app hn fun b hb => by rw [List.mem_singleton.1 hb]; exact hc
theorem byte_eq (a b : UInt8) : (((a.toNat : Int)) == (b.toNat : Int)) = (a == b) := by
  rw [Bool.eq_iff_iff, beq_iff_eq, beq_iff_eq]
  constructor
  · intro h
    have h2 : a.toNat = b.toNat := by omega
    exact UInt8.toNat_inj.1 h2
  · rintro rfl; rfl
end Cm
set_option maxHeartbeats 2000000 in
theorem rcut_any (s : ByteArray) (c : UInt8) (w : World) (hs : s.size ≤ 100000000) : Calls Tryz.prog 33 #[.string s, .int .u8 c.toNat] w fun e w' => e = .returned (.tuple #[.string (bA (bef c s.data.toList)), .string (bA (aft c s.data.toList)), .bool (hasB c s.data.toList)]) ∧ Below w.heap.size w w' := by
  go_enter Tryz.func33, Tryz.ntmps33
  go_wp2
  go_loopw [7] (fun i wr => ∃ k : Nat, k ≤ s.size ∧ i = .int .i64 k ∧ Hid (No c (s.data.toList.take k)) ∧ wr = w) (fun i _ => s.size - (intOf i).toNat)
  case atStart => exact ⟨0, by omega, rfl, Lib.hid (fun b hb => by simp at hb), rfl⟩
  case round =>
    obtain ⟨k, hk, rfl, hno, rfl⟩ := hrel
    by_cases hlt : k < s.size
    · have hlt2 : k < s.data.toList.length := by simpa using hlt
      have eg : s.data.toList[k] = s[k] := by simp; rfl
      have hb := Cm.byte_eq s[k] c
      cases hc : s[k] == c with
      | true =>
        rw [hc] at hb
        obtain ⟨h1, h2, h3⟩ := Cm.cut_hit hlt2 hno.out (by rw [eg]; exact beq_iff_eq.1 hc)
        have t1 := Byt.take_ext s k
        have t2 := Byt.drop_ext s (k + 1)
        have HR : Hid (bA (bef c s.data.toList) = s.extract 0 k ∧ bA (aft c s.data.toList) = s.extract (k + 1) s.size ∧ hasB c s.data.toList = true) := Lib.hid ⟨by rw [h1, t1], by rw [h2, t2], h3⟩
        clear h1 h2 h3 t1 t2 eg hc
        have hk1 : (k : Int) + 1 ≤ (s.size : Int) := by omega
        go_wp2
        go_quiet (fail)
        go_wp2
        go_ret3
        exact ⟨by rw [HR.out.1, HR.out.2.1, HR.out.2.2]; rfl, below_drewN' (Below.refl _ _) _⟩
      | false =>
        rw [hc] at hb
        have HN := Lib.hid (Cm.no_succ hlt2 hno.out (by rw [eg]; exact beq_eq_false_iff_ne.1 hc))
        clear eg hc
        go_wp2_with fail
        exact ⟨⟨k + 1, by omega, by go_num, HN, trivial⟩, by simp [intOf]; omega⟩
    · obtain rfl : k = s.size := by omega
      have hn := hno.out
      rw [List.take_of_length_le (by simp)] at hn
      have HR : Hid (bA (bef c s.data.toList) = s ∧ bA (aft c s.data.toList) = ⟨#[]⟩ ∧ hasB c s.data.toList = false) := Lib.hid ⟨by rw [Urp.bef_no hn], by rw [Urp.aft_no hn], Urp.no_has hn⟩
      clear hn
      go_wp2_with fail
      go_ret3
      exact ⟨by rw [HR.out.1, HR.out.2.1, HR.out.2.2]; rfl, Below.refl _ _⟩
end Go.Proofs.YtinjkpbpkedfnaaGreatDoor
