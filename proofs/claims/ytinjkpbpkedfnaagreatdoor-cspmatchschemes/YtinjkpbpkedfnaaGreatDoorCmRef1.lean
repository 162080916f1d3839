/- The contracts of the document's scheme, cut, domain and pattern. -/
import Derived.Test.YtinjkpbpkedfnaaGreatDoorCmMathAll
import Derived.Test.YtinjkpbpkedfnaaGreatDoorOctAll
namespace Go.Proofs.YtinjkpbpkedfnaaGreatDoor
open Go.RowKit
open Oct (lower digitI letterI numOk val)
open Urp (bef aft hasB No)

namespace Cm
/-- The first k bytes are of a scheme. -/
def schTo (s : List UInt8) (k : Nat) : Prop := ∀ (i : Nat) (h : i < s.length), i < k → (if i = 0 then letB s[i] else schB s[i]) = true
theorem schTo.succ {s : List UInt8} {k : Nat} (h : schTo s k) (hk : k < s.length) (hx : (if k = 0 then letB s[k] else schB s[k]) = true) : schTo s (k + 1) := fun i hi hik => by
  by_cases e : i = k
  · subst e; exact hx
  · exact h i hi (by omega)
theorem while_is (p : UInt8 → Bool) : ∀ (r : List UInt8) (j : Nat), j ≤ r.length → (∀ (i : Nat) (h : i < r.length), i < j → p r[i] = true) → (∀ h : j < r.length, p r[j] = false) → (r.takeWhile p).length = j
  | [], j, hj, _, _ => by simp at hj ⊢; omega
  | c :: r, 0, _, _, h2 => by
    have := h2 (by simp)
    rw [List.takeWhile_cons]
    simp only [List.getElem_cons_zero] at this
    rw [this]; rfl
  | c :: r, j + 1, hj, h1, h2 => by
    have hc := h1 0 (by simp) (by omega)
    simp only [List.getElem_cons_zero] at hc
    rw [List.takeWhile_cons, hc]
    simp only [if_true, List.length_cons]
    rw [while_is p r j (by simpa using hj) (fun i hi hij => by have := h1 (i + 1) (by simpa using hi) (by omega); simpa using this) (fun h => by have := h2 (by simpa using h); simpa using this)]
theorem schTo.stop {s : List UInt8} {k : Nat} (h : schTo s k) (hk : k ≤ s.length) (hx : ∀ h : k < s.length, (if k = 0 then letB s[k] else schB s[k]) = false) : schN s = k := by
  cases s with
  | nil => simp at hk; subst hk; rfl
  | cons c r =>
    show (if letB c then 1 + (r.takeWhile schB).length else 0) = k
    cases k with
    | zero =>
      have := hx (by simp)
      simp at this
      rw [this]; rfl
    | succ j =>
      have h0 := h 0 (by simp) (by omega)
      simp at h0
      rw [h0, if_pos rfl, while_is schB r j (by simpa using hk) (fun i hi hij => by have := h (i + 1) (by simpa using hi) (by omega); simpa using this) (fun hj => by have := hx (by simpa using hj); simpa using this)]
      omega
theorem schB_is (c : UInt8) : schB c = (letterI c.toNat || (digitI c.toNat || Oct.inI c.toNat [43, 45, 46])) := by
  have h : Oct.inI c.toNat [43, 45, 46] = (c == 43 || c == 45 || c == 46) := by
    unfold Oct.inI
    have e : ∀ b : UInt8, ((b.toNat : Int) == (c.toNat : Int)) = (c == b) := fun b => by
      rw [Bool.eq_iff_iff, beq_iff_eq, beq_iff_eq]
      constructor
      · intro h
        have h2 : b.toNat = c.toNat := by omega
        exact (UInt8.toNat_inj.1 h2).symm
      · rintro rfl; rfl
    simp only [List.any_cons, List.any_nil, Bool.or_false, e, Bool.or_assoc]
  unfold schB
  rw [h]
end Cm
set_option maxHeartbeats 2000000 in
theorem rscheme_any (s : ByteArray) (w : World) (hs : s.size ≤ 100000000) : Calls Tryz.prog 32 #[.string s] w fun e w' => e = .returned (.int .i64 (Cm.schN s.data.toList)) ∧ w = w' := by
  go_enter Tryz.func32, Tryz.ntmps32
  go_wp2
  go_loopw [3] (fun i wr => ∃ k : Nat, k ≤ s.size ∧ i = .int .i64 k ∧ Hid (Cm.schTo s.data.toList k) ∧ wr = w) (fun i _ => s.size - (intOf i).toNat)
  case atStart => exact ⟨0, by omega, rfl, Lib.hid (fun i _ hi => by omega), rfl⟩
  case round =>
    obtain ⟨k, hk, rfl, hto, rfl⟩ := hrel
    by_cases hlt : k < s.size
    · have hlt2 : k < s.data.toList.length := by simpa using hlt
      have hsc := Cm.schB_is s[k]
      have hgo := fun h => hto.out.succ hlt2 h
      have hst : (if k = 0 then Cm.letB s.data.toList[k] else Cm.schB s.data.toList[k]) = false → Cm.schN s.data.toList = k := fun h => hto.out.stop (Nat.le_of_lt hlt2) (fun _ => h)
      have eg : s.data.toList[k] = s[k] := by simp; rfl
      rw [eg] at hgo hst
      have hlet : Cm.letB s[k] = letterI s[k].toNat := rfl
      rw [hlet, hsc] at hgo hst
      have cin := fun W => rin_any s[k].toNat ⟨#[43, 45, 46]⟩ W (by decide)
      have cin2 : ∀ W, Calls Tryz.prog 69 #[.int .u8 s[k].toNat, .string ⟨#[43, 45, 46]⟩] W fun e w' => e = .returned (.bool (Oct.inI s[k].toNat [43, 45, 46])) ∧ W = w' := cin
      obtain ⟨a, ha⟩ : ∃ a, letterI s[k].toNat = a := ⟨_, rfl⟩
      obtain ⟨b, hb⟩ : ∃ b, digitI s[k].toNat = b := ⟨_, rfl⟩
      obtain ⟨c, hc⟩ : ∃ c, Oct.inI s[k].toNat [43, 45, 46] = c := ⟨_, rfl⟩
      have c1 := fun W => rletter_any s[k].toNat W
      have c2 := fun W => rdigit_any s[k].toNat W
      rw [ha] at c1; rw [hb] at c2; rw [hc] at cin2
      rw [ha, hb, hc] at hgo hst
      have C1 := Lib.hid c1; have C2 := Lib.hid c2; have C3 := Lib.hid cin2; have HG := Lib.hid hgo; have HS := Lib.hid hst
      clear hsc hgo hst eg hlet cin cin2 ha hb hc c1 c2
      go_wp2_with fail
      refine (C1.out _).mono ?_
      rintro e w1 ⟨rfl, rfl⟩
      go_wp2_with fail
      refine (C2.out _).mono ?_
      rintro e w1 ⟨rfl, rfl⟩
      go_wp2_with fail
      refine (C3.out _).mono ?_
      rintro e w1 ⟨rfl, rfl⟩
      clear C1 C2 C3
      by_cases hk0 : k = 0
      · subst hk0
        have hz : (((0 : Nat) : Int) == 0) = true := rfl
        cases a with
        | true =>
          go_wp2_with fail
          exact ⟨⟨1, by omega, by rfl, Lib.hid (HG.out rfl), trivial⟩, by simp [intOf]; omega⟩
        | false =>
          have HN := Lib.hid (HS.out rfl)
          go_wp2_with fail
          go_ret
          exact ⟨by rw [HN.out]; rfl, rfl⟩
      · have hz : ((k : Int) == 0) = false := by rw [beq_eq_false_iff_ne]; omega
        have hgo2 := HG.out
        have hst2 := HS.out
        rw [if_neg hk0] at hgo2 hst2
        cases a with
        | true =>
          have HN := Lib.hid (hgo2 rfl)
          clear hgo2 hst2 hk0
          go_wp2_with fail
          exact ⟨⟨k + 1, by omega, by go_num, HN, trivial⟩, by simp [intOf]; omega⟩
        | false =>
          cases b with
          | true =>
            have HN := Lib.hid (hgo2 rfl)
            clear hgo2 hst2 hk0
            go_wp2_with fail
            exact ⟨⟨k + 1, by omega, by go_num, HN, trivial⟩, by simp [intOf]; omega⟩
          | false =>
            cases c with
            | true =>
              have HN := Lib.hid (hgo2 rfl)
              clear hgo2 hst2 hk0
              go_wp2_with fail
              exact ⟨⟨k + 1, by omega, by go_num, HN, trivial⟩, by simp [intOf]; omega⟩
            | false =>
              have HN := Lib.hid (hst2 rfl)
              clear hgo2 hst2 hk0
              go_wp2_with fail
              go_ret
              exact ⟨by rw [HN.out]; rfl, rfl⟩
    · obtain rfl : k = s.size := by omega
      have hn := hto.out.stop (by simp) (fun h => by simp at h)
      have HN := Lib.hid hn
      clear hn
      go_wp2_with fail
      go_ret
      exact ⟨by rw [HN.out]; rfl, rfl⟩
end Go.Proofs.YtinjkpbpkedfnaaGreatDoor
