/- The contracts of slices.IndexFunc at the parameters, and of coop's endpoint. -/
import Derived.Test.YtgddmihojladfaaGreatDoorCoLeaf
import Derived.Test.YtgddmihojladfaaGreatDoorSfSeen
namespace Go.Proofs.YtgddmihojladfaaGreatDoor
open Go.RowKit

theorem isTo_any (p : Sf.Par) (w : World) : Calls Tryz.prog 53 #[parV p] w fun e w' => e = .returned (.bool (Co.isTo p)) ∧ Below w.heap.size w w' := by
  unfold parV pC
  go_enter Tryz.func53, Tryz.ntmps53
  go_wp2_with fail
  go_ret
  exact ⟨rfl, (Below.refl _ w).alloc (Nat.le_refl _) _⟩
/-- The place that is answered: of a parameter of that key, or -1. -/
def Place (l : List Sf.Par) (i : Int) : Prop := (i = -1 ∧ ∀ p ∈ l, Co.isTo p = false) ∨ ∃ k, ∃ h : k < l.length, i = k ∧ Co.isTo l[k] = true
set_option maxHeartbeats 1000000 in
theorem place_any (A : Option Addr) (c n : Nat) (l : List Sf.Par) (w : World) (hn : l.length = n) (hbig : n ≤ maxLen) (hA : SeenP w A l) :
    Calls Tryz.prog 52 #[.slice A n c, .func (.func 53) #[] #[]] w fun e w' => ∃ i, e = .returned (.int .i64 i) ∧ Below w.heap.size w w' ∧ Place l i := by
  subst hn
  have HA := Lib.hid hA
  clear hA
  unfold maxLen at hbig
  go_enter Tryz.func52, Tryz.ntmps52
  go_wp2_with fail
  go_loopg [5, 8] l.length (fun gg _ s8 wr => ∃ k : Nat, k ≤ l.length ∧ l.length - k ≤ gg ∧ s8 = .int .i64 k ∧ Hid (Below w.heap.size w wr) ∧ Hid (∀ j (h : j < l.length), j < k → Co.isTo l[j] = false))
  case atStart => exact ⟨0, Nat.zero_le _, by omega, rfl, Lib.hid (Below.refl _ w), Lib.hid fun j _ hj => absurd hj (Nat.not_lt_zero _)⟩
  case round =>
    obtain ⟨k, hk, hg, rfl, hb, hno⟩ := hrel
    by_cases hlt : k < l.length
    · have hltz : (k : Int) < (l.length : Int) := by omega
      obtain ⟨g, o, rfl, hgl, hc⟩ := HA.out.below hb.out (by omega)
      obtain ⟨c0, c1, c2, c3⟩ := hc k hlt
      have hcall := fun W => isTo_any l[k] W
      obtain ⟨x, hx⟩ : ∃ x, l[k] = x := ⟨_, rfl⟩
      rw [hx] at c0 c1 c2 c3 hcall
      have HX := Lib.hid hx
      have HC := Lib.hid hcall
      clear hc hx hcall
      obtain ⟨b, hbb⟩ : ∃ b, Co.isTo x = b := ⟨_, rfl⟩
      have HB := Lib.hid hbb
      clear hbb
      go_wp2_with fail
      refine (HC.out _).mono ?_
      rintro e w1 ⟨rfl, hb1⟩
      rw [HB.out]
      cases b with
      | true =>
        go_wp2_with fail
        go_ret
        exact ⟨_, rfl, Below.onto hb.out hb1, .inr ⟨k, hlt, rfl, by rw [HX.out]; exact HB.out⟩⟩
      | false =>
        go_wp2_with fail
        go_roundg (l.length - (k + 1))
        case measure => omega
        case rel =>
          refine ⟨k + 1, by omega, by omega, by go_num, Lib.hid (Below.onto hb.out hb1), Lib.hid fun j hj hjk => ?_⟩
          by_cases e : j = k
          · subst e
            rw [HX.out]; exact HB.out
          · exact hno.out j hj (by omega)
    · have hltz : ¬ (k : Int) < (l.length : Int) := by omega
      have : k = l.length := by omega
      subst this
      go_wp2_with fail
      go_ret
      refine ⟨_, rfl, hb.out, .inl ⟨rfl, fun p hp => ?_⟩⟩
      obtain ⟨j, hj, rfl⟩ := List.getElem_of_mem hp
      exact hno.out j hj hj
set_option maxHeartbeats 1000000 in
theorem endpoint_any (A : Option Addr) (c n : Nat) (l : List Sf.Par) (w : World) (hn : l.length = n) (hbig : n ≤ maxLen) (hk : (Sf.keys l).Nodup) (hA : SeenP w A l) :
    Calls Tryz.prog 43 #[.slice A n c] w fun e w' => e = .returned (.string (bA (Co.endp l))) ∧ Below w.heap.size w w' := by
  have hp := place_any A c n l w hn hbig hA
  subst hn
  have HP := Lib.hid hp
  clear hp
  have HA := Lib.hid hA
  clear hA
  unfold maxLen at hbig
  have HK := Lib.hid hk
  clear hk
  obtain ⟨E, hE⟩ : ∃ E, Co.endp l = E := ⟨_, rfl⟩
  rw [hE]
  have HE := Lib.hid hE
  clear hE
  go_enter Tryz.func43, Tryz.ntmps43
  go_wp2_with fail
  refine HP.out.mono ?_
  rintro e w1 ⟨i, rfl, hb, hi⟩
  rcases hi with ⟨rfl, hno⟩ | ⟨k, hk, rfl, hto⟩
  · obtain rfl : E = [] := HE.out.symm.trans (Co.endp_none hno)
    clear hno
    go_wp2_with fail
    go_ret
    exact ⟨rfl, hb⟩
  · have he := Co.endp_at HK.out hk hto
    obtain ⟨g, o, rfl, hgl, hc⟩ := HA.out.below hb (by omega)
    obtain ⟨c0, c1, c2, c3⟩ := hc k hk
    obtain ⟨x, hx⟩ : ∃ x, l[k] = x := ⟨_, rfl⟩
    rw [hx] at c0 c1 c2 c3 he
    have he := HE.out.symm.trans he
    clear hc hx hto
    have hkz : (k : Int) < (l.length : Int) := by omega
    have hneg : ¬ (k : Int) < 0 := by omega
    by_cases h3 : x.kind = 3
    · rw [if_pos h3] at he
      subst he
      rw [h3] at c1
      go_wp2_with fail
      go_ret
      exact ⟨rfl, hb⟩
    · rw [if_neg h3] at he
      subst he
      go_wp2_with fail
      all_goals first
        | (exfalso; simp_all; done)
        | (go_ret; exact ⟨rfl, hb⟩)
end Go.Proofs.YtgddmihojladfaaGreatDoor
