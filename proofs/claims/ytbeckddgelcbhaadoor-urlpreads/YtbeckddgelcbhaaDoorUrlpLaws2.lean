/- The walk of the statement on the URL that any text is. -/
import Derived.Test.YtbeckddgelcbhaaDoorUrlpAwake
import Derived.Test.YtbeckddgelcbhaaDoorUrlpRef4
namespace Go.Proofs.YtbeckddgelcbhaaDoor
open Go.RowKit

set_option maxHeartbeats 4000000 in
set_option maxRecDepth 100000 in
theorem walk_UrlpReads (s : ByteArray) (w : World) (hs : s.size ≤ maxLen) (hT : Tab w) (hT8 : Tab8 w) : Calls Tryd.prog 4 #[.string s] w fun e w' => e = .returned (.bool true) ∧ Below w.heap.size w w' := by
  unfold maxLen at hs
  have HA := Lib.hid (awake_any w hT hT8)
  have HT8 := Lib.hid hT8
  clear hT hT8
  by_cases hb : 3000 < s.size
  · have hb' : (3000 : Int) < (s.size : Int) := by omega
    clear hb
    go_enter Tryd.func4, Tryd.ntmps4
    go_wp2_with fail
    refine HA.out.mono ?_
    rintro e w1 ⟨rfl, hb1⟩
    go_wp2_with fail
    go_ret
    exact ⟨rfl, hb1⟩
  · have hb' : s.size ≤ 3000 := by omega
    obtain ⟨l, hl⟩ : ∃ l, s = bA l := ⟨s.data.toList, rfl⟩
    subst hl
    have hll : l.length ≤ 4000 := by rw [bA_size] at hb'; omega
    have hU := fun W h => uparse_any l W hll h
    have hV := fun W => ruparse_any l W hll
    unfold resV urlV uCells at hU hV
    obtain ⟨x, hx⟩ : ∃ x, getU (Urp.parse l) = x := ⟨_, rfl⟩
    obtain ⟨er, her⟩ : ∃ x, errU (Urp.parse l) = x := ⟨_, rfl⟩
    rw [hx, her] at hU hV
    have HU := Lib.hid hU
    have HV := Lib.hid hV
    have hb2 : (l.length : Int) ≤ 3000 := by rw [bA_size] at hb'; omega
    clear hb hU hV hx her hs hb'
    go_enter Tryd.func4, Tryd.ntmps4
    go_wp2_with fail
    refine HA.out.mono ?_
    rintro e w1 ⟨rfl, hb1⟩
    have HT1 := Lib.hid (HT8.out.below hb1)
    go_wp2_with fail
    refine (HU.out _ HT1.out).mono ?_
    rintro e w2 ⟨rfl, hb2⟩
    have b2 := below_on hb1 hb2
    have b2' := b2.alloc (o := .cells (uCells x) 27) b2.size
    have q2 := UBox.new w2 x
    clear hb2
    go_wp2_with fail
    refine (HV.out _).mono ?_
    rintro e w3 ⟨rfl, hb3⟩
    have b3 := below_on b2' hb3
    have q3 := q2.keep hb3
    have b4 := b3.alloc (o := .cells (uCells x) 27) b3.size
    have l3 := q3.lt
    have n3 : w2.heap.size ≠ w3.heap.size := by omega
    clear hb3 q2 b2 b2'
    have c0 := q3.c0; have c1 := q3.c1; have c2 := q3.c2; have c3 := q3.c3; have c4 := q3.c4; have c5 := q3.c5; have c6 := q3.c6; have c7 := q3.c7; have c8 := q3.c8
    go_wp2_with fail
    go_ret
    exact ⟨rfl, b4⟩
end Go.Proofs.YtbeckddgelcbhaaDoor
