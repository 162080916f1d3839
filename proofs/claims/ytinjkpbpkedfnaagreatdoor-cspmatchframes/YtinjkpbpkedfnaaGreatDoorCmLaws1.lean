/- The walks of the statements on kinds' numbers, on texts. -/
import Derived.Test.YtinjkpbpkedfnaaGreatDoorCmAwake
namespace Go.Proofs.YtinjkpbpkedfnaaGreatDoor
open Go.RowKit Go.Deep

set_option maxHeartbeats 1000000 in
theorem eqIn_src (a : Cm.Src) (w : World) : (Op.equalIn 10000 24 (.agg #[.int .i64 a.kind, .string (bA a.scheme), .string (bA a.host), .int .i64 a.port]) (.agg #[.int .i64 a.kind, .string (bA a.scheme), .string (bA a.host), .int .i64 a.port])).run Tryz.prog w = .ok true w := by
  simp [go_sem]
theorem walk_CspmatchNames (w : World) (hT : Tab w) (hT8 : Tab8 w) : Calls Tryz.prog 3 #[] w fun e w' => e = .returned (.bool true) ∧ Below w.heap.size w w' := by
  have hcall := awake11_any w hT hT8
  go_enter Tryz.func3, Tryz.ntmps3
  go_wp2_with fail
  refine hcall.mono ?_
  rintro e w1 ⟨rfl, hb1⟩
  go_wp2_with fail
  go_ret
  exact ⟨rfl, hb1⟩
set_option maxHeartbeats 2000000 in
theorem walk_CspmatchReads (s : ByteArray) (w : World) (hs : s.size ≤ maxLen) (hT : Tab w) (hT8 : Tab8 w) : Calls Tryz.prog 4 #[.string s] w fun e w' => e = .returned (.bool true) ∧ Below w.heap.size w w' := by
  obtain ⟨t, rfl⟩ : ∃ t, s = bA t := ⟨s.data.toList, rfl⟩
  rw [bA_size] at hs
  have HA := Lib.hid (awake11_any w hT hT8)
  have HT := Lib.hid hT; have HT8 := Lib.hid hT8
  clear hT hT8
  by_cases hlt : 2000 < t.length
  · have hlt' : (2000 : Int) < (t.length : Int) := by omega
    go_enter Tryz.func4, Tryz.ntmps4
    go_wp2_with fail
    refine HA.out.mono ?_
    rintro e w1 ⟨rfl, hb1⟩
    go_wp2_with fail
    go_ret
    exact ⟨rfl, hb1⟩
  · have hlt' : ¬ (2000 : Int) < (t.length : Int) := by omega
    have heq := eqIn_src (Cm.parse t)
    have c1 := fun W h1 h2 => cmParse_any t W h1 h2 (by omega)
    have c2 := fun W => rcmParse_any t W (by omega)
    obtain ⟨x, hx⟩ : ∃ x, Cm.parse t = x := ⟨_, rfl⟩
    rw [hx] at heq c1 c2
    unfold srcV srcC at c1 c2
    have C1 := Lib.hid c1; have C2 := Lib.hid c2
    clear c1 c2 hx
    go_enter Tryz.func4, Tryz.ntmps4
    go_wp2_with fail
    refine HA.out.mono ?_
    rintro e w1 ⟨rfl, hb1⟩
    go_wp2_with fail
    refine (C1.out _ (tab_below HT.out hb1) (HT8.out.below hb1)).mono ?_
    rintro e w2 ⟨rfl, hb2⟩
    go_wp2_with fail
    refine (C2.out _).mono ?_
    rintro e w3 ⟨rfl, hb3⟩
    go_wp2_with fail
    go_ret
    exact ⟨rfl, Below.onto (Below.onto hb1 hb2) hb3⟩
end Go.Proofs.YtinjkpbpkedfnaaGreatDoor
