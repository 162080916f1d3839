/- The walks of the statements on the error's number and on what is read. -/
import Derived.Test.YtknadldebedpiaaDoorHostAwake
import Derived.Test.YtknadldebedpiaaDoorHostRparse
import Derived.Laws.StructEq
namespace Go.Proofs.YtknadldebedpiaaDoor
open Go.RowKit

set_option maxHeartbeats 1000000 in
theorem walk_HostNames (w : World) (hT : Tab w) : Calls Tryd.prog 3 #[] w fun e w' => e = .returned (.bool true) ∧ Below w.heap.size w w' := by
  go_enter Tryd.func3, Tryd.ntmps3
  go_wp2_with fail
  refine (awake_any _ hT).mono ?_
  rintro e w1 ⟨rfl, hb1⟩
  go_wp2_with fail
  go_ret
  exact ⟨rfl, hb1⟩

theorem parseV_form (o : Option Hst.Host) : ∃ n b x er, parseV o = .tuple #[.agg #[.string n, .bool b, .int .u32 x], .int .i64 er] := ⟨_, _, _, _, rfl⟩

set_option maxHeartbeats 1000000 in
theorem walk_HostReads (s : ByteArray) (w : World) (hs : s.size ≤ maxLen) (hT : Tab w) : Calls Tryd.prog 4 #[.string s] w fun e w' => e = .returned (.bool true) ∧ Below w.heap.size w w' := by
  have h1 := fun W => parse_any s W hs
  have h2 := fun W => rparse_any s W hs
  obtain ⟨n, b, x, er, hv⟩ := parseV_form (Hst.parse s.data.toList)
  rw [hv] at h1 h2
  have H1 := Lib.hid h1
  have H2 := Lib.hid h2
  clear h1 h2 hv
  go_enter Tryd.func4, Tryd.ntmps4
  go_wp2_with fail
  refine (awake_any _ hT).mono ?_
  rintro e w1 ⟨rfl, hb1⟩
  go_wp2_with fail
  refine (H1.out _).mono ?_
  rintro e w2 ⟨rfl, hb2⟩
  go_wp2_with fail
  refine (H2.out _).mono ?_
  rintro e w3 ⟨rfl, hb3⟩
  have q2 : HBox w3 w2.heap.size n b x := (HBox.new w2 n b x).below hb3 (by simp)
  have c0 := q2.c0; have c1 := q2.c1; have c2 := q2.c2
  have hl := q2.lt
  have hB := Below.onto1 (Below.onto hb1 hb2) hb3
  clear hb1 hb2 hb3 q2
  go_wp2_with fail
  go_ret
  exact ⟨rfl, hB.alloc hB.size _⟩
end Go.Proofs.YtknadldebedpiaaDoor
