/- The walk of the statement that a host is read from its text as itself. -/
import Derived.Test.YtknadldebedpiaaDoorHostAwake
import Derived.Test.YtknadldebedpiaaDoorHostMath2
import Derived.Laws.StructEq
namespace Go.Proofs.YtknadldebedpiaaDoor
open Go.RowKit

theorem size_at_lower (s : ByteArray) (hs : s.size ≤ maxLen) : (⟨(Oct.lower s.data.toList).toArray⟩ : ByteArray).size ≤ maxLen := lower_size s hs

set_option maxHeartbeats 2000000 in
theorem walk_HostBack (s : ByteArray) (w : World) (hs : s.size ≤ maxLen) (hT : Tab w) : Calls Tryd.prog 6 #[.string s] w fun e w' => e = .returned (.bool true) ∧ Below w.heap.size w w' := by
  obtain ⟨n, hn⟩ : ∃ n : ByteArray, n = ⟨(Oct.lower s.data.toList).toArray⟩ := ⟨_, rfl⟩
  have hns := lower_size s hs
  rw [← hn] at hns
  have hlo : ∀ W, Calls Tryd.prog 18 #[.string s] W fun e w' => e = .returned (.string n) ∧ Below W.heap.size W w' := fun W => by rw [hn]; exact lower_any s W hs
  have hpn : Hst.parse n.data.toList = Hst.parse s.data.toList := by rw [hn]; exact parse_lower _
  have h1 := fun W => parse_any s W hs
  have h2 := fun W => parse_any n W hns
  rw [hpn] at h2
  have HLO := Lib.hid hlo
  have HT := Lib.hid hT
  cases hp : Hst.parse s.data.toList with
  | none =>
    rw [hp] at h1 h2
    have H1 : Hid (∀ W, Calls Tryd.prog 12 #[.string s] W fun e w' => e = .returned (.tuple #[.agg #[.string ⟨#[]⟩, .bool false, .int .u32 0], .int .i64 20]) ∧ Below W.heap.size W w') := h1
    have H2 : Hid (∀ W, Calls Tryd.prog 12 #[.string n] W fun e w' => e = .returned (.tuple #[.agg #[.string ⟨#[]⟩, .bool false, .int .u32 0], .int .i64 20]) ∧ Below W.heap.size W w') := h2
    clear h1 h2 hlo hpn hp hT hn hns
    go_enter Tryd.func6, Tryd.ntmps6
    go_wp2_with fail
    refine (awake_any _ HT.out).mono ?_
    rintro e w1 ⟨rfl, hb1⟩
    go_wp2_with fail
    refine (H1.out _).mono ?_
    rintro e w2 ⟨rfl, hb2⟩
    go_wp2_with fail
    refine (HLO.out _).mono ?_
    rintro e w3 ⟨rfl, hb3⟩
    go_wp2_with fail
    refine (H2.out _).mono ?_
    rintro e w4 ⟨rfl, hb4⟩
    have hB3 := Below.onto1 (Below.onto hb1 hb2) hb3
    have q3 := (HBox.new w2 ⟨#[]⟩ false 0).below hb3 (by simp)
    have q4 := q3.below hb4 q3.lt
    have c0 := q4.c0; have c1 := q4.c1; have c2 := q4.c2
    have hl := q4.lt
    have hB4 := Below.onto hB3 hb4
    clear hb1 hb2 hb3 hb4 hB3 q3 q4
    go_wp2_with fail
    go_ret
    exact ⟨rfl, hB4.alloc hB4.size _⟩
  | some h =>
    have hr : Hst.read (Oct.lower s.data.toList) = some h := hp
    have htx := text_read hr
    have hrg := read_range hr
    obtain ⟨nm, hnm⟩ : ∃ nm : ByteArray, nm = ⟨h.name.toArray⟩ := ⟨_, rfl⟩
    obtain ⟨b, hb⟩ : ∃ b, b = h.v4 := ⟨_, rfl⟩
    obtain ⟨a, ha⟩ : ∃ a, a = h.addr := ⟨_, rfl⟩
    rw [hp] at h1 h2
    have H1 : Hid (∀ W, Calls Tryd.prog 12 #[.string s] W fun e w' => e = .returned (.tuple #[.agg #[.string nm, .bool b, .int .u32 a], .int .i64 0]) ∧ Below W.heap.size W w') := by rw [hnm, hb, ha]; exact h1
    have H2 : Hid (∀ W, Calls Tryd.prog 12 #[.string n] W fun e w' => e = .returned (.tuple #[.agg #[.string nm, .bool b, .int .u32 a], .int .i64 0]) ∧ Below W.heap.size W w') := by rw [hnm, hb, ha]; exact h2
    have H3 : Hid (∀ W, Tab W → Calls Tryd.prog 14 #[.agg #[.string nm, .bool b, .int .u32 a]] W fun e w' => e = .returned (.string n) ∧ Below W.heap.size W w') := fun W hTW => by
      have := text_any nm b a W hTW (by rw [ha]; exact hrg.1) (by rw [ha]; exact hrg.2)
      rw [hn, ← htx]
      rw [hnm, hb, ha] at this ⊢
      exact this
    clear h1 h2 hlo hpn hp hT hn hns hr htx hrg hnm hb ha
    go_enter Tryd.func6, Tryd.ntmps6
    go_wp2_with fail
    refine (awake_any _ HT.out).mono ?_
    rintro e w1 ⟨rfl, hb1⟩
    go_wp2_with fail
    refine (H1.out _).mono ?_
    rintro e w2 ⟨rfl, hb2⟩
    go_wp2_with fail
    refine (HLO.out _).mono ?_
    rintro e w3 ⟨rfl, hb3⟩
    go_wp2_with fail
    refine (H2.out _).mono ?_
    rintro e w4 ⟨rfl, hb4⟩
    have hB3 := Below.onto1 (Below.onto hb1 hb2) hb3
    have q3 := (HBox.new w2 nm b a).below hb3 (by simp)
    have q4 := q3.below hb4 q3.lt
    have hl4 := q4.lt
    have hB4 := Below.onto hB3 hb4
    have hB4' := hB4.alloc hB4.size (.cells #[.string nm, .bool b, .int .u32 a] 25)
    have c0 := q4.c0; have c1 := q4.c1; have c2 := q4.c2
    have HT4 := Lib.hid (HT.out.below hB4')
    clear hb1 hb2 hb3 hb4 hB3 q3 hB4
    go_wp2_with fail
    refine (H3.out _ HT4.out).mono ?_
    rintro e w5 ⟨rfl, hb5⟩
    have hx : Below w4.heap.size w4 w5 := ((Below.refl _ _).alloc (Nat.le_refl _) _).trans (hb5.mono (by simp))
    have p5 := (HBox.new w4 nm b a).below hb5 (by simp)
    have q5 := q4.below hx q4.lt
    have hB5 := hB4'.trans (hb5.mono hB4'.size)
    clear c0 c1 c2 q4 hx hB4' hb5
    go_wp2_with fail
    refine (H2.out _).mono ?_
    rintro e w6 ⟨rfl, hb6⟩
    have p6 := p5.below hb6 p5.lt
    have q6 := q5.below hb6 q5.lt
    have hB6 := Below.onto hB5 hb6
    clear p5 q5 hB5 hb6
    go_wp2_with fail
    refine (HLO.out _).mono ?_
    rintro e w7 ⟨rfl, hb7⟩
    have hx : Below w6.heap.size w6 w7 := ((Below.refl _ _).alloc (Nat.le_refl _) _).trans (hb7.mono (by simp))
    have r7 := (HBox.new w6 nm b a).below hb7 (by simp)
    have p7 := p6.below hx p6.lt
    have q7 := q6.below hx q6.lt
    have hB7 := Below.onto1 hB6 hb7
    have c0 := q7.c0; have c1 := q7.c1; have c2 := q7.c2
    have d0 := p7.c0; have d1 := p7.c1; have d2 := p7.c2
    have e0 := r7.c0; have e1 := r7.c1; have e2 := r7.c2
    clear p6 q6 p7 q7 r7 hB6 hb7 hx
    go_wp2_with fail
    go_ret
    exact ⟨rfl, hB7⟩
end Go.Proofs.YtknadldebedpiaaDoor
