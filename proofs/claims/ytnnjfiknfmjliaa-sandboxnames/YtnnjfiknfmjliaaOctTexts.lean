/- The contract of the document's Texts: are two lists of texts the same? -/
import Derived.Test.YtnnjfiknfmjliaaOctSplit
import Derived.BigQuiet
import Derived.Deep.QuietTactic
namespace Go.Proofs.Ytnnjfiknfmjliaa
open Go.RowKit

theorem owns_view {w : World} {base : Nat} {v : Value} {ps : List (List UInt8)} (h : w.ownsRow base 9 1 v ps.length (ps.map Oct.strV)) :
    (v = .slice none 0 0 ∧ ps = []) ∨ ∃ g cap, v = .slice (some ⟨g, 0, none⟩) ps.length cap ∧ ps.length ≤ maxLen ∧ g < w.heap.size ∧ base ≤ g ∧ ∀ i (h : i < ps.length), w.cell? ⟨g, i, none⟩ = some (Oct.strV ps[i]) := by
  have hc := h
  obtain ⟨_, ⟨h1, h2⟩ | ⟨g, cap, cur, rfl, hb, hg, h3, h4, h5, h6⟩⟩ := h
  · exact .inl ⟨h1, List.length_eq_zero_iff.1 h2⟩
  · refine .inr ⟨g, cap, rfl, by omega, lt_of_block hg, hb, fun i hi => ?_⟩
    have := World.ownsRow.cells hc (g := g) rfl i (Oct.strV ps[i]) (by simp [hi])
    rw [← this]; congr 1; simp [Addr.add]

theorem texts_miss {pa pb : List (List UInt8)} {k : Nat} {x y : List UInt8} (h1 : k < pa.length) (h2 : k < pb.length) (hx : pa[k] = x) (hy : pb[k] = y) (hne : (!x == y) = true) : false = (pa == pb) := by
  symm
  rw [beq_eq_false_iff_ne]
  rintro rfl
  rw [hx] at hy; subst hy
  simp at hne
theorem texts_next {pa pb : List (List UInt8)} {k : Nat} {x y : List UInt8} (h1 : k < pa.length) (h2 : k < pb.length) (hx : pa[k] = x) (hy : pb[k] = y) (hne : (!x == y) = false) (hin : pa.take k = pb.take k) : pa.take (k + 1) = pb.take (k + 1) := by
  have e : x = y := by simpa using hne
  rw [List.take_succ_eq_append_getElem h1, List.take_succ_eq_append_getElem h2, hx, hy, hin, e]
theorem texts_end {pa pb : List (List UInt8)} {k : Nat} (h1 : pa.length ≤ k) (hl : pa.length = pb.length) (hin : pa.take k = pb.take k) : true = (pa == pb) := by
  rw [List.take_of_length_le h1, List.take_of_length_le (by omega)] at hin
  symm; rw [beq_iff_eq]; exact hin
theorem texts_len {pa pb : List (List UInt8)} (hl : ¬ pa.length = pb.length) : false = (pa == pb) := by
  symm
  rw [beq_eq_false_iff_ne]
  rintro rfl
  exact hl rfl
theorem below_drewN' {B : Nat} {a w : World} (h : Below B a w) (n : Nat) : Below B a (w.drewN n) := h.trans ⟨rfl, rfl, rfl, Nat.le_refl _, fun _ _ => rfl⟩

set_option maxHeartbeats 1000000 in
theorem texts_core (g1 g2 c1 c2 : Nat) (pa pb : List (List UInt8)) (w : World) (hl : pa.length = pb.length) (hm : pa.length ≤ maxLen)
    (ha : ∀ i (h : i < pa.length), w.cell? ⟨g1, i, none⟩ = some (Oct.strV pa[i])) (hb : ∀ i (h : i < pb.length), w.cell? ⟨g2, i, none⟩ = some (Oct.strV pb[i])) :
    Calls Try.prog 11 #[.slice (some ⟨g1, 0, none⟩) pa.length c1, .slice (some ⟨g2, 0, none⟩) pa.length c2] w fun e w' => e = .returned (.bool (pa == pb)) ∧ Below w.heap.size w w' := by
  unfold maxLen at hm
  have HL := Lib.hid hl
  have HA := Lib.hid ha
  have HB := Lib.hid hb
  clear ha hb hl
  have h0 : ((pa.length : Int) != (pa.length : Int)) = false := by simp
  go_enter Try.func11, Try.ntmps11
  go_wp2
  clear h0
  go_loopw [5] (fun i wr => ∃ k m : Nat, k ≤ pa.length ∧ i = .int .i64 k ∧ wr = w.drewN m ∧ Hid (pa.take k = pb.take k)) (fun i _ => pa.length - (intOf i).toNat)
  case atStart => exact ⟨0, 0, Nat.zero_le _, rfl, rfl, rfl⟩
  case round =>
    obtain ⟨k, m, hk, rfl, rfl, hin⟩ := hrel
    by_cases hlt : k < pa.length
    · have hlt2 : k < pb.length := by rw [← HL.out]; exact hlt
      have e1 := HA.out k hlt
      have e2 := HB.out k hlt2
      obtain ⟨x, hx⟩ : ∃ x, pa[k] = x := ⟨_, rfl⟩
      obtain ⟨y, hy⟩ : ∃ y, pb[k] = y := ⟨_, rfl⟩
      rw [hx] at e1; rw [hy] at e2
      have HX := Lib.hid hx; have HY := Lib.hid hy
      clear hx hy
      unfold Oct.strV at e1 e2
      go_wp2
      go_quiet (fail)
      go_wp2
      · have hne : (!x == y) = true := by assumption
        go_ret
        exact ⟨Oct.ret_bool (texts_miss hlt hlt2 HX.out HY.out hne), below_drewN' (below_drewN' (Below.refl _ _) _) _⟩
      · have hne : (!x == y) = false := by assumption
        go_roundw
        case rel => exact ⟨k + 1, m + nq, by omega, by go_num, rfl, texts_next hlt hlt2 HX.out HY.out hne hin.out⟩
        case measure => simp [intOf]; omega
    · go_wp2
      go_ret
      exact ⟨Oct.ret_bool (texts_end (by omega) HL.out hin.out), below_drewN' (Below.refl _ _) _⟩

/-- Are two lists of texts, each in memory of the call's own, the same? -/
theorem texts_any (b1 b2 : Nat) (v1 v2 : Value) (pa pb : List (List UInt8)) (w : World) (h1 : w.ownsRow b1 9 1 v1 pa.length (pa.map Oct.strV)) (h2 : w.ownsRow b2 9 1 v2 pb.length (pb.map Oct.strV)) :
    Calls Try.prog 11 #[v1, v2] w fun e w' => e = .returned (.bool (pa == pb)) ∧ Below w.heap.size w w' := by
  have s1 : ∃ ao c, v1 = .slice ao pa.length c := by
    rcases owns_view h1 with ⟨rfl, rfl⟩ | ⟨g, c, rfl, _⟩ <;> exact ⟨_, _, rfl⟩
  have s2 : ∃ ao c, v2 = .slice ao pb.length c := by
    rcases owns_view h2 with ⟨rfl, rfl⟩ | ⟨g, c, rfl, _⟩ <;> exact ⟨_, _, rfl⟩
  by_cases hl : pa.length = pb.length
  · rcases owns_view h1 with ⟨rfl, rfl⟩ | ⟨g1, c1, rfl, hm, _, _, ha⟩
    · obtain ⟨ao, c, rfl⟩ := s2
      have hpb : pb = [] := List.length_eq_zero_iff.1 (by simpa using hl.symm)
      subst hpb
      clear h1 h2 s1 hl
      go_enter Try.func11, Try.ntmps11
      go_wp2
      go_loop [5] (fun i => i = .int .i64 0) (fun _ => 0)
      case atStart => rfl
      case round =>
        subst hrel
        go_wp2
        go_ret
        exact ⟨rfl, Below.refl _ _⟩
    · rcases owns_view h2 with ⟨rfl, rfl⟩ | ⟨g2, c2, rfl, _, _, _, hb⟩
      · have hpa : pa = [] := List.length_eq_zero_iff.1 (by simpa using hl)
        subst hpa
        clear h1 h2 s1 s2 hl hm ha
        go_enter Try.func11, Try.ntmps11
        go_wp2
        go_loop [5] (fun i => i = .int .i64 0) (fun _ => 0)
        case atStart => rfl
        case round =>
          subst hrel
          go_wp2
          go_ret
          exact ⟨rfl, Below.refl _ _⟩
      · rw [← hl]
        exact texts_core g1 g2 c1 c2 pa pb w hl hm ha hb
  · obtain ⟨a1, c1, rfl⟩ := s1
    obtain ⟨a2, c2, rfl⟩ := s2
    have hne : ((pa.length : Int) != (pb.length : Int)) = true := by rw [bne_iff_ne]; omega
    have HL := Lib.hid hl
    clear hl h1 h2
    go_enter Try.func11, Try.ntmps11
    go_wp2
    go_ret
    exact ⟨Oct.ret_bool (texts_len HL.out), Below.refl _ _⟩
end Go.Proofs.Ytnnjfiknfmjliaa
