/- The contracts of host.endsWith, of the closure that holds the longest suffix, and of the document's ends. -/
import Derived.Test.YtehjnidggnfbfaaDoorHostText
import Derived.Test.YtehjnidggnfbfaaDoorOctTexts
import Derived.BigQuiet
import Derived.Deep.QuietTactic
namespace Go.Proofs.YtehjnidggnfbfaaDoor
open Go.RowKit

/-- Are a suffix's labels the last ones? -/
def hitB (ls ks : List (List UInt8)) : Bool := decide (ks.length ≤ ls.length) && ls.drop (ls.length - ks.length) == ks

theorem hit_long {ls ks : List (List UInt8)} (h : ls.length < ks.length) : false = hitB ls ks := by
  unfold hitB; rw [show decide (ks.length ≤ ls.length) = false by simp; omega]; rfl
theorem hit_eq {ls ks : List (List UInt8)} (h : ks.length ≤ ls.length) : (ls.drop (ls.length - ks.length) == ks) = hitB ls ks := by
  unfold hitB; rw [show decide (ks.length ≤ ls.length) = true by simpa using h]; rfl

/-- slices.Equal of texts that lie somewhere. -/
theorem equal_any (g1 o1 c1 g2 o2 c2 : Nat) (pa pb : List (List UInt8)) (w : World) (hm1 : pa.length ≤ 100000) (hm2 : pb.length ≤ 100000)
    (ha : ∀ i (h : i < pa.length), w.cell? ⟨g1, o1 + i, none⟩ = some (Oct.strV pa[i])) (hb : ∀ i (h : i < pb.length), w.cell? ⟨g2, o2 + i, none⟩ = some (Oct.strV pb[i])) :
    Calls Tryd.prog 65 #[.slice (some ⟨g1, o1, none⟩) pa.length c1, .slice (some ⟨g2, o2, none⟩) pb.length c2] w fun e w' => e = .returned (.bool (pa == pb)) ∧ ∃ q, w' = w.drewN q := by
  have hx : ∀ (ps : List (List UInt8)) j (_ : j < ps.length), (ps.map fun p => (⟨p.toArray⟩ : ByteArray)).getD j ByteArray.empty = ⟨ps[j].toArray⟩ := fun ps j hj => by
    rw [List.getD_eq_getElem?_getD, List.getElem?_map, List.getElem?_eq_getElem hj]; rfl
  have h := Tryd.slices_Equal_string g1 o1 pa.length c1 g2 o2 pb.length c2 (pa.map fun p => ⟨p.toArray⟩) (pb.map fun p => ⟨p.toArray⟩) w (by simp) (by simp) (by omega) (by omega)
    (fun j hj => by
      have hj' : j < pa.length := by simpa using hj
      rw [ha j hj', hx pa j hj']; rfl)
    (fun j hj => by
      have hj' : j < pb.length := by simpa using hj
      rw [hb j hj', hx pb j hj']; rfl)
  refine h.mono ?_
  rintro e w' ⟨rfl, hq⟩
  refine ⟨Oct.ret_bool ?_, hq⟩
  rw [List.take_of_length_le (by simp), List.take_of_length_le (by simp), Bool.eq_iff_iff, decide_eq_true_eq, beq_iff_eq]
  constructor
  · intro e
    have := congrArg (List.map fun b : ByteArray => b.data.toList) e
    simpa [List.map_map, Function.comp_def] using this
  · intro e; rw [e]

set_option maxHeartbeats 1000000 in
theorem endsWith_any (g1 c1 g2 c2 : Nat) (ls ks : List (List UInt8)) (w : World) (hm1 : ls.length ≤ 100000) (hm2 : ks.length ≤ 100000) (hc1 : ls.length ≤ c1) (hk0 : 0 < ks.length)
    (ha : ∀ i (h : i < ls.length), w.cell? ⟨g1, i, none⟩ = some (Oct.strV ls[i])) (hb : ∀ i (h : i < ks.length), w.cell? ⟨g2, i, none⟩ = some (Oct.strV ks[i])) :
    Calls Tryd.prog 45 #[.slice (some ⟨g1, 0, none⟩) ls.length c1, .slice (some ⟨g2, 0, none⟩) ks.length c2] w fun e w' => e = .returned (.bool (hitB ls ks)) ∧ ∃ q, w' = w.drewN q := by
  by_cases hl : ks.length ≤ ls.length
  · have hd : (ls.drop (ls.length - ks.length)).length = ks.length := by simp; omega
    have hcall := equal_any g1 (ls.length - ks.length) (c1 - (ls.length - ks.length)) g2 0 c2 (ls.drop (ls.length - ks.length)) ks w (by omega) hm2
      (fun i h => by
        rw [ha (ls.length - ks.length + i) (by omega), List.getElem_drop])
      (fun i h => by rw [Nat.zero_add]; exact hb i h)
    rw [hd, hit_eq hl] at hcall
    obtain ⟨R, hR⟩ : ∃ R, hitB ls ks = R := ⟨_, rfl⟩
    rw [hR] at hcall ⊢
    obtain ⟨n, hn⟩ : ∃ n, ls.length = n := ⟨_, rfl⟩
    obtain ⟨m, hm⟩ : ∃ m, ks.length = m := ⟨_, rfl⟩
    rw [hn] at hm1 hc1
    rw [hm] at hm2 hk0
    rw [hn, hm] at hl hcall ⊢
    have HC := Lib.hid hcall
    clear hcall ha hb hn hm hR hd
    have hne : c1 ≠ n - m := by omega
    have hsub : ((n : Int) - (m : Int)).toNat = n - m := by omega
    have hb0 : (0 : Int) ≤ (n : Int) - (m : Int) := by omega
    have hb1 : (n : Int) - (m : Int) ≤ (n : Int) := by omega
    have hnm : n - (n - m) = m := by omega
    go_enter Tryd.func45, Tryd.ntmps45
    go_wp2_with fail
    refine HC.out.mono ?_
    rintro e w' ⟨rfl, q, rfl⟩
    go_wp2_with fail
    go_ret
    exact ⟨rfl, q, rfl⟩
  · have hlt : ls.length < ks.length := by omega
    have HH := Lib.hid (hit_long hlt)
    clear ha hb
    go_enter Tryd.func45, Tryd.ntmps45
    go_wp2_with fail
    go_ret
    exact ⟨Oct.ret_bool HH.out, 0, rfl⟩

/-- The longest so far, when one suffix more has come. -/
def stepN (ls : List (List UInt8)) (b : Nat) (ks : List (List UInt8)) : Nat := if decide (b < ks.length) && hitB ls ks then ks.length else b

/-- What the closure leaves: the longest in its box; every other block as it was. -/
def Held (W : World) (Bl : Nat) (b : Nat) (e : Ending) (w' : World) : Prop := e = .returned (.tuple #[]) ∧ Boxed w' Bl 3 (.int .i64 b) ∧ W.grownBy w' (some Bl)

theorem grown_drewN (W : World) (q : Nat) (row : Option Nat) : W.grownBy (W.drewN q) row := ⟨rfl, rfl, rfl, Nat.le_refl _, fun _ _ _ => rfl⟩
theorem boxed_drewN {W : World} {B : Nat} {t : TypeId} {v : Value} (h : Boxed W B t v) (q : Nat) : Boxed (W.drewN q) B t v := h

theorem endsWith_is (g1 c1 g2 c2 : Nat) (ls ks : List (List UInt8)) (b : Bool) (w : World) (hm1 : ls.length ≤ 100000) (hm2 : ks.length ≤ 100000) (hc1 : ls.length ≤ c1) (hk0 : 0 < ks.length)
    (ha : ∀ i (h : i < ls.length), w.cell? ⟨g1, i, none⟩ = some (Oct.strV ls[i])) (hb : ∀ i (h : i < ks.length), w.cell? ⟨g2, i, none⟩ = some (Oct.strV ks[i])) (h : hitB ls ks = b) :
    Calls Tryd.prog 45 #[.slice (some ⟨g1, 0, none⟩) ls.length c1, .slice (some ⟨g2, 0, none⟩) ks.length c2] w fun e w' => e = .returned (.bool b) ∧ ∃ q, w' = w.drewN q := by
  subst h; exact endsWith_any g1 c1 g2 c2 ls ks w hm1 hm2 hc1 hk0 ha hb

set_option maxHeartbeats 1000000 in
theorem hold_any (Bl Bo g1 c1 g2 c2 b : Nat) (ls ks : List (List UInt8)) (w : World) (hm1 : ls.length ≤ 100000) (hm2 : ks.length ≤ 100000) (hc1 : ls.length ≤ c1) (hk0 : 0 < ks.length)
    (ha : ∀ i (h : i < ls.length), w.cell? ⟨g1, i, none⟩ = some (Oct.strV ls[i])) (hb : ∀ i (h : i < ks.length), w.cell? ⟨g2, i, none⟩ = some (Oct.strV ks[i]))
    (hBl : Boxed w Bl 3 (.int .i64 b)) (hBo : Boxed w Bo 27 (.slice (some ⟨g1, 0, none⟩) ls.length c1)) :
    Calls Tryd.prog 44 #[.slice (some ⟨g2, 0, none⟩) ks.length c2, .pointer (some ⟨Bl, 0, none⟩), .pointer (some ⟨Bo, 0, none⟩)] w (Held w Bl (stepN ls b ks)) := by
  have x1 := hBl.cell; have x2 := hBl.frozen; have x3 := hBo.cell
  by_cases hlt : b < ks.length
  · cases hh : hitB ls ks with
    | true =>
      have hst : stepN ls b ks = ks.length := by unfold stepN; rw [hh]; simp [hlt]
      have hcall := endsWith_is g1 c1 g2 c2 ls ks true w hm1 hm2 hc1 hk0 ha hb hh
      rw [hst]
      obtain ⟨n, hn⟩ : ∃ n, ls.length = n := ⟨_, rfl⟩
      obtain ⟨m, hm⟩ : ∃ m, ks.length = m := ⟨_, rfl⟩
      rw [hn] at hm1 x3
      rw [hm] at hm2 hlt ⊢
      rw [hn, hm] at hcall
      have HC := Lib.hid hcall
      clear hcall ha hb hn hm hst hh hc1 hk0
      go_enter Tryd.func44, Tryd.ntmps44
      go_wp2_with fail
      refine HC.out.mono ?_
      rintro e w' ⟨rfl, q, rfl⟩
      go_wp2_with fail
      go_end0
      exact ⟨rfl, (boxed_drewN hBl q).set _, ⟨rfl, rfl, rfl, (KeepsWalks.setCell _ _ _).size, fun k hk hne => Below.heap_setCell _ _ _ k (fun e => hne (by rw [e]))⟩⟩
    | false =>
      have hst : stepN ls b ks = b := by unfold stepN; rw [hh]; simp
      have hcall := endsWith_is g1 c1 g2 c2 ls ks false w hm1 hm2 hc1 hk0 ha hb hh
      rw [hst]
      obtain ⟨n, hn⟩ : ∃ n, ls.length = n := ⟨_, rfl⟩
      obtain ⟨m, hm⟩ : ∃ m, ks.length = m := ⟨_, rfl⟩
      rw [hn] at hm1 x3
      rw [hm] at hm2 hlt ⊢
      rw [hn, hm] at hcall
      have HC := Lib.hid hcall
      clear hcall ha hb hn hm hst hh hc1 hk0
      go_enter Tryd.func44, Tryd.ntmps44
      go_wp2_with fail
      refine HC.out.mono ?_
      rintro e w' ⟨rfl, q, rfl⟩
      go_wp2_with fail
      go_end0
      exact ⟨rfl, hBl, grown_drewN w q _⟩
  · have hst : stepN ls b ks = b := by unfold stepN; simp [hlt]
    rw [hst]
    obtain ⟨m, hm⟩ : ∃ m, ks.length = m := ⟨_, rfl⟩
    rw [hm] at hm2 hlt ⊢
    clear ha hb hm hst hc1 hk0
    go_enter Tryd.func44, Tryd.ntmps44
    go_wp2_with fail
    go_end0
    exact ⟨rfl, hBl, World.grownBy.refl w _⟩
end Go.Proofs.YtehjnidggnfbfaaDoor
