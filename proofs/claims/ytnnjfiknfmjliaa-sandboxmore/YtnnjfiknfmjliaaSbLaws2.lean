/- The walk of the statement on lists of policies (all of the code and of the document). -/
import Derived.Test.YtnnjfiknfmjliaaSbAwake
namespace Go.Proofs.Ytnnjfiknfmjliaa
open Go.ChangeShapes Go.WideShapes Go.ChangeAt Go.RowKit

/-- The words of the first k policies are few and short. -/
def ShortPs (l : List Cs.Pol) : Prop := ∀ p ∈ l, ShortW p.box
theorem ShortPs.nil : ShortPs (([] : List Cs.Pol).take 0) := fun _ h => by cases h
theorem ShortPs.take {l : List Cs.Pol} {k : Nat} (hk : k < l.length) (h : ShortPs (l.take k)) (hs : ShortW l[k].box) : ShortPs (l.take (k + 1)) := fun p hp => by
  rw [List.take_succ_eq_append_getElem hk] at hp
  rcases List.mem_append.1 hp with hp | hp
  · exact h p hp
  · obtain rfl : p = l[k] := by simpa using hp
    exact hs
theorem ShortPs.few {l : List Cs.Pol} (h : ShortPs l) : ∀ p ∈ l, p.box.length ≤ 10000 ∧ ∀ t ∈ p.box, t.length ≤ 10000 := fun p hp =>
  ⟨Nat.le_trans (h p hp).len (by decide), fun t ht => Nat.le_trans ((h p hp).each t ht) (by decide)⟩
set_option maxHeartbeats 4000000 in
theorem walk_SandboxAll (A : Option Addr) (c : Nat) (l : List Cs.Pol) (w : World) (ha : WidePs w A c l) :
    Calls Try.prog 5 #[.slice A l.length c] w fun e w' => e = .returned (.bool true) ∧ Below w.heap.size w w' := by
  have HA := Lib.hid ha.seen
  have cf1 := fun W (h : l.length ≤ 50) (q : ShortPs l) hA => sbAll_any A c l W (by omega) q.few hA
  have cf2 := fun W (h : l.length ≤ 50) (q : ShortPs l) hA => rall_any A c l W (by omega) (fun p hp => ⟨Nat.le_trans (q.few p hp).1 (by decide), fun t ht => Nat.le_trans ((q.few p hp).2 t ht) (by decide)⟩) hA
  obtain ⟨f, hf⟩ : ∃ f, Sb.all l = f := ⟨_, rfl⟩
  rw [hf] at cf1 cf2
  have HF1 := Lib.hid cf1; have HF2 := Lib.hid cf2
  clear ha cf1 cf2 hf
  go_enter Try.func5, Try.ntmps5
  go_wp2_with fail
  refine (awake12_any _).mono ?_
  rintro e w1 ⟨rfl, hb1⟩
  have HB1 := Lib.hid hb1; have HT1 := Lib.hid (HA.out.below hb1)
  clear hb1 HA
  by_cases q1 : 50 < l.length
  · have q1' : (50 : Int) < (l.length : Int) := by omega
    clear q1
    go_wp2_with fail
    go_ret
    exact ⟨rfl, HB1.out⟩
  have q1' : ¬ (50 : Int) < (l.length : Int) := by omega
  have q2 : l.length ≤ 50 := by omega
  clear q1
  go_wp2_with fail
  clear q1'
  go_loopw [4] (fun iv wr => ∃ k : Nat, k ≤ l.length ∧ iv = .int .i64 k ∧ Hid (ShortPs (l.take k)) ∧ wr = w1) (fun iv _ => l.length - (intOf iv).toNat)
  case atStart => exact ⟨0, by omega, rfl, Lib.hid (fun _ h => by simp at h), rfl⟩
  case round =>
    obtain ⟨k, hk, rfl, hsh, rfl⟩ := hrel
    by_cases hlt : k < l.length
    · obtain ⟨g, q, rfl, hg, hc⟩ := HT1.out (by omega)
      obtain ⟨A1, c1, A2, c2, hcs, _, hsb⟩ := hc k hlt
      have z3 : wr.cell? ⟨g, q + k * 4 + 3, none⟩ = some (.slice A2 l[k].box.length c2) := hcs 3 (by decide)
      have HN := Lib.hid (fun h => hsh.out.take hlt h)
      have HS := Lib.hid (short_any A2 c2 l[k].box wr hsb)
      have HI := Lib.hid (@short_is l[k].box)
      obtain ⟨bx, hbx⟩ : ∃ b, (l[k]'hlt).box = b := ⟨_, rfl⟩
      rw [hbx] at z3 HN HS HI
      clear hc hcs hbx hsb
      go_wp2_with fail
      refine HS.out.mono ?_
      rintro e w5 ⟨rfl, rfl⟩
      cases hsb : shortB bx with
      | false =>
        go_wp2_with fail
        go_ret
        exact ⟨rfl, HB1.out⟩
      | true =>
        have HX := Lib.hid (HN.out (HI.out hsb))
        clear hsb HN HI HS
        go_wp2_with fail
        exact ⟨⟨k + 1, by omega, by go_num, HX, trivial⟩, by simp [intOf]; omega⟩
    · obtain rfl : k = l.length := by omega
      have hx := hsh.out
      rw [List.take_of_length_le (Nat.le_refl _)] at hx
      have HX := Lib.hid hx
      clear hx hsh hlt hk
      go_wp2_with fail
      refine (HF1.out _ q2 HX.out HT1.out).mono ?_
      rintro e w3 ⟨rfl, hb3⟩
      have HB3 := Lib.hid (Below.onto HB1.out hb3); have HT3 := Lib.hid (HT1.out.below hb3)
      clear hb3 HF1
      go_wp2_with fail
      refine (HF2.out _ q2 HX.out HT3.out).mono ?_
      rintro e w4 ⟨rfl, hb4⟩
      have HB4 := Lib.hid (Below.onto HB3.out hb4)
      clear hb4 HF2
      go_wp2_with fail
      go_ret
      exact ⟨rfl, HB4.out⟩
end Go.Proofs.Ytnnjfiknfmjliaa
