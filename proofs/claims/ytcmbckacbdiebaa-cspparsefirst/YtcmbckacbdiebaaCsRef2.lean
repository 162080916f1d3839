/- The contracts of the document's text of a policy. -/
import Derived.Test.YtcmbckacbdiebaaCsMath2
import Derived.Test.YtcmbckacbdiebaaCsSeen
namespace Go.Proofs.Ytcmbckacbdiebaa
open Go.RowKit

namespace Cs
theorem dirT_succ {n : List UInt8} {l : List (List UInt8)} {k : Nat} (h : k < l.length) : dirT n (l.take (k + 1)) = dirT n (l.take k) ++ [32] ++ l[k] := by
  unfold dirT
  rw [List.take_succ_eq_append_getElem h, List.flatMap_append]
  simp
theorem dirT_le (n : List UInt8) (l : List (List UInt8)) (k : Nat) : (dirT n (l.take k)).length ≤ (dirT n l).length := by
  have e : dirT n l = dirT n (l.take k) ++ (l.drop k).flatMap fun w => 32 :: w := by
    unfold dirT
    rw [List.append_assoc, ← List.flatMap_append, List.take_append_drop]
  rw [e, List.length_append]; omega
end Cs
set_option maxHeartbeats 2000000 in
theorem rwords10_any (n : List UInt8) (A : Option Addr) (c : Nat) (l : List (List UInt8)) (w : World) (hl : l.length ≤ 100000000) (hlen : (Cs.dirT n l).length ≤ 1000000000) (hA : SeenT w A l) :
    Calls Try.prog 29 #[.string (bA n), .slice A l.length c] w fun e w' => e = .returned (.string (bA (Cs.dirT n l))) ∧ w = w' := by
  have HA := Lib.hid hA
  have HL := Lib.hid (Cs.dirT_le n l)
  have h0 : Cs.dirT n (l.take 0) = n := by unfold Cs.dirT; simp
  have H0 := Lib.hid h0
  clear hA h0
  go_enter Try.func29, Try.ntmps29
  go_wp2
  go_loopw [0, 5] (fun nv i wr => ∃ k : Nat, k ≤ l.length ∧ i = .int .i64 k ∧ nv = .string (bA (Cs.dirT n (l.take k))) ∧ wr = w) (fun _ i _ => l.length - (intOf i).toNat)
  case atStart => exact ⟨0, by omega, rfl, by rw [H0.out], rfl⟩
  case round =>
    obtain ⟨k, hk, rfl, rfl, rfl⟩ := hrel
    by_cases hlt : k < l.length
    · obtain ⟨g, o, rfl, hg, hc⟩ := HA.out (by omega)
      have hce := hc k hlt
      have hsu := Cs.dirT_succ (n := n) hlt
      have hle := HL.out k
      have hle1 := HL.out (k + 1)
      rw [hsu] at hle1
      obtain ⟨x, hx⟩ : ∃ x, l[k] = x := ⟨_, rfl⟩
      rw [hx] at hce hsu hle1
      unfold Oct.strV at hce
      obtain ⟨acc, hacc⟩ : ∃ acc, Cs.dirT n (l.take k) = acc := ⟨_, rfl⟩
      rw [hacc] at hsu hle hle1 ⊢
      simp only [List.length_append] at hle1
      have HS := Lib.hid hsu
      have q1 : ¬ 9223372036854775807 < acc.length + 1 := by omega
      have q2 : ¬ 9223372036854775807 < acc.length + 1 + x.length := by simp only [List.length_cons, List.length_nil] at hle1; omega
      clear hc hx hsu hacc hle hle1
      go_wp2_with fail
      exact ⟨⟨k + 1, by omega, by go_num, by rw [HS.out, show ({ data := #[32] } : ByteArray) = bA [32] from rfl, bA_app, bA_app], trivial⟩, by simp [intOf]; omega⟩
    · obtain rfl : k = l.length := by omega
      have HT : Hid (Cs.dirT n (l.take l.length) = Cs.dirT n l) := Lib.hid (by rw [List.take_of_length_le (Nat.le_refl _)])
      go_wp2_with fail
      go_ret
      exact ⟨by rw [HT.out]; rfl, rfl⟩
set_option maxHeartbeats 4000000 in
theorem rcsText_any (p : Cs.Pol) (v : Value) (w : World) (hf : FitP p) (h1 : (Cs.dirT Cs.nA p.anc).length ≤ 1000000000) (h2 : (Cs.dirT Cs.nB p.box).length ≤ 1000000000) (hp : PolAt w p v) :
    Calls Try.prog 18 #[v] w fun e w' => e = .returned (.string (bA (Cs.text p))) ∧ Below w.heap.size w w' := by
  obtain ⟨A, c, B, d, rfl, ha, hb⟩ := hp
  have hb0 : Below w.heap.size w (w.alloc (.cells (polC p A c B d) 26)) := (Below.refl _ _).alloc (Nat.le_refl _) _
  have k1 := fun W z => rwords10_any Cs.nA A c p.anc W hf.anc h1 z
  have k2 := fun W z => rwords10_any Cs.nB B d p.box W hf.box h2 z
  have hx := CBox.new w 26 (polC p A c B d)
  have HA := Lib.hid (ha.below hb0); have HBB := Lib.hid (hb.below hb0); have HX := Lib.hid hx; have HB0 := Lib.hid hb0
  have ht : Cs.text p = (if p.hasAnc then Cs.dirT Cs.nA p.anc else []) ++ (if p.hasAnc && p.hasBox then [59, 32] else []) ++ (if p.hasBox then Cs.dirT Cs.nB p.box else []) := rfl
  rw [ht]
  obtain ⟨xa, pa, xb, pb⟩ := p
  dsimp only at *
  obtain ⟨t1, e1⟩ : ∃ t, Cs.dirT Cs.nA pa = t := ⟨_, rfl⟩
  obtain ⟨t2, e2⟩ : ∃ t, Cs.dirT Cs.nB pb = t := ⟨_, rfl⟩
  rw [e1] at k1 h1 ⊢
  rw [e2] at k2 h2 ⊢
  have K1 := Lib.hid k1; have K2 := Lib.hid k2
  unfold polC at *
  have c0 := HX.out.c 0; have c1 := HX.out.c 1; have c2 := HX.out.c 2; have c3 := HX.out.c 3
  have q0 : ¬ 9223372036854775807 < t1.length := by omega
  have q1 : ¬ 9223372036854775807 < t1.length + 2 := by omega
  have q2 : ¬ 9223372036854775807 < t2.length := by omega
  have q3 : ¬ 9223372036854775807 < t1.length + 2 + t2.length := by omega
  clear ha hb hb0 hx k1 k2 ht hf h1 h2
  cases xa <;> cases xb
  · go_enter Try.func18, Try.ntmps18
    go_wp2_with fail
    go_ret
    exact ⟨rfl, HB0.out⟩
  · go_enter Try.func18, Try.ntmps18
    go_wp2_with fail
    refine (K2.out _ HBB.out).mono ?_
    rintro e w1 ⟨rfl, rfl⟩
    go_wp2_with fail
    go_ret
    exact ⟨by simp; rfl, HB0.out⟩
  · go_enter Try.func18, Try.ntmps18
    go_wp2_with fail
    refine (K1.out _ HA.out).mono ?_
    rintro e w1 ⟨rfl, rfl⟩
    go_wp2_with fail
    go_ret
    exact ⟨by simp, HB0.out⟩
  · go_enter Try.func18, Try.ntmps18
    go_wp2_with fail
    refine (K1.out _ HA.out).mono ?_
    rintro e w1 ⟨rfl, rfl⟩
    go_wp2_with fail
    refine (K2.out _ HBB.out).mono ?_
    rintro e w2 ⟨rfl, rfl⟩
    go_wp2_with fail
    go_ret
    exact ⟨by simp [bA_app], HB0.out⟩
end Go.Proofs.Ytcmbckacbdiebaa
