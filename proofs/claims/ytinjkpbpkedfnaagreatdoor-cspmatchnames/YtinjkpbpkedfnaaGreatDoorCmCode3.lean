/- The contracts of the program's parts of a text that are cut off: the two closures of parseHost. -/
import Derived.Test.YtinjkpbpkedfnaaGreatDoorCmLeaf
import Derived.Test.YtinjkpbpkedfnaaGreatDoorCmAny
import Derived.Test.YtinjkpbpkedfnaaGreatDoorCmBox
import Derived.Deep.RegionHeld3
import Derived.StillTailTactics
namespace Go.Proofs.YtinjkpbpkedfnaaGreatDoor
open Go.RowKit
open Urp (bef aft hasB No begB)

set_option maxHeartbeats 1000000 in
/-- The closure that cuts a mark off, if there it stands. -/
theorem cutMark_any (B : Nat) (t m : List UInt8) (w : World) (hB : CBox w B 9 #[.string (bA t)]) :
    Calls Tryz.prog 61 #[.string (bA m), .pointer (some ⟨B, 0, none⟩)] w fun e w' => e = .returned (.bool (begB m t)) ∧ CBox w' B 9 #[.string (bA (if begB m t then t.drop m.length else t))] ∧ w.grownBy w' (some B) := by
  have x1 : w.cell? ⟨B, 0, none⟩ = some (.string (bA t)) := hB.c 0
  have x2 := hB.fr 0
  have hc : ∀ W, Calls Tryz.prog 62 #[.string (bA t), .string (bA m)] W fun e w' => e = .returned (.tuple #[.string (bA (if begB m t then t.drop m.length else t)), .bool (begB m t)]) ∧ W = w' := fun W => cutPrefix_any (bA t) (bA m) W
  obtain ⟨b, hb⟩ : ∃ b, begB m t = b := ⟨_, rfl⟩
  obtain ⟨r, hr⟩ : ∃ r, (if begB m t then t.drop m.length else t) = r := ⟨_, rfl⟩
  rw [hr, hb] at hc
  rw [hr, hb]
  have HC := Lib.hid hc
  clear hc hr hb
  go_enter Tryz.func61, Tryz.ntmps61
  go_wp2_with fail
  refine (HC.out _).mono ?_
  rintro e w1 ⟨rfl, rfl⟩
  go_wp2_with fail
  go_ret
  exact ⟨rfl, hB.set _, g_set (g_refl _ _) _ (.inr rfl)⟩
theorem go_to (s : List UInt8) (k : Nat) (h : k ≤ s.length) (W : World) : (Instr.slice 9 (.string (bA s)) none (some (.int .i64 (k : Int))) none).run Tryz.prog W = .ok (.string (bA (s.take k))) W := by
  have te : (bA s).extract 0 k = bA (s.take k) := Byt.take_ext (bA s) k
  have h1 : (k : Int) ≤ (s.length : Int) := by omega
  simp [go_sem, h1, te, Tryz.underlying9]
theorem go_from (s : List UInt8) (k : Nat) (h : k ≤ s.length) (W : World) : (Instr.slice 9 (.string (bA s)) (some (.int .i64 (k : Int))) none none).run Tryz.prog W = .ok (.string (bA (s.drop k))) W := by
  have te : (bA s).extract k s.length = bA (s.drop k) := by have := Byt.drop_ext (bA s) k; rw [bA_size] at this; exact this
  have h1 : (k : Int) ≤ (s.length : Int) := by omega
  simp [go_sem, h1, te, Tryz.underlying9]
/-- What stands while a part is cut off. -/
def RdyC (w : World) (B : Nat) (t : List UInt8) (W : World) : Prop := CBox W B 9 #[.string (bA t)] ∧ w.grownBy W (some B)
theorem RdyC.below {w W W' : World} {B : Nat} {t : List UInt8} (h : RdyC w B t W) (hb : Below W.heap.size W W') : RdyC w B t W' := ⟨h.1.keep hb, g_below h.2 hb⟩
theorem RdyC.drew {w W : World} {B : Nat} {t : List UInt8} (h : RdyC w B t W) : RdyC w B t W.drew := h.below (Below.refl _ _).drew
theorem RdyC.cs {w W : World} {B : Nat} {t : List UInt8} (h : RdyC w B t W) : W.cell? ⟨B, 0, none⟩ = some (.string (bA t)) ∧ W.frozen? ⟨B, 0, none⟩ = false ∧ RdyC w B t W := ⟨h.1.c 0, h.1.fr 0, h⟩
set_option maxHeartbeats 2000000 in
set_option maxRecDepth 20000 in
/-- The closure that cuts off what stands ahead of some marks. -/
theorem cutUp_any (B : Nat) (t : List UInt8) (ms : List UInt8) (w : World) (hB : CBox w B 9 #[.string (bA t)])
    (hix : ∀ W, Calls Tryz.prog 64 #[.string (bA t), .string (bA ms)] W fun e w' => e = .returned (.int .i64 (Lib.indexAny t ms)) ∧ Below W.heap.size W w') :
    Calls Tryz.prog 63 #[.string (bA ms), .pointer (some ⟨B, 0, none⟩)] w fun e w' => e = .returned (.string (bA (t.takeWhile fun b => !ms.contains b))) ∧ CBox w' B 9 #[.string (bA (t.drop (t.takeWhile fun b => !ms.contains b).length))] ∧ w.grownBy w' (some B) := by
  obtain ⟨p, hp⟩ : ∃ p, (t.takeWhile fun b => !ms.contains b) = p := ⟨_, rfl⟩
  have hpre : t.take p.length = p := by
    rw [← hp]
    have e := List.takeWhile_append_dropWhile (p := fun b => !ms.contains b) (l := t)
    generalize (t.takeWhile fun b => !ms.contains b) = a at e ⊢
    rw [← e]; simp
  have hple : p.length ≤ t.length := by rw [← hp]; exact (List.takeWhile_sublist _).length_le
  have hat := any_at ms t
  rw [hp] at hat ⊢
  have hR0 : RdyC w B t w := ⟨hB, g_refl _ _⟩
  have x0 : w.cell? ⟨B, 0, none⟩ = some (.string (bA t)) := hB.c 0
  have hs1 := fun W => go_to t p.length hple W
  have hs2 := fun W => go_from t p.length hple W
  rw [hpre] at hs1
  obtain ⟨q, hq⟩ : ∃ q, t.drop p.length = q := ⟨_, rfl⟩
  rw [hq] at hs2 ⊢
  obtain ⟨n, hn⟩ : ∃ n, p.length = n := ⟨_, rfl⟩
  rw [hn] at hs1 hs2 hat hple
  obtain ⟨ix, hix2⟩ : ∃ ix, Lib.indexAny t ms = ix := ⟨_, rfl⟩
  rw [hix2] at hix hat
  have HI := Lib.hid hix; have HR := Lib.hid hR0
  rcases hat with ⟨h1, h2⟩ | ⟨h1, h2⟩
  · have hnt : t.length = n := by rw [← hn, h2]
    subst h1
    clear hix hix2 hB hR0 hp hpre hq hn h2
    go_enter Tryz.func63, Tryz.ntmps63
    go_wp2_with fail
    refine (HI.out _).mono ?_
    rintro e w1 ⟨rfl, hb1⟩
    have hR1 := HR.out.below hb1
    clear x0 hb1
    have x0 : w1.cell? ⟨B, 0, none⟩ = some (.string (bA t)) := hR1.1.c 0
    go_wp2_with fail
    clear x0
    have x0 : w1.cell? ⟨B, 0, none⟩ = some (.string (bA t)) := hR1.1.c 0
    have hR2 := hR1.drew
    go_still_tail 7, (by kernel_rfl)
    change wpList _ _ _ _ _ w1.drew
    generalize w1.drew = w2 at hR2 ⊢
    have x2 : w2.cell? ⟨B, 0, none⟩ = some (.string (bA t)) := hR2.1.c 0
    have x3 := hR2.1.fr 0
    go_wp2_with fail
    go_ret
    exact ⟨rfl, hR2.1.set _, g_set hR2.2 _ (.inr rfl)⟩
  · subst h1
    have hnn : ¬ ((n : Int) < 0) := by omega
    clear hix hix2 hB hR0 hp hpre hq hn h2
    go_enter Tryz.func63, Tryz.ntmps63
    go_wp2_with fail
    refine (HI.out _).mono ?_
    rintro e w1 ⟨rfl, hb1⟩
    have hR1 := HR.out.below hb1
    clear x0 hb1
    go_wp2_with fail
    have x0 : w1.cell? ⟨B, 0, none⟩ = some (.string (bA t)) := hR1.1.c 0
    have hR2 := hR1.drew
    go_still_tail 7, (by kernel_rfl)
    change wpList _ _ _ _ _ w1.drew
    generalize w1.drew = w2 at hR2 ⊢
    have x2 : w2.cell? ⟨B, 0, none⟩ = some (.string (bA t)) := hR2.1.c 0
    have x3 := hR2.1.fr 0
    go_wp2_with fail
    go_ret
    exact ⟨rfl, hR2.1.set _, g_set hR2.2 _ (.inr rfl)⟩
theorem bef_marks (t : List UInt8) : (t.takeWhile fun b => !([47] : List UInt8).contains b) = bef 47 t := by
  unfold bef
  congr 1
  funext b
  rw [List.contains_cons, List.contains_nil, Bool.or_false]; rfl
theorem up_marks (t : List UInt8) : (t.takeWhile fun b => !mkL.contains b) = Cm.up t := by
  unfold Cm.up
  congr 1
  funext b
  rw [mk_in]
/-- Up to a colon or a stroke. -/
theorem cutHost_any (B : Nat) (t : List UInt8) (w : World) (hB : CBox w B 9 #[.string (bA t)]) (ht : t.length ≤ 100000000) :
    Calls Tryz.prog 63 #[.string ⟨#[58, 47]⟩, .pointer (some ⟨B, 0, none⟩)] w fun e w' => e = .returned (.string (bA (Cm.up t))) ∧ CBox w' B 9 #[.string (bA (Cm.rst t))] ∧ w.grownBy w' (some B) := by
  have h := cutUp_any B t mkL w hB (fun W => cmIdx_any (bA t) W (by rw [bA_size]; exact ht))
  rw [up_marks] at h
  exact h
/-- Up to a stroke. -/
theorem cutPort_any (B : Nat) (t : List UInt8) (w : World) (hB : CBox w B 9 #[.string (bA t)]) :
    ∃ q, Calls Tryz.prog 63 #[.string ⟨#[47]⟩, .pointer (some ⟨B, 0, none⟩)] w fun e w' => e = .returned (.string (bA (bef 47 t))) ∧ CBox w' B 9 #[.string (bA q)] ∧ w.grownBy w' (some B) := by
  have h := cutUp_any B t [47] w hB (fun W => cmIdx_one (bA t) W)
  rw [bef_marks] at h
  exact ⟨_, h⟩
end Go.Proofs.YtinjkpbpkedfnaaGreatDoor
