/- The walk of the statement on any host's text and site. -/
import Derived.Test.YtknadldebedpiaaDoorHostAwake
import Derived.Test.YtknadldebedpiaaDoorHostRsite
import Derived.Deep.RegionHeld3
namespace Go.Proofs.YtknadldebedpiaaDoor
open Go.RowKit

/-- What the calls of one statement ask of the world. -/
structure Ready (w0 : World) (B : Nat) (n : ByteArray) (b : Bool) (a : Int) (A : Option Addr) (sx : List (List UInt8)) (W : World) : Prop where
  bel : Below w0.heap.size w0 W
  tab : Tab W
  seen : Seen W A sx
  box : HBox W B n b a
theorem Ready.below {w0 : World} {B : Nat} {n : ByteArray} {b : Bool} {a : Int} {A : Option Addr} {sx : List (List UInt8)} {W W' : World} (hb : Below W.heap.size W W') (h : Ready w0 B n b a A sx W) : Ready w0 B n b a A sx W' :=
  ⟨Below.onto h.bel hb, h.tab.below hb, h.seen.below hb, h.box.below hb h.box.lt⟩
theorem Ready.drew {w0 : World} {B : Nat} {n : ByteArray} {b : Bool} {a : Int} {A : Option Addr} {sx : List (List UInt8)} {W : World} (h : Ready w0 B n b a A sx W) : Ready w0 B n b a A sx W.drew :=
  ⟨h.bel.drew, h.tab, h.seen, h.box⟩
theorem Ready.all {w0 : World} {B : Nat} {n : ByteArray} {b : Bool} {a : Int} {A : Option Addr} {sx : List (List UInt8)} {W : World} (h : Ready w0 B n b a A sx W) :
    W.cell? ⟨B, 0, none⟩ = some (.string n) ∧ W.cell? ⟨B, 1, none⟩ = some (.bool b) ∧ W.cell? ⟨B, 2, none⟩ = some (.int .u32 a) ∧ Ready w0 B n b a A sx W := ⟨h.box.c0, h.box.c1, h.box.c2, h⟩

set_option maxHeartbeats 2000000 in
theorem walk_HostTells (n : ByteArray) (b : Bool) (a : Int) (A : Option Addr) (c : Nat) (sx : List (List UInt8)) (w : World) (hn : n.size ≤ maxLen) (a0 : 0 ≤ a) (a1 : a ≤ 4294967295) (hA : Seen w A sx) (hsl : sx.length ≤ maxLen) (hsz : ∀ s ∈ sx, s.length ≤ maxLen) (hT : Tab w) :
    Calls Tryd.prog 5 #[.agg #[.string n, .bool b, .int .u32 a], .slice A sx.length c] w fun e w' => e = .returned (.bool true) ∧ Below w.heap.size w w' := by
  unfold maxLen at hn hsl
  have hbx : Below w.heap.size w (w.alloc (.cells #[.string n, .bool b, .int .u32 a] 25)) := (Below.refl _ w).alloc (Nat.le_refl _) _
  have HT1 := Lib.hid (hT.below hbx)
  have HSZ := Lib.hid hsz
  have HA := Lib.hid hA
  have HT := Lib.hid hT
  clear hsz hA hT
  by_cases h1 : 1000 < n.size
  · have h1' : (1000 : Int) < (n.size : Int) := by omega
    go_enter Tryd.func5, Tryd.ntmps5
    go_wp2_with fail
    refine (awake_any _ HT1.out).mono ?_
    rintro e w1 ⟨rfl, hb1⟩
    have q1 := (HBox.new w n b a).below hb1 (by simp)
    have c0 := q1.c0
    have hB := Below.onto hbx hb1
    go_wp2_with fail
    go_ret
    exact ⟨rfl, hB⟩
  by_cases h2 : 200 < sx.length
  · have h2' : (200 : Int) < (sx.length : Int) := by omega
    have h1' : n.size ≤ 1000 := by omega
    have h1'' : decide ((1000 : Int) < (n.size : Int)) = false := by simp; omega
    go_enter Tryd.func5, Tryd.ntmps5
    go_wp2_with fail
    refine (awake_any _ HT1.out).mono ?_
    rintro e w1 ⟨rfl, hb1⟩
    have q1 := (HBox.new w n b a).below hb1 (by simp)
    have c0 := q1.c0
    have hB := Below.onto hbx hb1
    go_wp2_with fail
    go_ret
    exact ⟨rfl, hB⟩
  have h1' : n.size ≤ 1000 := by omega
  have h2' : sx.length ≤ 200 := by omega
  have h1'' : decide ((1000 : Int) < (n.size : Int)) = false := by simp; omega
  have h2'' : decide ((200 : Int) < (sx.length : Int)) = false := by simp; omega
  clear h1 h2
  go_enter Tryd.func5, Tryd.ntmps5
  go_wp2_with fail
  refine (awake_any _ HT1.out).mono ?_
  rintro e w1 ⟨rfl, hb1⟩
  have hB := Below.onto hbx hb1
  have hR : Ready w w.heap.size n b a A sx w1 := ⟨hB, HT.out.below hB, HA.out.below hB, (HBox.new w n b a).below hb1 (by simp)⟩
  have c0 := hR.box.c0
  go_wp2_with fail
  clear h1'' h2''
  go_loop [6] (fun i => ∃ k : Nat, k ≤ sx.length ∧ i = .int .i64 k ∧ Hid (∀ s ∈ sx.take k, s.length ≤ 1000)) (fun i => sx.length - (intOf i).toNat)
  case atStart => exact ⟨0, Nat.zero_le _, rfl, fun _ h => by simp at h⟩
  case round =>
    obtain ⟨k, hk, rfl, hin⟩ := hrel
    by_cases hlt : k < sx.length
    · obtain ⟨ad, rfl, _, hac⟩ := hR.seen (by omega)
      have hce := hac k hlt
      have hsm := HSZ.out _ (List.getElem_mem hlt)
      obtain ⟨p, hp⟩ : ∃ p, sx[k] = p := ⟨_, rfl⟩
      rw [hp] at hce hsm
      have hzl := size_list p
      obtain ⟨z, hz⟩ : ∃ z : ByteArray, z = ⟨p.toArray⟩ := ⟨_, rfl⟩
      unfold Oct.strV at hce
      unfold maxLen at hsm
      rw [← hz] at hce hzl
      have HP := Lib.hid hp
      have HZ := Lib.hid hzl
      have hzm : z.size ≤ 9223372036854775807 := by omega
      clear hp hac hz hzl hsm
      by_cases hbig : 1000 < z.size
      · have hbig' : (1000 : Int) < (z.size : Int) := by omega
        go_wp2_with fail
        go_ret
        exact ⟨rfl, hB⟩
      · have hbig' : z.size ≤ 1000 := by omega
        go_wp2_with fail
        go_round
        case rel =>
          refine ⟨k + 1, by omega, by go_num, ?_⟩
          intro s hs
          rw [List.take_succ_eq_append_getElem hlt] at hs
          rcases List.mem_append.1 hs with hs | hs
          · exact hin.out s hs
          · have e1 : s = p := by rw [← HP.out]; simpa using hs
            have := HZ.out
            rw [e1]; omega
        case measure => simp [intOf]; omega
    · have hall : ∀ s ∈ sx, s.length ≤ 1000 := by have := hin.out; rwa [List.take_of_length_le (by omega)] at this
      have HALL := Lib.hid hall
      clear hall
      go_wp2_with fail
      go_region_held3 (fun w' => w'.cell? ⟨w.heap.size, 0, none⟩ = some (.string n) ∧ w'.cell? ⟨w.heap.size, 1, none⟩ = some (.bool b) ∧ w'.cell? ⟨w.heap.size, 2, none⟩ = some (.int .u32 a) ∧ Ready w w.heap.size n b a A sx w')
        (first
          | exact hR.all
          | exact hR.drew.all
          | exact hR2.all
          | exact hR3.all
          | exact hR4.all
          | exact hR5.all)
        (first
          | (go_at_call 14; refine (text_any n b a _ hR.drew.tab a0 a1).mono ?_; rintro e w2 ⟨rfl, hb2⟩; have hR2 := Ready.below hb2 hR.drew)
          | (go_at_call 15; refine (rtext_any n b a _ hR2.tab a0 a1).mono ?_; rintro e w3 ⟨rfl, hb3⟩; have hR3 := Ready.below hb3 hR2)
          | (go_at_call 16; refine (site_any n b a A c sx _ hR3.tab a0 a1 h1' (by omega) HALL.out hR3.seen).mono ?_; rintro e w4 ⟨rfl, hb4⟩; have hR4 := Ready.below hb4 hR3)
          | (go_at_call 17; refine (rsite_any n b a A c sx _ hR4.tab a0 a1 h1' (by omega) HALL.out hR4.seen).mono ?_; rintro e w5 ⟨rfl, hb5⟩; have hR5 := Ready.below hb5 hR4))
      go_wp2_with fail
      go_ret
      exact ⟨rfl, hR5.bel⟩
end Go.Proofs.YtknadldebedpiaaDoor
