/- The contract of headers.named and of the function that it hands back. -/
import Derived.RangeFuncNested
import Derived.RangeFuncBound
import Derived.RangeFuncCalls
import Derived.RangeFuncLeaves
import Derived.RangeFuncFrom
import Derived.RangeFuncBox
import Derived.Shelf.Abstract
import Derived.Shelf.RegionOpen
import Derived.WalkKit
import Derived.OwnWalkIn
import Derived.TacticsInMore
import Derived.LoopNIn
import Derived.LoopIn
import Derived.Test.YtcmbckacbdiebaaHdSeen
import Derived.Test.YtcmbckacbdiebaaOctLow
import Derived.Test.YtcmbckacbdiebaaOctText
namespace Go.Proofs.Ytcmbckacbdiebaa
open Go.RowKit Go.Shelf
attribute [local go_sem] Oper.semAt_some

/-- What a round that goes on keeps: whatever cell lies outside some blocks. -/
structure Kept (S : Nat → Prop) (W W' : World) : Prop where
  size : W.heap.size ≤ W'.heap.size
  cell : ∀ (p : Addr) v, W.cell? p = some v → ¬ S p.block → W'.cell? p = some v
theorem Kept.refl (S : Nat → Prop) (W : World) : Kept S W W := ⟨Nat.le_refl _, fun _ _ h _ => h⟩
theorem Kept.trans {S : Nat → Prop} {A B C : World} (h : Kept S A B) (k : Kept S B C) : Kept S A C := ⟨Nat.le_trans h.size k.size, fun p v hp hs => k.cell p v (h.cell p v hp hs) hs⟩
theorem Kept.of_below {S : Nat → Prop} {A B : World} (h : Below A.heap.size A B) : Kept S A B := ⟨h.size, fun p v hp _ => by rw [h.cell (World.block_lt_of_cell? _ _ hp)]; exact hp⟩
theorem Kept.of_belowAt {S : Nat → Prop} {n : Nat} {A B : World} (h : Below n A B) (hS : ∀ b, ¬ S b → b < n) : Kept S A B := ⟨h.size, fun p v hp hs => by rw [h.cell (hS _ hs)]; exact hp⟩
theorem Kept.setCell {S : Nat → Prop} (A : World) (q : Addr) (u : Value) (hq : S q.block) : Kept S A (A.setCell q u) :=
  ⟨by simp [World.setCell], fun p v hp hs => by rw [World.cell?_setCell_other A q p u (fun e => hs (by subst e; exact hq))]; exact hp⟩
theorem Kept.putObj {S : Nat → Prop} (W : World) (l : Nat) (o o' : Obj) (hl : W.heap[l]? = some o) (ho : o.isCells = false) : Kept S W (W.putObj l o') :=
  ⟨(grownBy_putObj' W l o').size, fun p v hp _ => cell_kept hp (grownBy_putObj' W l o') (fun r e => by cases e; exact ⟨o, hl, ho⟩)⟩

/-- A value, and that it is short. -/
abbrev Vl := { x : List UInt8 // x.length ≤ 5000 }
def vlV (x : Vl) : Array Value := #[.string (bA x.1)]
theorem named_any (A : Option Addr) (n c : Nat) (s : ByteArray) (w : World) : Calls Try.prog 38 #[.slice A n c, .string s] w fun e w' => e = .returned (.func (.func 48) #[] #[.pointer (some ⟨w.heap.size, 0, none⟩), .pointer (some ⟨w.heap.size + 1, 0, none⟩)]) ∧ w' = (w.alloc (.cells #[.slice A n c] 29)).alloc (.cells #[.string s] 9) := by
  go_enter Try.func38, Try.ntmps38
  go_wp2
  go_ret
  exact ⟨rfl, rfl⟩
/-- Headers that are not too great. -/
structure SmallH (l : List Hd.Hdr) : Prop where
  len : l.length ≤ 1000
  each : ∀ h ∈ l, h.name.length ≤ 10000 ∧ h.value.length ≤ 5000
theorem fold_val {a n : List UInt8} (ha : a.length ≤ 10000) (hn : n.length ≤ 10000) (w : World) {b : Bool} (h : Hd.foldB a n = b) : Calls Try.prog 49 #[.string (bA a), .string (bA n)] w fun e w' => e = .returned (.bool b) ∧ Below w.heap.size w w' :=
  (fold_any (bA a) (bA n) w (by rw [bA_size]; unfold maxLen; omega) (by rw [bA_size]; unfold maxLen; omega)).mono (by
    rintro e w' ⟨rfl, hb⟩
    exact ⟨Oct.ret_bool h, hb⟩)
theorem trim_val (s : List UInt8) (hs : s.length ≤ 1000000) (w : World) : Calls Try.prog 50 #[.string (bA s)] w fun e w' => e = .returned (.string (bA (Oct.trim s))) ∧ w = w' := otrim_any (bA s) w (by rw [bA_size]; unfold maxLen; omega)

set_option maxRecDepth 100000 in
set_option maxHeartbeats 2000000 in
theorem named1_stops (n : Nat) (hn : 1 ≤ n) (b1 b2 : Nat) (A : Option Addr) (c : Nat) (l : List Hd.Hdr) (nm : List UInt8) (hl : SmallH l) (hnm : nm.length ≤ 10000) (S : Nat → Prop) (w : World) (h1 : Boxed w b1 29 (.slice A l.length c)) (h2 : Boxed w b2 9 (.string (bA nm))) (hA : SeenH w A l)
    (hS2 : ¬ S b2) (hSA : 0 < l.length → ∀ a, A = some a → ¬ S a.block) :
    SeqStopsK Fence.wide n Try.prog 48 #[.pointer (some ⟨b1, 0, none⟩), .pointer (some ⟨b2, 0, none⟩)] vlV (Kept S) (fun xs => xs.map (·.1) = Hd.vals l nm) (fun _ => True) l.length w := fun ly J Jx W hW hJ hJx hY h0 => by
  have e1 : W.cell? ⟨b1, 0, none⟩ = some (.slice A l.length c) := (boxed_below h1 hW).cell
  have e2 : W.cell? ⟨b2, 0, none⟩ = some (.string (bA nm)) := (boxed_below h2 hW).cell
  have HA := Lib.hid (hA.below hW)
  have HL := Lib.hid hl; have HY := Lib.hid hY; have HE2 := Lib.hid e2; have HJ := Lib.hid hJ
  have hlen := hl.len
  clear h1 h2 hA hl hY e2 hJ
  refine callsIn_of_wp Try.func48 rfl trivial ?_ rfl
  simp only [Try.ntmps48, List.size_toArray, List.length_cons, List.length_nil, Nat.reduceAdd, Nat.reduceSub, Array.replicate_succ, Array.replicate_zero, List.push_toArray, List.append_toArray, List.nil_append, List.cons_append]
  gi_wp2_with fail
  gi_loopw [8] (fun i wr => ∃ (k : Nat) (pre : List Vl), k ≤ l.length ∧ i = .int .i64 k ∧ J pre wr ∧ Kept S W wr ∧ Hid (pre.map (·.1) = Hd.vals (l.take k) nm)) (fun i _ => l.length - (intOf i).toNat)
  case atStart => exact ⟨0, [], Nat.zero_le _, rfl, h0, Kept.refl _ _, Lib.hid rfl⟩
  case round =>
    obtain ⟨k, pre, hk, rfl, hJs, hkp, hpre⟩ := hrel
    by_cases hlt : k < l.length
    · obtain ⟨g, o, rfl, hg, hc⟩ := HA.out (by omega)
      have hce := hc k hlt
      have hgS : ¬ S g := hSA (by omega) ⟨g, o, none⟩ rfl
      have c0 := hkp.cell ⟨g, o + k * 2, none⟩ _ hce.1 hgS
      have c1 := hkp.cell ⟨g, o + k * 2 + 1, none⟩ _ hce.2 hgS
      have d2 := hkp.cell _ _ HE2.out hS2
      have hlt2 := World.block_lt_of_cell? _ _ d2
      have e0 := HBox.new wr l[k]
      have hb0 : Below wr.heap.size wr (wr.alloc (.cells #[.string (bA l[k].name), .string (bA l[k].value)] 38)) := (Below.refl _ wr).alloc (Nat.le_refl _) _
      replace d2 := (hb0.cell (p := ⟨b2, 0, none⟩) hlt2).trans d2
      have hsm := HL.out.each l[k] (List.getElem_mem hlt)
      obtain ⟨x, hx⟩ : ∃ x, l[k] = x := ⟨_, rfl⟩
      rw [hx] at c0 c1 e0 hb0 d2 hsm
      have HX := Lib.hid hx; have HE0 := Lib.hid e0; have HB0 := Lib.hid hb0; have HSM := Lib.hid hsm
      have hsz0 : (wr.alloc (.cells #[.string (bA x.name), .string (bA x.value)] 38)).heap.size = wr.heap.size + 1 := World.size_alloc _ _
      clear hc hce hx e0 hb0 hsm
      cases hf : Hd.foldB x.name nm with
      | false =>
        have hcall := fun W => fold_val HSM.out.1 hnm W hf
        have HF := Lib.hid hf
        clear hf
        gi_wp2_with fail
        refine ⟨trivial, ?_⟩
        refine (callsIn_wide.2 (hcall _)).mono ?_
        rintro e w1 ⟨rfl, hb1⟩
        clear hcall
        have hbw := Lib.hid (Below.onto HB0.out hb1)
        clear c0 c1 d2
        gi_wp2_with fail
        refine ⟨trivial, ?_⟩
        gi_wp2_with fail
        refine ⟨fun _ h => (by cases h), ?_⟩
        gi_wp2_with fail
        go_roundw
        case rel => exact ⟨k + 1, pre, by omega, by go_num, HJ.out pre _ _ none hJs ⟨hbw.out.os, hbw.out.tape, hbw.out.output, hbw.out.size, fun i hi _ => hbw.out.block i hi⟩ (fun r e => by cases e), hkp.trans (.of_below hbw.out), Lib.hid (by rw [hpre.out, vals_succ hlt, HX.out, HF.out]; simp)⟩
        case measure => simp [intOf]; omega
      | true =>
        have hcall := fun W => fold_val HSM.out.1 hnm W hf
        have HF := Lib.hid hf
        clear hf
        gi_wp2_with fail
        refine ⟨trivial, ?_⟩
        refine (callsIn_wide.2 (hcall _)).mono ?_
        rintro e w1 ⟨rfl, hb1⟩
        clear hcall
        have hbw := Lib.hid (Below.onto HB0.out hb1)
        have f1 := (HE0.out.below hb1).c1
        have hJ1 : J pre w1 := HJ.out pre _ _ none hJs ⟨hbw.out.os, hbw.out.tape, hbw.out.output, hbw.out.size, fun i hi _ => hbw.out.block i hi⟩ (fun r e => by cases e)
        clear c0 c1 d2
        have hvl : (Oct.trim x.value).length ≤ 5000 := Nat.le_trans (Oct.trim_length _) HSM.out.2
        have hplen : pre.length < l.length := by
          have h1 : (pre.map (·.1)).length = _ := congrArg List.length hpre.out
          have h2 := Hd.vals_len (l.take k) nm
          rw [List.length_map] at h1
          rw [List.length_take] at h2
          omega
        have hnew : Hid ((pre ++ [(⟨Oct.trim x.value, hvl⟩ : Vl)]).map (·.1) = Hd.vals (l.take (k + 1)) nm) := Lib.hid (by rw [vals_succ hlt, HX.out, HF.out, List.map_append, hpre.out]; rfl)
        obtain ⟨fn, tmps, assign, body, hy, hR⟩ := HY.out pre ⟨Oct.trim x.value, hvl⟩ w1 hJ1 hplen
        have hcall := trim_val x.value (by have := HSM.out.2; omega) w1
        simp only [vlV] at hy
        gi_wp2_with fail
        refine ⟨trivial, ?_⟩
        refine (callsIn_wide.2 hcall).mono ?_
        rintro e w2 ⟨rfl, rfl⟩
        clear hcall
        gi_wp2_with fail
        refine hR.mono ?_
        rintro e W3 (⟨rfl, hJ3, hk3⟩ | ⟨rfl, hJx3⟩)
        · gi_wp2_with fail
          go_roundw
          case rel => exact ⟨k + 1, _, by omega, by go_num, hJ3, (hkp.trans (.of_below hbw.out)).trans hk3, hnew⟩
          case measure => simp [intOf]; omega
        · gi_wp2_with fail
          refine bodyPost_ret (results_none rfl _ _ _) rfl ?_
          exact ⟨⟨_, rfl⟩, .inr ⟨_, trivial, hJx3⟩⟩
    · gi_wp2_with fail
      go_end0
      exact ⟨⟨_, rfl⟩, .inl ⟨pre, by rw [hpre.out, List.take_of_length_le (by omega)], hJs⟩⟩
end Go.Proofs.Ytcmbckacbdiebaa
