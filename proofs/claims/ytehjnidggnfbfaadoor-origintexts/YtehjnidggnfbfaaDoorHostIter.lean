/- The contract of host's labels: a function that is ranged over. -/
import Derived.RangeFuncNested
import Derived.RangeFuncBound
import Derived.RangeFuncCalls
import Derived.RangeFuncLeaves
import Derived.RangeFuncFrom
import Derived.RangeFuncBox
import Derived.Shelf.Abstract
import Derived.Shelf.RegionOpen
import Derived.WalkKit
import Derived.OwnWalkIn
import Derived.TacticsInMore
import Derived.LoopNIn
import Derived.LoopIn
import Derived.Test.YtehjnidggnfbfaaDoorHostLeaf
import Derived.Test.YtehjnidggnfbfaaDoorOctSplit
import Derived.Test.YtehjnidggnfbfaaDoorOctTexts
namespace Go.Proofs.YtehjnidggnfbfaaDoor
open Go.RowKit Go.Shelf
attribute [local go_sem] Oper.semAt_some

/-- A label, and that it is short. -/
abbrev Lab := { x : List UInt8 // x.length ≤ 253 }
def labV (x : Lab) : Array Value := #[.string ⟨x.1.toArray⟩]
/-- What a round that goes on keeps: whatever cell lies outside some blocks. -/
structure Kept (S : Nat → Prop) (W W' : World) : Prop where
  size : W.heap.size ≤ W'.heap.size
  cell : ∀ (p : Addr) v, W.cell? p = some v → ¬ S p.block → W'.cell? p = some v
theorem Kept.refl (S : Nat → Prop) (W : World) : Kept S W W := ⟨Nat.le_refl _, fun _ _ h _ => h⟩
theorem Kept.trans {S : Nat → Prop} {A B C : World} (h : Kept S A B) (k : Kept S B C) : Kept S A C := ⟨Nat.le_trans h.size k.size, fun p v hp hs => k.cell p v (h.cell p v hp hs) hs⟩
theorem Kept.of_below {S : Nat → Prop} {A B : World} (h : Below A.heap.size A B) : Kept S A B := ⟨h.size, fun p v hp _ => by rw [h.cell (World.block_lt_of_cell? _ _ hp)]; exact hp⟩
theorem Kept.setCell {S : Nat → Prop} (A : World) (q : Addr) (u : Value) (hq : S q.block) : Kept S A (A.setCell q u) :=
  ⟨by simp [World.setCell], fun p v hp hs => by rw [World.cell?_setCell_other A q p u (fun e => hs (by subst e; exact hq))]; exact hp⟩
theorem Kept.putObj {S : Nat → Prop} (W : World) (l : Nat) (o o' : Obj) (hl : W.heap[l]? = some o) (ho : o.isCells = false) : Kept S W (W.putObj l o') :=
  ⟨(grownBy_putObj' W l o').size, fun p v hp _ => cell_kept hp (grownBy_putObj' W l o') (fun r e => by cases e; exact ⟨o, hl, ho⟩)⟩

theorem labels_any (s : ByteArray) (w : World) : Calls Tryd.prog 72 #[.string s] w fun e w' => e = .returned (.func (.func 86) #[] #[.pointer (some ⟨w.heap.size, 0, none⟩)]) ∧ w' = w.alloc (.cells #[.string s] 9) := by
  go_enter Tryd.func72, Tryd.ntmps72
  go_wp2
  go_ret
  exact ⟨rfl, rfl⟩

theorem parts_short (l : List UInt8) (hl : l.length ≤ 253) : ∀ q ∈ Hst.parts l, q.length ≤ 253 := by
  intro q hq
  obtain ⟨k, hk, rfl⟩ := List.mem_iff_getElem.1 hq
  have := Oct.join_len 46 (Hst.parts l) k hk
  rw [Hst.join_parts] at this
  omega
/-- The labels, each with its length's bound. -/
def labs (l : List UInt8) (hl : l.length ≤ 253) : List Lab := (Hst.parts l).pmap Subtype.mk (parts_short l hl)
theorem labs_map (l : List UInt8) (hl : l.length ≤ 253) : (labs l hl).map (·.1) = Hst.parts l := by
  unfold labs; rw [List.map_pmap]; simp
theorem labs_len (l : List UInt8) (hl : l.length ≤ 253) : (labs l hl).length = (Hst.parts l).length := by simp [labs]

set_option maxRecDepth 100000 in
set_option maxHeartbeats 2000000 in
theorem labels1_stops (n : Nat) (hn : 1 ≤ n) (Bn : Nat) (s : ByteArray) (hs : s.data.toList.length ≤ 253) (S : Nat → Prop) (w : World) (hBn : w.cell? ⟨Bn, 0, none⟩ = some (.string s)) (hS : ∀ b, S b → b < w.heap.size) :
    SeqStopsK Fence.wide n Tryd.prog 86 #[.pointer (some ⟨Bn, 0, none⟩)] labV (Kept S) (fun xs => xs = labs s.data.toList hs) (fun pre => pre <+: labs s.data.toList hs) (labs s.data.toList hs).length w := fun l J Jx W hW hJ hJx hY h0 => by
  have hlt := World.block_lt_of_cell? _ _ hBn
  have hBn' : W.cell? ⟨Bn, 0, none⟩ = some (.string s) := by rw [hW.cell hlt]; exact hBn
  refine callsIn_of_wp Tryd.func86 rfl trivial ?_ rfl
  simp only [Tryd.ntmps86, List.size_toArray, List.length_cons, List.length_nil, Nat.reduceAdd, Nat.reduceSub, Array.replicate_succ, Array.replicate_zero, List.push_toArray, List.append_toArray, List.nil_append, List.cons_append]
  have hsz2 : s.size ≤ 253 := by have : s.data.toList.length = s.size := by simp
                                 omega
  obtain ⟨ps, hps⟩ : ∃ ps, Hst.parts s.data.toList = ps := ⟨_, rfl⟩
  have hpos := Hst.parts_pos s.data.toList
  have hple := Hst.parts_len s.data.toList
  have hLm := labs_map s.data.toList hs
  obtain ⟨ls, hls⟩ : ∃ ls, labs s.data.toList hs = ls := ⟨_, rfl⟩
  have hll := labs_len s.data.toList hs
  rw [hps] at hpos hple hLm hll
  rw [hls] at hLm hll
  rw [hls] at hY
  have HLS := Lib.hid hls; have HPS := Lib.hid hps; have HLM := Lib.hid hLm; have HLL := Lib.hid hll; have HY := Lib.hid hY
  clear hls hps hLm hll hY
  gi_wp2_with fail
  refine ⟨trivial, ?_⟩
  refine (callsIn_wide.2 (split_any s 46 W (by omega))).mono ?_
  rintro e W1 ⟨v, rfl, hb, ho⟩
  replace ho : W1.ownsRow W.heap.size 9 1 v ps.length (ps.map Oct.strV) := by rw [← HPS.out]; exact ho
  rcases owns_view ho with ⟨rfl, h0'⟩ | ⟨g, cap, rfl, hm, hg, hgb, hcells⟩
  · exfalso; subst h0'; simp at hpos
  have HC := Lib.hid hcells
  have hJ1 : J [] W1 := hJ [] W W1 none h0 ⟨hb.os, hb.tape, hb.output, hb.size, fun i hi _ => hb.block i hi⟩ (fun r e => by cases e)
  clear ho hcells h0 hm
  gi_wp2_with fail
  gi_loopw [8] (fun i wr => ∃ k : Nat, k ≤ ps.length ∧ i = .int .i64 k ∧ J (ls.take k) wr ∧ Kept S W1 wr) (fun i _ => ps.length - (intOf i).toNat)
  case atStart => exact ⟨0, Nat.zero_le _, rfl, hJ1, Kept.refl _ _⟩
  case round =>
    obtain ⟨k, hk, rfl, hJs, hkp⟩ := hrel
    by_cases hlt2 : k < ps.length
    · have hkl : k < ls.length := by rw [HLL.out]; exact hlt2
      have hce := HC.out k hlt2
      have hnS : ¬ S g := fun h => by have := hS g h; have := hW.size; omega
      replace hce := hkp.cell _ _ hce hnS
      obtain ⟨x, hx⟩ : ∃ x, ls[k] = x := ⟨_, rfl⟩
      have hxp : ps[k] = x.1 := by
        have h := HLM.out
        subst h
        rw [← hx]; simp
      have hsn : ls.take (k + 1) = ls.take k ++ [x] := by rw [List.take_succ_eq_append_getElem hkl, hx]
      rw [hxp] at hce
      unfold Oct.strV at hce
      obtain ⟨fn, tmps, assign, body, hy, hR⟩ := HY.out (ls.take k) x wr hJs (by rw [List.length_take]; omega)
      unfold labV at hy
      have HSN := Lib.hid hsn
      clear hsn hxp hx hnS
      gi_wp2_with fail
      refine hR.mono ?_
      rintro e W3 (⟨rfl, hJ3, hk3⟩ | ⟨rfl, hJx3⟩)
      · gi_wp2_with fail
        go_roundw
        case rel => exact ⟨k + 1, by omega, by go_num, by rw [HSN.out]; exact hJ3, hkp.trans hk3⟩
        case measure => simp [intOf]; omega
      · gi_wp2_with fail
        refine bodyPost_ret (results_none rfl _ _ _) rfl ?_
        exact ⟨⟨_, rfl⟩, .inr ⟨_, by rw [HLS.out, ← HSN.out]; exact List.take_prefix _ _, hJx3⟩⟩
    · gi_wp2_with fail
      go_end0
      exact ⟨⟨_, rfl⟩, .inl ⟨_, by rw [HLS.out]; exact List.take_of_length_le (by rw [HLL.out]; omega), hJs⟩⟩
end Go.Proofs.YtehjnidggnfbfaaDoor
