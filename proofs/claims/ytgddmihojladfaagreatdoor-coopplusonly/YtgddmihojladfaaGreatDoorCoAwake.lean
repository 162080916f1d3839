/- The contract of the statements' head. -/
import Derived.Test.YtgddmihojladfaaGreatDoorCoFew
namespace Go.Proofs.YtgddmihojladfaaGreatDoor
open Go.RowKit

theorem new_at (w : World) (o1 o : Obj) : ((w.alloc o1).alloc o).heap[w.heap.size + 1]? = some o := by
  have h : (w.alloc o1).heap.size = w.heap.size + 1 := by simp
  rw [← h]; exact World.alloc_heap_new _ _
/-- What stands while the head's calls are made. -/
structure RdyW (w0 : World) (Ls : List (Nat × TypeId × Co.Pol)) (g : Nat) (W : World) : Prop where
  b : Below w0.heap.size w0 W
  seen : SeenH W (some ⟨g, 0, none⟩) coL
  boxes : ∀ t ∈ Ls, CBox W t.1 t.2.1 (plC t.2.2)
theorem RdyW.on {w0 : World} {Ls : List (Nat × TypeId × Co.Pol)} {g : Nat} {W W' : World} (h : RdyW w0 Ls g W) (hb : Below W.heap.size W W') : RdyW w0 Ls g W' :=
  ⟨Below.onto h.b hb, h.seen.below hb, fun t ht => (h.boxes t ht).keep hb⟩
theorem RdyW.box {w0 : World} {Ls : List (Nat × TypeId × Co.Pol)} {g : Nat} {W : World} (h : RdyW w0 Ls g W) (t : TypeId) (p : Co.Pol) : RdyW w0 ((W.heap.size, t, p) :: Ls) g (W.alloc (.cells (plC p) t)) := by
  have hb : Below W.heap.size W (W.alloc (.cells (plC p) t)) := (Below.refl _ W).alloc (Nat.le_refl _) _
  refine ⟨Below.onto h.b hb, h.seen.below hb, fun t' ht => ?_⟩
  rcases List.mem_cons.1 ht with rfl | ht
  · exact CBox.new _ _ _
  · exact (h.boxes t' ht).keep hb
set_option maxHeartbeats 8000000 in
set_option maxRecDepth 100000 in
theorem awake8_any (w : World) : Calls Tryz.prog 10 #[] w fun e w' => e = .returned (.bool true) ∧ Below w.heap.size w w' := by
  have ca := fun W (h : SeenH W (some ⟨w.heap.size, 0, none⟩) coL) => coop_any (some ⟨w.heap.size, 0, none⟩) 2 2 coL true W rfl coSmall h
  have cb := fun W (h : SeenH W (some ⟨w.heap.size, 0, none⟩) coL) => coep_any (some ⟨w.heap.size, 0, none⟩) 2 2 coL true W rfl coSmall h
  have cc := fun W g (h : SeenH W (some ⟨g, 0, none⟩) coL1) => coop_any (some ⟨g, 0, none⟩) 1 1 coL1 true W rfl coSmall1 h
  have cd := fun W (h : SeenH W (some ⟨w.heap.size, 0, none⟩) coL) => coop_any (some ⟨w.heap.size, 0, none⟩) 2 2 coL false W rfl coSmall h
  have cp := fun W (h : SeenH W (some ⟨w.heap.size, 0, none⟩) coL) => plain_any (some ⟨w.heap.size, 0, none⟩) 2 2 coL W rfl coSmall h
  rw [coA] at ca
  rw [coB] at cb
  simp only [coC] at cc
  rw [show Co.coopL coL false = Co.noPol from rfl] at cd
  simp only [coP] at cp
  have CA := Lib.hid ca; have CB := Lib.hid cb; have CC := Lib.hid cc; have CD := Lib.hid cd; have CP := Lib.hid cp
  clear ca cb cc cd cp
  go_enter Tryz.func10, Tryz.ntmps10
  go_wp2_with fail
  have r0 : RdyW w [] w.heap.size (w.alloc (.cells #[.string ⟨#[67, 114, 111, 115, 115, 45, 79, 114, 105, 103, 105, 110, 45, 79, 112, 101, 110, 101, 114, 45, 80, 111, 108, 105, 99, 121]⟩, .string ⟨#[115, 97, 109, 101, 45, 111, 114, 105, 103, 105, 110, 59, 32, 114, 101, 112, 111, 114, 116, 45, 116, 111, 61, 34, 97, 34]⟩, .string ⟨#[99, 114, 111, 115, 115, 45, 111, 114, 105, 103, 105, 110, 45, 101, 109, 98, 101, 100, 100, 101, 114, 45, 112, 111, 108, 105, 99, 121]⟩, .string ⟨#[114, 101, 113, 117, 105, 114, 101, 45, 99, 111, 114, 112]⟩] 35)) := ⟨(Below.refl _ w).alloc (Nat.le_refl _) _, seen_block (World.alloc_heap_new _ _) rfl, fun t ht => by simp at ht⟩
  refine (CA.out _ r0.seen).mono ?_
  rintro e w1 ⟨rfl, hb1⟩
  have r1 := (r0.on hb1).box 28 ⟨3, [97], 0, []⟩
  clear r0 hb1 CA
  unfold plV plC Co.noPol at *
  go_wp2_with fail
  refine (CB.out _ r1.seen).mono ?_
  rintro e w2 ⟨rfl, hb2⟩
  have r2 := (r1.on hb2).box 30 ⟨2, [], 0, []⟩
  clear r1 hb2 CB
  go_wp2_with fail
  refine (CC.out _ _ (seen_block (new_at _ _ _) rfl)).mono ?_
  rintro e w3 ⟨rfl, hb3⟩
  have r3 := ((r2.on ((Below.refl _ _).alloc (Nat.le_refl _) _)).on hb3).box 28 ⟨0, [], 0, []⟩
  clear r2 hb3 CC
  have k1 := r3.boxes _ (.head _)
  have k2 := r3.boxes _ (.tail _ (.head _))
  have k3 := r3.boxes _ (.tail _ (.tail _ (.head _)))
  dsimp only at k1 k2 k3
  have x0 := k1.c 0; have x1 := k1.c 1; have x2 := k1.c 2; have x3 := k1.c 3
  have y0 := k2.c 0; have y1 := k2.c 1; have y2 := k2.c 2; have y3 := k2.c 3
  have z0 := k3.c 0; have z1 := k3.c 1; have z2 := k3.c 2; have z3 := k3.c 3
  unfold plC at x0 x1 x2 x3 y0 y1 y2 y3 z0 z1 z2 z3
  have r3' : RdyW w [] w.heap.size _ := ⟨r3.b, r3.seen, fun t ht => by simp at ht⟩
  clear k1 k2 k3 r3
  unfold plC at r3'
  go_wp2_with fail
  refine (CD.out _ r3'.seen).mono ?_
  rintro e w4 ⟨rfl, hb4⟩
  have r4 := r3'.on hb4
  clear r3' hb4 CD x0 x1 x2 x3 y0 y1 y2 y3 z0 z1 z2 z3
  go_wp2_with fail
  refine (isolates_any 1 _).mono ?_
  rintro e w5 ⟨rfl, rfl⟩
  go_wp2_with fail
  refine (CP.out _ r4.seen).mono ?_
  rintro e w6 ⟨v, rfl, hb6, ho⟩
  have HB6 := Lib.hid (Below.onto r4.b hb6)
  obtain ⟨A, c, rfl, _⟩ := ho.slice
  rw [show coL.length = 2 from rfl]
  clear ho r4 hb6 CP
  go_wp2_with fail
  all_goals
    go_ret
    exact ⟨rfl, HB6.out⟩
end Go.Proofs.YtgddmihojladfaaGreatDoor
