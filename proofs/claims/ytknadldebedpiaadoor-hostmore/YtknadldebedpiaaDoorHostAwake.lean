/- The contract of the statements' head: the calls whose answers the document fixes are answered so. -/
import Derived.Test.YtknadldebedpiaaDoorHostSite
namespace Go.Proofs.YtknadldebedpiaaDoor
open Go.RowKit

theorem Below.onto {w w1 w2 : World} (h : Below w.heap.size w w1) (h2 : Below w1.heap.size w1 w2) : Below w.heap.size w w2 := h.trans (h2.mono h.size)
/-- A new block between. -/
theorem Below.onto1 {w w1 w2 : World} {o : Obj} (h : Below w.heap.size w w1) (h2 : Below (w1.alloc o).heap.size (w1.alloc o) w2) : Below w.heap.size w w2 := (h.alloc h.size o).trans (h2.mono (by have := h.size; simp; omega))

theorem aw_p1 (w : World) : Calls Tryd.prog 12 #[.string ⟨#[65, 46, 69, 120, 97, 109, 112, 108, 101]⟩] w fun e w' => e = .returned (.tuple #[.agg #[.string ⟨#[97, 46, 101, 120, 97, 109, 112, 108, 101]⟩, .bool false, .int .u32 0], .int .i64 0]) ∧ Below w.heap.size w w' :=
  (parse_any _ w (by decide)).mono (by rintro e w' ⟨rfl, h⟩; exact ⟨by kernel_rfl, h⟩)
theorem aw_p2 (w : World) : Calls Tryd.prog 12 #[.string ⟨#[49, 46, 50, 46, 51, 46, 52]⟩] w fun e w' => e = .returned (.tuple #[.agg #[.string ⟨#[]⟩, .bool true, .int .u32 16909060], .int .i64 0]) ∧ Below w.heap.size w w' :=
  (parse_any _ w (by decide)).mono (by rintro e w' ⟨rfl, h⟩; exact ⟨by kernel_rfl, h⟩)
theorem aw_p3 (w : World) : Calls Tryd.prog 12 #[.string ⟨#[97, 46, 46, 98]⟩] w fun e w' => e = .returned (.tuple #[.agg #[.string ⟨#[]⟩, .bool false, .int .u32 0], .int .i64 20]) ∧ Below w.heap.size w w' :=
  (parse_any _ w (by decide)).mono (by rintro e w' ⟨rfl, h⟩; exact ⟨by kernel_rfl, h⟩)
theorem aw_t (w : World) (hT : Tab w) : Calls Tryd.prog 14 #[.agg #[.string ⟨#[]⟩, .bool true, .int .u32 16909060]] w fun e w' => e = .returned (.string ⟨#[49, 46, 50, 46, 51, 46, 52]⟩) ∧ Below w.heap.size w w' :=
  (text_any _ _ _ w hT (by decide) (by decide)).mono (by rintro e w' ⟨rfl, h⟩; exact ⟨by kernel_rfl, h⟩)
theorem aw_s (w : World) (hT : Tab w) (B : Nat) (h0 : w.cell? ⟨B, 0, none⟩ = some (.string ⟨#[99, 111, 46, 117, 107]⟩)) (h1 : w.cell? ⟨B, 1, none⟩ = some (.string ⟨#[117, 107]⟩)) :
    Calls Tryd.prog 16 #[.agg #[.string ⟨#[97, 46, 98, 46, 99, 111, 46, 117, 107]⟩, .bool false, .int .u32 0], .slice (some ⟨B, 0, none⟩) 2 2] w fun e w' => e = .returned (.string ⟨#[98, 46, 99, 111, 46, 117, 107]⟩) ∧ Below w.heap.size w w' :=
  (site_any ⟨#[97, 46, 98, 46, 99, 111, 46, 117, 107]⟩ false 0 (some ⟨B, 0, none⟩) 2 [[99, 111, 46, 117, 107], [117, 107]] w hT (by decide) (by decide) (by decide) (by decide) (by decide)
    (fun _ => ⟨⟨B, 0, none⟩, rfl, World.block_lt_of_cell? _ _ h0, fun i hi => by
      match i, hi with
      | 0, _ => exact h0
      | 1, _ => exact h1⟩)).mono (by rintro e w' ⟨rfl, h⟩; exact ⟨by kernel_rfl, h⟩)

set_option maxHeartbeats 1000000 in
theorem awake_any (w : World) (hT : Tab w) : Calls Tryd.prog 11 #[] w fun e w' => e = .returned (.bool true) ∧ Below w.heap.size w w' := by
  go_enter Tryd.func11, Tryd.ntmps11
  go_wp2_with fail
  refine (aw_p1 _).mono ?_
  rintro e w1 ⟨rfl, hb1⟩
  go_wp2_with fail
  refine (aw_p2 _).mono ?_
  rintro e w2 ⟨rfl, hb2⟩
  have hB2 := Below.onto1 hb1 hb2
  go_wp2_with fail
  refine (aw_p3 _).mono ?_
  rintro e w3 ⟨rfl, hb3⟩
  have hB3 := Below.onto1 hB2 hb3
  have q1 : HBox w3 w1.heap.size ⟨#[97, 46, 101, 120, 97, 109, 112, 108, 101]⟩ false 0 := by
    have h1 := (HBox.new w1 ⟨#[97, 46, 101, 120, 97, 109, 112, 108, 101]⟩ false 0).below hb2 (by simp)
    exact h1.below (C := w2.heap.size) (((Below.refl _ _).alloc (Nat.le_refl _) _).trans (hb3.mono (by simp))) h1.lt
  have q2 : HBox w3 w2.heap.size ⟨#[]⟩ true 16909060 := (HBox.new w2 ⟨#[]⟩ true 16909060).below hb3 (by simp)
  have c1 := q1.c0; have c2 := q2.c0; have c3 := q2.c1; have c4 := q2.c2
  have hl0 := q1.lt
  have hl1 := q2.lt
  have hB3' := hB3.alloc hB3.size (.cells #[.string ⟨#[]⟩, .bool false, .int .u32 0] 25)
  have HT3 := Lib.hid (hT.below hB3')
  clear hb1 hb2 hb3 hB2 q1 q2
  go_wp2_with fail
  refine (aw_t _ HT3.out).mono ?_
  rintro e w4 ⟨rfl, hb4⟩
  have hB4 := hB3'.trans (hb4.mono hB3'.size)
  have HT4 := Lib.hid (hT.below (hB4.alloc hB4.size (.cells #[.string ⟨#[99, 111, 46, 117, 107]⟩, .string ⟨#[117, 107]⟩] 9)))
  go_wp2_with fail
  refine (aw_s _ HT4.out w4.heap.size (by simp) (by simp)).mono ?_
  rintro e w5 ⟨rfl, hb5⟩
  go_wp2_with fail
  go_ret
  exact ⟨rfl, Below.onto1 hB4 hb5⟩
end Go.Proofs.YtknadldebedpiaaDoor
