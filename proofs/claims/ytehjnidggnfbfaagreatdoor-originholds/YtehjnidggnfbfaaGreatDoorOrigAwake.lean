/- The contract of the statements' head: the calls that the document fixes answer so. -/
import Derived.Test.YtehjnidggnfbfaaGreatDoorOrigSmall
namespace Go.Proofs.YtehjnidggnfbfaaGreatDoor
open Go.RowKit

def ow1 : List UInt8 := [104, 116, 116, 112, 115, 58, 47, 47, 97, 58, 52, 52, 51, 47, 120]
def ow2 : List UInt8 := [98, 108, 111, 98, 58, 104, 116, 116, 112, 58, 47, 47, 97, 58, 56, 47, 49]
def ow3 : List UInt8 := [100, 97, 116, 97, 58, 44, 120]
def ow4 : List UInt8 := [104, 116, 116, 112, 58, 47, 47, 120, 46, 97, 46, 98, 47]
def ow5 : List UInt8 := [104, 116, 116, 112, 115, 58, 47, 47, 121, 46, 97, 46, 98, 47]
def oo1 : Orig := ⟨false, 0, [104, 116, 116, 112, 115], ⟨[97], false, 0⟩, 443⟩
def oo2 : Orig := ⟨false, 0, [104, 116, 116, 112], ⟨[97], false, 0⟩, 8⟩
def oo3 : Orig := ⟨true, 3, [], ⟨[], false, 0⟩, 0⟩
def oo4 : Orig := ⟨false, 0, [104, 116, 116, 112], ⟨[120, 46, 97, 46, 98], false, 0⟩, 80⟩
def oo5 : Orig := ⟨false, 0, [104, 116, 116, 112, 115], ⟨[121, 46, 97, 46, 98], false, 0⟩, 443⟩
theorem oa1 : ofO (getU (Urp.parse ow1)) 1 = oo1 := by rfl
theorem oa2 : ofO (getU (Urp.parse ow2)) 2 = oo2 := by rfl
theorem oa3 : ofO (getU (Urp.parse ow3)) 3 = oo3 := by rfl
theorem oa4 : ofO (getU (Urp.parse ow4)) 4 = oo4 := by rfl
theorem oa5 : ofO (getU (Urp.parse ow5)) 5 = oo5 := by rfl
theorem ot1 : otextL oo1 = [104, 116, 116, 112, 115, 58, 47, 47, 97] := by rfl
theorem it8 : Lib.itoa 8 = [56] := by simp [Lib.itoa, Lib.decDigits]
theorem ot2 : otextL oo2 = [104, 116, 116, 112, 58, 47, 47, 97, 58, 56] := by
  have e : otextL oo2 = [104, 116, 116, 112, 58, 47, 47, 97, 58] ++ Lib.itoa 8 := by rfl
  rw [e, it8]; rfl
theorem ot3 : otextL oo3 = [110, 117, 108, 108] := by rfl
theorem os12 : sameO oo1 oo2 = false := by rfl
theorem os11 : sameO oo1 oo1 = true := by rfl
theorem ob45 : siteB oo4 oo5 [] = true := by rfl
theorem os4 : ositeL oo4 [] = [97, 46, 98] := by rfl
theorem sm1 : SmallO oo1 := ⟨by decide, by decide, by decide, by decide, by decide, by decide⟩
theorem sm2 : SmallO oo2 := ⟨by decide, by decide, by decide, by decide, by decide, by decide⟩
theorem sm3 : SmallO oo3 := ⟨by decide, by decide, by decide, by decide, by decide, by decide⟩
theorem sh4 : SmallH oo4 := ⟨by decide, by decide, by decide⟩
theorem sh5 : SmallH oo5 := ⟨by decide, by decide, by decide⟩
theorem few_nil : Few [] := ⟨by decide, fun _ h => by cases h⟩
theorem seen_nil (W : World) : Seen W none [] := fun h => absurd h (by decide)

set_option maxHeartbeats 8000000 in
set_option maxRecDepth 100000 in
theorem awake_any (w : World) (hT : Tab w) (hT8 : Tab8 w) : Calls Tryz.prog 5 #[] w fun e w' => e = .returned (.bool true) ∧ Below w.heap.size w w' := by
  have O1 : Hid (∀ W : World, Tab8 W → Calls Tryz.prog 17 #[.string ⟨#[104, 116, 116, 112, 115, 58, 47, 47, 97, 58, 52, 52, 51, 47, 120]⟩, .int .i64 1] W fun e w' => e = .returned (.agg #[.bool false, .int .i64 0, .string ⟨#[104, 116, 116, 112, 115]⟩, .string ⟨#[97]⟩, .bool false, .int .u32 0, .int .i64 443]) ∧ Below W.heap.size W w') :=
    Lib.hid (fun W hW => by have h := lof_any ow1 1 W (by decide) hW; rw [oa1] at h; exact h)
  have O2 : Hid (∀ W : World, Tab8 W → Calls Tryz.prog 17 #[.string ⟨#[98, 108, 111, 98, 58, 104, 116, 116, 112, 58, 47, 47, 97, 58, 56, 47, 49]⟩, .int .i64 2] W fun e w' => e = .returned (.agg #[.bool false, .int .i64 0, .string ⟨#[104, 116, 116, 112]⟩, .string ⟨#[97]⟩, .bool false, .int .u32 0, .int .i64 8]) ∧ Below W.heap.size W w') :=
    Lib.hid (fun W hW => by have h := lof_any ow2 2 W (by decide) hW; rw [oa2] at h; exact h)
  have O3 : Hid (∀ W : World, Tab8 W → Calls Tryz.prog 17 #[.string ⟨#[100, 97, 116, 97, 58, 44, 120]⟩, .int .i64 3] W fun e w' => e = .returned (.agg #[.bool true, .int .i64 3, .string ⟨#[]⟩, .string ⟨#[]⟩, .bool false, .int .u32 0, .int .i64 0]) ∧ Below W.heap.size W w') :=
    Lib.hid (fun W hW => by have h := lof_any ow3 3 W (by decide) hW; rw [oa3] at h; exact h)
  have O4 : Hid (∀ W : World, Tab8 W → Calls Tryz.prog 17 #[.string ⟨#[104, 116, 116, 112, 58, 47, 47, 120, 46, 97, 46, 98, 47]⟩, .int .i64 4] W fun e w' => e = .returned (.agg #[.bool false, .int .i64 0, .string ⟨#[104, 116, 116, 112]⟩, .string ⟨#[120, 46, 97, 46, 98]⟩, .bool false, .int .u32 0, .int .i64 80]) ∧ Below W.heap.size W w') :=
    Lib.hid (fun W hW => by have h := lof_any ow4 4 W (by decide) hW; rw [oa4] at h; exact h)
  have O5 : Hid (∀ W : World, Tab8 W → Calls Tryz.prog 17 #[.string ⟨#[104, 116, 116, 112, 115, 58, 47, 47, 121, 46, 97, 46, 98, 47]⟩, .int .i64 5] W fun e w' => e = .returned (.agg #[.bool false, .int .i64 0, .string ⟨#[104, 116, 116, 112, 115]⟩, .string ⟨#[121, 46, 97, 46, 98]⟩, .bool false, .int .u32 0, .int .i64 443]) ∧ Below W.heap.size W w') :=
    Lib.hid (fun W hW => by have h := lof_any ow5 5 W (by decide) hW; rw [oa5] at h; exact h)
  have T1 : Hid (∀ W : World, Tab W → Calls Tryz.prog 8 #[.agg #[.bool false, .int .i64 0, .string ⟨#[104, 116, 116, 112, 115]⟩, .string ⟨#[97]⟩, .bool false, .int .u32 0, .int .i64 443]] W fun e w' => e = .returned (.string ⟨#[104, 116, 116, 112, 115, 58, 47, 47, 97]⟩) ∧ Below W.heap.size W w') :=
    Lib.hid (fun W hW => by have h := otext_any oo1 W sm1 hW; rw [ot1] at h; exact h)
  have T2 : Hid (∀ W : World, Tab W → Calls Tryz.prog 8 #[.agg #[.bool false, .int .i64 0, .string ⟨#[104, 116, 116, 112]⟩, .string ⟨#[97]⟩, .bool false, .int .u32 0, .int .i64 8]] W fun e w' => e = .returned (.string ⟨#[104, 116, 116, 112, 58, 47, 47, 97, 58, 56]⟩) ∧ Below W.heap.size W w') :=
    Lib.hid (fun W hW => by have h := otext_any oo2 W sm2 hW; rw [ot2] at h; exact h)
  have T3 : Hid (∀ W : World, Tab W → Calls Tryz.prog 8 #[.agg #[.bool true, .int .i64 3, .string ⟨#[]⟩, .string ⟨#[]⟩, .bool false, .int .u32 0, .int .i64 0]] W fun e w' => e = .returned (.string ⟨#[110, 117, 108, 108]⟩) ∧ Below W.heap.size W w') :=
    Lib.hid (fun W hW => by have h := otext_any oo3 W sm3 hW; rw [ot3] at h; exact h)
  have S1 : Hid (∀ W : World, Calls Tryz.prog 11 #[.agg #[.bool false, .int .i64 0, .string ⟨#[104, 116, 116, 112, 115]⟩, .string ⟨#[97]⟩, .bool false, .int .u32 0, .int .i64 443], .agg #[.bool false, .int .i64 0, .string ⟨#[104, 116, 116, 112]⟩, .string ⟨#[97]⟩, .bool false, .int .u32 0, .int .i64 8]] W fun e w' => e = .returned (.bool false) ∧ Below W.heap.size W w') :=
    Lib.hid (fun W => by have h := same_any oo1 oo2 W; rw [os12] at h; exact h)
  have S2 : Hid (∀ W : World, Calls Tryz.prog 11 #[.agg #[.bool false, .int .i64 0, .string ⟨#[104, 116, 116, 112, 115]⟩, .string ⟨#[97]⟩, .bool false, .int .u32 0, .int .i64 443], .agg #[.bool false, .int .i64 0, .string ⟨#[104, 116, 116, 112, 115]⟩, .string ⟨#[97]⟩, .bool false, .int .u32 0, .int .i64 443]] W fun e w' => e = .returned (.bool true) ∧ Below W.heap.size W w') :=
    Lib.hid (fun W => by have h := same_any oo1 oo1 W; rw [os11] at h; exact h)
  have B1 : Hid (∀ W : World, Tab W → Calls Tryz.prog 15 #[.agg #[.bool false, .int .i64 0, .string ⟨#[104, 116, 116, 112]⟩, .string ⟨#[120, 46, 97, 46, 98]⟩, .bool false, .int .u32 0, .int .i64 80], .agg #[.bool false, .int .i64 0, .string ⟨#[104, 116, 116, 112, 115]⟩, .string ⟨#[121, 46, 97, 46, 98]⟩, .bool false, .int .u32 0, .int .i64 443], .slice none 0 0] W fun e w' => e = .returned (.bool true) ∧ Below W.heap.size W w') :=
    Lib.hid (fun W hW => by have h := sameSite_any oo4 oo5 none 0 [] W hW sh4 sh5 few_nil (seen_nil W); rw [ob45] at h; exact h)
  have B2 : Hid (∀ W : World, Tab W → Calls Tryz.prog 13 #[.agg #[.bool false, .int .i64 0, .string ⟨#[104, 116, 116, 112]⟩, .string ⟨#[120, 46, 97, 46, 98]⟩, .bool false, .int .u32 0, .int .i64 80], .slice none 0 0] W fun e w' => e = .returned (.string ⟨#[97, 46, 98]⟩) ∧ Below W.heap.size W w') :=
    Lib.hid (fun W hW => by have h := osite_any oo4 none 0 [] W hW sh4.a0 sh4.a1 sh4.hn few_nil (seen_nil W); rw [os4] at h; exact h)
  have HT := Lib.hid hT
  have HT8 := Lib.hid hT8
  clear hT hT8
  go_enter Tryz.func5, Tryz.ntmps5
  go_wp2_with fail
  refine (O1.out _ HT8.out).mono ?_
  rintro e w1 ⟨rfl, hb1⟩
  have b1 := hb1.alloc (o := .cells (oCells oo1) 29) hb1.size
  have x1 := OBox.new w1 oo1
  clear hb1
  have U1 := Lib.hid (HT8.out.below b1)
  go_wp2_with fail
  refine (O2.out _ U1.out).mono ?_
  rintro e w2 ⟨rfl, hb2⟩
  have b2 := (below_on b1 hb2).alloc (o := .cells (oCells oo2) 29) (below_on b1 hb2).size
  have y1 := (x1.keep hb2).alloc (.cells (oCells oo2) 29)
  have y2 := OBox.new w2 oo2
  clear hb2 b1 x1
  have U2 := Lib.hid (HT8.out.below b2)
  go_wp2_with fail
  refine (O3.out _ U2.out).mono ?_
  rintro e w3 ⟨rfl, hb3⟩
  have b3 := (below_on b2 hb3).alloc (o := .cells (oCells oo3) 29) (below_on b2 hb3).size
  have x1 := (y1.keep hb3).alloc (.cells (oCells oo3) 29)
  have x2 := (y2.keep hb3).alloc (.cells (oCells oo3) 29)
  have x3 := OBox.new w3 oo3
  clear hb3 b2 y1 y2
  have U3 := Lib.hid (HT8.out.below b3)
  go_wp2_with fail
  refine (O4.out _ U3.out).mono ?_
  rintro e w4 ⟨rfl, hb4⟩
  have b4 := (below_on b3 hb4).alloc (o := .cells (oCells oo4) 29) (below_on b3 hb4).size
  have y1 := (x1.keep hb4).alloc (.cells (oCells oo4) 29)
  have y2 := (x2.keep hb4).alloc (.cells (oCells oo4) 29)
  have y3 := (x3.keep hb4).alloc (.cells (oCells oo4) 29)
  have y4 := OBox.new w4 oo4
  clear hb4 b3 x1 x2 x3
  have U4 := Lib.hid (HT8.out.below b4)
  go_wp2_with fail
  refine (O5.out _ U4.out).mono ?_
  rintro e w5 ⟨rfl, hb5⟩
  have hb6 := below_on b4 hb5
  have b5 := hb6.alloc (o := .cells (oCells oo5) 29) hb6.size
  have v1 := y1.keep hb5
  have v2 := y2.keep hb5
  have v3 := y3.keep hb5
  have v4 := y4.keep hb5
  have x1 := v1.alloc (.cells (oCells oo5) 29)
  have x2 := v2.alloc (.cells (oCells oo5) 29)
  have x3 := v3.alloc (.cells (oCells oo5) 29)
  have x4 := v4.alloc (.cells (oCells oo5) 29)
  have x5 := OBox.new w5 oo5
  have l1 := v1.lt
  have n1 : w1.heap.size ≠ w5.heap.size := by omega
  clear hb5 hb6 b4 y1 y2 y3 y4
  have UT := Lib.hid (HT.out.below b5)
  have c0 : w5.cell? ⟨w1.heap.size, 0, none⟩ = some (.bool false) := v1.c0
  have c1 : w5.cell? ⟨w1.heap.size, 1, none⟩ = some (.int .i64 0) := v1.c1
  have c2 : w5.cell? ⟨w1.heap.size, 2, none⟩ = some (.string ⟨#[104, 116, 116, 112, 115]⟩) := v1.c2
  have c3 : w5.cell? ⟨w1.heap.size, 3, none⟩ = some (.string ⟨#[97]⟩) := v1.c3
  have c4 : w5.cell? ⟨w1.heap.size, 4, none⟩ = some (.bool false) := v1.c4
  have c5 : w5.cell? ⟨w1.heap.size, 5, none⟩ = some (.int .u32 0) := v1.c5
  have c6 : w5.cell? ⟨w1.heap.size, 6, none⟩ = some (.int .i64 443) := v1.c6
  clear v1 v2 v3 v4
  go_wp2_with fail
  refine (T1.out _ UT.out).mono ?_
  rintro e w6 ⟨rfl, hb6⟩
  have b6 := below_on b5 hb6
  have y1 := x1.keep hb6
  have y2 := x2.keep hb6
  have y3 := x3.keep hb6
  have y4 := x4.keep hb6
  have y5 := x5.keep hb6
  clear hb6 b5 x1 x2 x3 x4 x5 c0 c1 c2 c3 c4 c5 c6 n1 l1
  have UT := Lib.hid (HT.out.below b6)
  have c0 : w6.cell? ⟨w2.heap.size, 0, none⟩ = some (.bool false) := y2.c0
  have c1 : w6.cell? ⟨w2.heap.size, 1, none⟩ = some (.int .i64 0) := y2.c1
  have c2 : w6.cell? ⟨w2.heap.size, 2, none⟩ = some (.string ⟨#[104, 116, 116, 112]⟩) := y2.c2
  have c3 : w6.cell? ⟨w2.heap.size, 3, none⟩ = some (.string ⟨#[97]⟩) := y2.c3
  have c4 : w6.cell? ⟨w2.heap.size, 4, none⟩ = some (.bool false) := y2.c4
  have c5 : w6.cell? ⟨w2.heap.size, 5, none⟩ = some (.int .u32 0) := y2.c5
  have c6 : w6.cell? ⟨w2.heap.size, 6, none⟩ = some (.int .i64 8) := y2.c6
  go_wp2_with fail
  refine (T2.out _ UT.out).mono ?_
  rintro e w7 ⟨rfl, hb7⟩
  have b7 := below_on b6 hb7
  have x1 := y1.keep hb7
  have x2 := y2.keep hb7
  have x3 := y3.keep hb7
  have x4 := y4.keep hb7
  have x5 := y5.keep hb7
  clear hb7 b6 y1 y2 y3 y4 y5 c0 c1 c2 c3 c4 c5 c6
  have UT := Lib.hid (HT.out.below b7)
  have c0 : w7.cell? ⟨w3.heap.size, 0, none⟩ = some (.bool true) := x3.c0
  have c1 : w7.cell? ⟨w3.heap.size, 1, none⟩ = some (.int .i64 3) := x3.c1
  have c2 : w7.cell? ⟨w3.heap.size, 2, none⟩ = some (.string ⟨#[]⟩) := x3.c2
  have c3 : w7.cell? ⟨w3.heap.size, 3, none⟩ = some (.string ⟨#[]⟩) := x3.c3
  have c4 : w7.cell? ⟨w3.heap.size, 4, none⟩ = some (.bool false) := x3.c4
  have c5 : w7.cell? ⟨w3.heap.size, 5, none⟩ = some (.int .u32 0) := x3.c5
  have c6 : w7.cell? ⟨w3.heap.size, 6, none⟩ = some (.int .i64 0) := x3.c6
  go_wp2_with fail
  refine (T3.out _ UT.out).mono ?_
  rintro e w8 ⟨rfl, hb8⟩
  have b8 := below_on b7 hb8
  have y1 := x1.keep hb8
  have y2 := x2.keep hb8
  have y3 := x3.keep hb8
  have y4 := x4.keep hb8
  have y5 := x5.keep hb8
  clear hb8 b7 x1 x2 x3 x4 x5 c0 c1 c2 c3 c4 c5 c6
  have d1 : w8.cell? ⟨w3.heap.size, 1, none⟩ = some (.int .i64 3) := y3.c1
  have c0 : w8.cell? ⟨w1.heap.size, 0, none⟩ = some (.bool false) := y1.c0
  have c1 : w8.cell? ⟨w1.heap.size, 1, none⟩ = some (.int .i64 0) := y1.c1
  have c2 : w8.cell? ⟨w1.heap.size, 2, none⟩ = some (.string ⟨#[104, 116, 116, 112, 115]⟩) := y1.c2
  have c3 : w8.cell? ⟨w1.heap.size, 3, none⟩ = some (.string ⟨#[97]⟩) := y1.c3
  have c4 : w8.cell? ⟨w1.heap.size, 4, none⟩ = some (.bool false) := y1.c4
  have c5 : w8.cell? ⟨w1.heap.size, 5, none⟩ = some (.int .u32 0) := y1.c5
  have c6 : w8.cell? ⟨w1.heap.size, 6, none⟩ = some (.int .i64 443) := y1.c6
  have e0 : w8.cell? ⟨w2.heap.size, 0, none⟩ = some (.bool false) := y2.c0
  have e1 : w8.cell? ⟨w2.heap.size, 1, none⟩ = some (.int .i64 0) := y2.c1
  have e2 : w8.cell? ⟨w2.heap.size, 2, none⟩ = some (.string ⟨#[104, 116, 116, 112]⟩) := y2.c2
  have e3 : w8.cell? ⟨w2.heap.size, 3, none⟩ = some (.string ⟨#[97]⟩) := y2.c3
  have e4 : w8.cell? ⟨w2.heap.size, 4, none⟩ = some (.bool false) := y2.c4
  have e5 : w8.cell? ⟨w2.heap.size, 5, none⟩ = some (.int .u32 0) := y2.c5
  have e6 : w8.cell? ⟨w2.heap.size, 6, none⟩ = some (.int .i64 8) := y2.c6
  go_wp2_with fail
  refine (S1.out _).mono ?_
  rintro e w9 ⟨rfl, hb9⟩
  have b9 := below_on b8 hb9
  have x1 := y1.keep hb9
  have x4 := y4.keep hb9
  have x5 := y5.keep hb9
  clear hb9 b8 y1 y2 y3 y4 y5 c0 c1 c2 c3 c4 c5 c6 e0 e1 e2 e3 e4 e5 e6 d1
  have c0 : w9.cell? ⟨w1.heap.size, 0, none⟩ = some (.bool false) := x1.c0
  have c1 : w9.cell? ⟨w1.heap.size, 1, none⟩ = some (.int .i64 0) := x1.c1
  have c2 : w9.cell? ⟨w1.heap.size, 2, none⟩ = some (.string ⟨#[104, 116, 116, 112, 115]⟩) := x1.c2
  have c3 : w9.cell? ⟨w1.heap.size, 3, none⟩ = some (.string ⟨#[97]⟩) := x1.c3
  have c4 : w9.cell? ⟨w1.heap.size, 4, none⟩ = some (.bool false) := x1.c4
  have c5 : w9.cell? ⟨w1.heap.size, 5, none⟩ = some (.int .u32 0) := x1.c5
  have c6 : w9.cell? ⟨w1.heap.size, 6, none⟩ = some (.int .i64 443) := x1.c6
  go_wp2_with fail
  refine (S2.out _).mono ?_
  rintro e w10 ⟨rfl, hb10⟩
  have b10 := below_on b9 hb10
  have y4 := x4.keep hb10
  have y5 := x5.keep hb10
  clear hb10 b9 x1 x4 x5 c0 c1 c2 c3 c4 c5 c6
  have UT := Lib.hid (HT.out.below b10)
  have c0 : w10.cell? ⟨w4.heap.size, 0, none⟩ = some (.bool false) := y4.c0
  have c1 : w10.cell? ⟨w4.heap.size, 1, none⟩ = some (.int .i64 0) := y4.c1
  have c2 : w10.cell? ⟨w4.heap.size, 2, none⟩ = some (.string ⟨#[104, 116, 116, 112]⟩) := y4.c2
  have c3 : w10.cell? ⟨w4.heap.size, 3, none⟩ = some (.string ⟨#[120, 46, 97, 46, 98]⟩) := y4.c3
  have c4 : w10.cell? ⟨w4.heap.size, 4, none⟩ = some (.bool false) := y4.c4
  have c5 : w10.cell? ⟨w4.heap.size, 5, none⟩ = some (.int .u32 0) := y4.c5
  have c6 : w10.cell? ⟨w4.heap.size, 6, none⟩ = some (.int .i64 80) := y4.c6
  have e0 : w10.cell? ⟨w5.heap.size, 0, none⟩ = some (.bool false) := y5.c0
  have e1 : w10.cell? ⟨w5.heap.size, 1, none⟩ = some (.int .i64 0) := y5.c1
  have e2 : w10.cell? ⟨w5.heap.size, 2, none⟩ = some (.string ⟨#[104, 116, 116, 112, 115]⟩) := y5.c2
  have e3 : w10.cell? ⟨w5.heap.size, 3, none⟩ = some (.string ⟨#[121, 46, 97, 46, 98]⟩) := y5.c3
  have e4 : w10.cell? ⟨w5.heap.size, 4, none⟩ = some (.bool false) := y5.c4
  have e5 : w10.cell? ⟨w5.heap.size, 5, none⟩ = some (.int .u32 0) := y5.c5
  have e6 : w10.cell? ⟨w5.heap.size, 6, none⟩ = some (.int .i64 443) := y5.c6
  go_wp2_with fail
  refine (B1.out _ UT.out).mono ?_
  rintro e w11 ⟨rfl, hb11⟩
  have b11 := below_on b10 hb11
  have x4 := y4.keep hb11
  clear hb11 b10 y4 y5 c0 c1 c2 c3 c4 c5 c6 e0 e1 e2 e3 e4 e5 e6
  have UT := Lib.hid (HT.out.below b11)
  have c0 : w11.cell? ⟨w4.heap.size, 0, none⟩ = some (.bool false) := x4.c0
  have c1 : w11.cell? ⟨w4.heap.size, 1, none⟩ = some (.int .i64 0) := x4.c1
  have c2 : w11.cell? ⟨w4.heap.size, 2, none⟩ = some (.string ⟨#[104, 116, 116, 112]⟩) := x4.c2
  have c3 : w11.cell? ⟨w4.heap.size, 3, none⟩ = some (.string ⟨#[120, 46, 97, 46, 98]⟩) := x4.c3
  have c4 : w11.cell? ⟨w4.heap.size, 4, none⟩ = some (.bool false) := x4.c4
  have c5 : w11.cell? ⟨w4.heap.size, 5, none⟩ = some (.int .u32 0) := x4.c5
  have c6 : w11.cell? ⟨w4.heap.size, 6, none⟩ = some (.int .i64 80) := x4.c6
  go_wp2_with fail
  refine (B2.out _ UT.out).mono ?_
  rintro e w12 ⟨rfl, hb12⟩
  have b12 := below_on b11 hb12
  go_wp2_with fail
  go_ret
  exact ⟨rfl, b12⟩
end Go.Proofs.YtehjnidggnfbfaaGreatDoor
