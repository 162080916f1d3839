/- The contract of the statements' head: the calls that the document fixes answer so. -/
import Derived.Test.YtbeckddgelcbhaaGreatDoorUrlpText
namespace Go.Proofs.YtbeckddgelcbhaaGreatDoor
open Go.RowKit

def awA : List UInt8 := [32, 72, 84, 84, 80, 83, 58, 47, 47, 65, 46, 101, 120, 97, 109, 112, 108, 101, 58, 52, 52, 51, 47, 120, 47, 46, 46, 47, 121, 63, 122, 35, 119]
def awB : List UInt8 := [102, 116, 112, 58, 47, 47, 97, 47]
def awC : List UInt8 := [98, 108, 111, 98, 58, 104, 116, 116, 112, 115, 58, 47, 47, 97, 47, 49]
def uA : Urp.URL := ⟨[104, 116, 116, 112, 115], ⟨[97, 46, 101, 120, 97, 109, 112, 108, 101], false, 0⟩, -1, [47, 121], true, [122], []⟩
def uC : Urp.URL := ⟨[98, 108, 111, 98], Hst.none_, -1, [], false, [], [104, 116, 116, 112, 115, 58, 47, 47, 97, 47, 49]⟩
def uI : Urp.URL := ⟨[104, 116, 116, 112, 115], ⟨[97], false, 0⟩, -1, [47, 49], false, [], []⟩
theorem aw1 : Urp.parse awA = .ok uA := by rfl
theorem aw2 : Urp.parse awB = .error 31 := by rfl
theorem aw3 : Urp.parse awC = .ok uC := by rfl
theorem aw4 : Urp.innerU uC = some uI := by rfl
theorem aw5 : utextL uA = [104, 116, 116, 112, 115, 58, 47, 47, 97, 46, 101, 120, 97, 109, 112, 108, 101, 47, 121, 63, 122] := by rfl
theorem smallA : SmallU uA := ⟨by decide, by decide, by decide, by decide, by decide, by decide, by decide, by decide, by decide⟩

set_option maxHeartbeats 4000000 in
set_option maxRecDepth 100000 in
theorem awake_any (w : World) (hT : Tab w) (hT8 : Tab8 w) : Calls Tryz.prog 4 #[] w fun e w' => e = .returned (.bool true) ∧ Below w.heap.size w w' := by
  have H1 : Hid (∀ W : World, Tab8 W → Calls Tryz.prog 11 #[.string ⟨#[32, 72, 84, 84, 80, 83, 58, 47, 47, 65, 46, 101, 120, 97, 109, 112, 108, 101, 58, 52, 52, 51, 47, 120, 47, 46, 46, 47, 121, 63, 122, 35, 119]⟩] W fun e w' => e = .returned (.tuple #[.agg #[.string ⟨#[104, 116, 116, 112, 115]⟩, .string ⟨#[97, 46, 101, 120, 97, 109, 112, 108, 101]⟩, .bool false, .int .u32 0, .int .i64 (-1), .string ⟨#[47, 121]⟩, .bool true, .string ⟨#[122]⟩, .string ⟨#[]⟩], .int .i64 0]) ∧ Below W.heap.size W w') :=
    Lib.hid (fun W hW => by have h := uparse_any awA W (by decide) hW; rw [aw1] at h; exact h)
  have H2 : Hid (∀ W : World, Tab8 W → Calls Tryz.prog 11 #[.string ⟨#[102, 116, 112, 58, 47, 47, 97, 47]⟩] W fun e w' => e = .returned (.tuple #[.agg #[.string ⟨#[]⟩, .string ⟨#[]⟩, .bool false, .int .u32 0, .int .i64 0, .string ⟨#[]⟩, .bool false, .string ⟨#[]⟩, .string ⟨#[]⟩], .int .i64 31]) ∧ Below W.heap.size W w') :=
    Lib.hid (fun W hW => by have h := uparse_any awB W (by decide) hW; rw [aw2] at h; exact h)
  have H3 : Hid (∀ W : World, Tab8 W → Calls Tryz.prog 11 #[.string ⟨#[98, 108, 111, 98, 58, 104, 116, 116, 112, 115, 58, 47, 47, 97, 47, 49]⟩] W fun e w' => e = .returned (.tuple #[.agg #[.string ⟨#[98, 108, 111, 98]⟩, .string ⟨#[]⟩, .bool false, .int .u32 0, .int .i64 (-1), .string ⟨#[]⟩, .bool false, .string ⟨#[]⟩, .string ⟨#[104, 116, 116, 112, 115, 58, 47, 47, 97, 47, 49]⟩], .int .i64 0]) ∧ Below W.heap.size W w') :=
    Lib.hid (fun W hW => by have h := uparse_any awC W (by decide) hW; rw [aw3] at h; exact h)
  have H4 : Hid (∀ W : World, Tab8 W → Calls Tryz.prog 5 #[.agg #[.string ⟨#[98, 108, 111, 98]⟩, .string ⟨#[]⟩, .bool false, .int .u32 0, .int .i64 (-1), .string ⟨#[]⟩, .bool false, .string ⟨#[]⟩, .string ⟨#[104, 116, 116, 112, 115, 58, 47, 47, 97, 47, 49]⟩]] W fun e w' => e = .returned (.tuple #[.agg #[.string ⟨#[104, 116, 116, 112, 115]⟩, .string ⟨#[97]⟩, .bool false, .int .u32 0, .int .i64 (-1), .string ⟨#[47, 49]⟩, .bool false, .string ⟨#[]⟩, .string ⟨#[]⟩], .bool true]) ∧ Below W.heap.size W w') :=
    Lib.hid (fun W hW => by have h := inner_any uC W (by decide) hW; rw [aw4] at h; exact h)
  have H5 : Hid (∀ W : World, Tab W → Calls Tryz.prog 7 #[.agg #[.string ⟨#[104, 116, 116, 112, 115]⟩, .string ⟨#[97, 46, 101, 120, 97, 109, 112, 108, 101]⟩, .bool false, .int .u32 0, .int .i64 (-1), .string ⟨#[47, 121]⟩, .bool true, .string ⟨#[122]⟩, .string ⟨#[]⟩]] W fun e w' => e = .returned (.string ⟨#[104, 116, 116, 112, 115, 58, 47, 47, 97, 46, 101, 120, 97, 109, 112, 108, 101, 47, 121, 63, 122]⟩) ∧ Below W.heap.size W w') :=
    Lib.hid (fun W hW => by have h := utext_any uA W smallA hW; rw [aw5] at h; exact h)
  have HT := Lib.hid hT
  have HT8 := Lib.hid hT8
  clear hT hT8
  go_enter Tryz.func4, Tryz.ntmps4
  go_wp2_with fail
  refine (H1.out _ HT8.out).mono ?_
  rintro e w1 ⟨rfl, hb1⟩
  have b1 := hb1.alloc (o := .cells (uCells uA) 26) hb1.size
  have x1 := UBox.new w1 uA
  have p1 := hb1.size
  clear hb1
  have T1 := Lib.hid (HT8.out.below b1)
  go_wp2_with fail
  refine (H2.out _ T1.out).mono ?_
  rintro e w2 ⟨rfl, hb2⟩
  have b2 := (below_on b1 hb2).alloc (o := .cells (uCells Urp.zeroU) 26) (below_on b1 hb2).size
  have y1 := (x1.keep hb2).alloc (.cells (uCells Urp.zeroU) 26)
  clear hb2 b1 x1
  have T2 := Lib.hid (HT8.out.below b2)
  go_wp2_with fail
  refine (H3.out _ T2.out).mono ?_
  rintro e w3 ⟨rfl, hb3⟩
  have hbz := below_on b2 hb3
  have b3 := hbz.alloc (o := .cells (uCells uC) 26) hbz.size
  have z1 := (y1.keep hb3).alloc (.cells (uCells uC) 26)
  have zc := UBox.new w3 uC
  clear hb3 b2 y1 hbz
  have T3 := Lib.hid (HT8.out.below b3)
  go_wp2_with fail
  refine (H4.out _ T3.out).mono ?_
  rintro e w4 ⟨rfl, hb4⟩
  have hbz := below_on b3 hb4
  have b4 := hbz.alloc (o := .cells (uCells uI) 26) hbz.size
  have k1 := z1.keep hb4
  have kc := zc.keep hb4
  have m1 := k1.alloc (.cells (uCells uI) 26)
  have mc := kc.alloc (.cells (uCells uI) 26)
  have mi := UBox.new w4 uI
  clear hb4 b3 z1 zc hbz
  have T4 := Lib.hid (HT.out.below b4)
  have c0 : w4.cell? ⟨w1.heap.size, 0, none⟩ = some (.string ⟨#[104, 116, 116, 112, 115]⟩) := k1.c0
  have c1 : w4.cell? ⟨w1.heap.size, 1, none⟩ = some (.string ⟨#[97, 46, 101, 120, 97, 109, 112, 108, 101]⟩) := k1.c1
  have c2 : w4.cell? ⟨w1.heap.size, 2, none⟩ = some (.bool false) := k1.c2
  have c3 : w4.cell? ⟨w1.heap.size, 3, none⟩ = some (.int .u32 0) := k1.c3
  have c4 : w4.cell? ⟨w1.heap.size, 4, none⟩ = some (.int .i64 (-1)) := k1.c4
  have c5 : w4.cell? ⟨w1.heap.size, 5, none⟩ = some (.string ⟨#[47, 121]⟩) := k1.c5
  have c6 : w4.cell? ⟨w1.heap.size, 6, none⟩ = some (.bool true) := k1.c6
  have c7 : w4.cell? ⟨w1.heap.size, 7, none⟩ = some (.string ⟨#[122]⟩) := k1.c7
  have c8 : w4.cell? ⟨w1.heap.size, 8, none⟩ = some (.string ⟨#[]⟩) := k1.c8
  have d0 : w4.cell? ⟨w3.heap.size, 0, none⟩ = some (.string ⟨#[98, 108, 111, 98]⟩) := kc.c0
  have d1 : w4.cell? ⟨w3.heap.size, 1, none⟩ = some (.string ⟨#[]⟩) := kc.c1
  have d2 : w4.cell? ⟨w3.heap.size, 2, none⟩ = some (.bool false) := kc.c2
  have d3 : w4.cell? ⟨w3.heap.size, 3, none⟩ = some (.int .u32 0) := kc.c3
  have d4 : w4.cell? ⟨w3.heap.size, 4, none⟩ = some (.int .i64 (-1)) := kc.c4
  have d5 : w4.cell? ⟨w3.heap.size, 5, none⟩ = some (.string ⟨#[]⟩) := kc.c5
  have d6 : w4.cell? ⟨w3.heap.size, 6, none⟩ = some (.bool false) := kc.c6
  have d7 : w4.cell? ⟨w3.heap.size, 7, none⟩ = some (.string ⟨#[]⟩) := kc.c7
  have d8 : w4.cell? ⟨w3.heap.size, 8, none⟩ = some (.string ⟨#[104, 116, 116, 112, 115, 58, 47, 47, 97, 47, 49]⟩) := kc.c8
  have l1 := k1.lt
  have lc := kc.lt
  have n1 : w1.heap.size ≠ w4.heap.size := by omega
  have nc : w3.heap.size ≠ w4.heap.size := by omega
  go_wp2_with fail
  refine (H5.out _ T4.out).mono ?_
  rintro e w5 ⟨rfl, hb5⟩
  have b5 := below_on b4 hb5
  have k1 := m1.keep hb5
  have kc := mc.keep hb5
  clear hb5 b4 m1 mc mi c0 c1 c2 c3 c4 c5 c6 c7 c8 d0 d1 d2 d3 d4 d5 d6 d7 d8 l1 lc n1 nc
  have c0 : w5.cell? ⟨w1.heap.size, 0, none⟩ = some (.string ⟨#[104, 116, 116, 112, 115]⟩) := k1.c0
  have c1 : w5.cell? ⟨w1.heap.size, 1, none⟩ = some (.string ⟨#[97, 46, 101, 120, 97, 109, 112, 108, 101]⟩) := k1.c1
  have c2 : w5.cell? ⟨w1.heap.size, 2, none⟩ = some (.bool false) := k1.c2
  have c3 : w5.cell? ⟨w1.heap.size, 3, none⟩ = some (.int .u32 0) := k1.c3
  have c4 : w5.cell? ⟨w1.heap.size, 4, none⟩ = some (.int .i64 (-1)) := k1.c4
  have c5 : w5.cell? ⟨w1.heap.size, 5, none⟩ = some (.string ⟨#[47, 121]⟩) := k1.c5
  have c6 : w5.cell? ⟨w1.heap.size, 6, none⟩ = some (.bool true) := k1.c6
  have c7 : w5.cell? ⟨w1.heap.size, 7, none⟩ = some (.string ⟨#[122]⟩) := k1.c7
  have c8 : w5.cell? ⟨w1.heap.size, 8, none⟩ = some (.string ⟨#[]⟩) := k1.c8
  go_wp2_with fail
  refine (netV_any _ _ _ _ _ _ _ _ _ _).mono ?_
  rintro e w6 ⟨rfl, hb6⟩
  have b6 := below_on b5 hb6
  have kd := kc.keep hb6
  have en : Urp.netB (⟨#[104, 116, 116, 112, 115]⟩ : ByteArray).data.toList = true := by rfl
  rw [en]
  clear hb6 b5 k1 kc c0 c1 c2 c3 c4 c5 c6 c7 c8 en
  have d0 : w6.cell? ⟨w3.heap.size, 0, none⟩ = some (.string ⟨#[98, 108, 111, 98]⟩) := kd.c0
  have d1 : w6.cell? ⟨w3.heap.size, 1, none⟩ = some (.string ⟨#[]⟩) := kd.c1
  have d2 : w6.cell? ⟨w3.heap.size, 2, none⟩ = some (.bool false) := kd.c2
  have d3 : w6.cell? ⟨w3.heap.size, 3, none⟩ = some (.int .u32 0) := kd.c3
  have d4 : w6.cell? ⟨w3.heap.size, 4, none⟩ = some (.int .i64 (-1)) := kd.c4
  have d5 : w6.cell? ⟨w3.heap.size, 5, none⟩ = some (.string ⟨#[]⟩) := kd.c5
  have d6 : w6.cell? ⟨w3.heap.size, 6, none⟩ = some (.bool false) := kd.c6
  have d7 : w6.cell? ⟨w3.heap.size, 7, none⟩ = some (.string ⟨#[]⟩) := kd.c7
  have d8 : w6.cell? ⟨w3.heap.size, 8, none⟩ = some (.string ⟨#[104, 116, 116, 112, 115, 58, 47, 47, 97, 47, 49]⟩) := kd.c8
  go_wp2_with fail
  refine (netV_any _ _ _ _ _ _ _ _ _ _).mono ?_
  rintro e w7 ⟨rfl, hb7⟩
  have b7 := below_on b6 hb7
  have en : Urp.netB (⟨#[98, 108, 111, 98]⟩ : ByteArray).data.toList = false := by rfl
  rw [en]
  clear hb7 b6 en
  go_wp2_with fail
  go_ret
  exact ⟨rfl, b7⟩
end Go.Proofs.YtbeckddgelcbhaaGreatDoor
