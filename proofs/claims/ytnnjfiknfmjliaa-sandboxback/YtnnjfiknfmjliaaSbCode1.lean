/- The contracts of sandbox.keywords, of the closure of Flags, and of Flags. -/
import Derived.Test.YtnnjfiknfmjliaaSbBits
import Derived.Test.YtnnjfiknfmjliaaSbRef2
import Derived.Test.YtnnjfiknfmjliaaBox
import Derived.Maps.Own
import Derived.Maps.OwnSet
import Derived.Maps.RangeWalk
import Derived.Deep.RegionWith
namespace Go.Proofs.Ytnnjfiknfmjliaa
open Go.RowKit
open Go.Maps Go.WideMaps

theorem sbLaw : Keyed Try.prog 9 := string_keyed Try.underlying9
theorem sbZero (w : World) : (zeroValue 3).run Try.prog w = .ok (.int .i64 0) w := by kernel_rfl
def kwTo : Nat → DataW Unit
  | 0 => .map []
  | k + 1 => (kwTo k).put (.string (Sb.nm k)) (.lit (.int .i64 (Sb.kv k)))
theorem kw_form (k : Nat) : ∃ l, kwTo k = .map l := by
  cases k with
  | zero => exact ⟨_, rfl⟩
  | succ k =>
    unfold kwTo DataW.put
    split
    · exact ⟨_, rfl⟩
    · rename_i h
      obtain ⟨l, hl⟩ := kw_form k
      exact absurd hl (h l)
/-- The map of the six words. -/
def kwD : DataW Unit := kwTo 6
theorem kw_to (s : List UInt8) (z : Int) : ∀ k, k ≤ 6 → (kwTo k).atKey (.string s) (.lit (.int .i64 z)) = .lit (.int .i64 (if Sb.at s < k then Sb.kv (Sb.at s) else z))
  | 0, _ => by rw [if_neg (by omega)]; rfl
  | k + 1, h => by
    unfold kwTo
    by_cases e : s = Sb.nm k
    · have ha : Sb.at s = k := by rw [e]; exact at_nm (by omega)
      rw [if_pos (by omega), ha, e]
      exact atKey_put_same (kw_form k) (by trivial) _ _
    · rw [atKey_put_other (fun h => e (Lit.string.inj h)), kw_to s z k (by omega)]
      have ha : Sb.at s ≠ k := fun h2 => e (by rw [← h2]; exact nm_at s (by omega))
      by_cases hk : Sb.at s < k
      · rw [if_pos hk, if_pos (by omega)]
      · rw [if_neg hk, if_neg (by omega)]
theorem kw_at (s : List UInt8) (z : Int) : kwD.atKey (.string s) (.lit (.int .i64 z)) = .lit (.int .i64 (if Sb.at s < 6 then Sb.kv (Sb.at s) else z)) := kw_to s z 6 (Nat.le_refl _)
theorem kv_none (s : List UInt8) : (if Sb.at s < 6 then Sb.kv (Sb.at s) else 0) = Sb.kv (Sb.at s) := by
  have h := at_le s
  by_cases e : Sb.at s < 6
  · rw [if_pos e]
  · rw [if_neg e, show Sb.at s = 6 by omega]; rfl
/-- The map lies in a block. -/
def KwAt (w : World) (B : Nat) : Prop := w.ownsMap Try.prog 9 (plainElem Try.prog 3) B 6 kwD
theorem KwAt.kept {w w' : World} {B : Nat} {row : Option Nat} (h : KwAt w B) (hg : w.grownBy w' row) (hne : some B ≠ row) : KwAt w' B := World.ownsMap.kept h hg hne
theorem KwAt.lt {w : World} {B : Nat} (h : KwAt w B) : B < w.heap.size := World.ownsMap.lt h
theorem KwAt.below {w w' : World} {B : Nat} (h : KwAt w B) (hb : Below w.heap.size w w') : KwAt w' B := h.kept (grow_of hb none) (by simp)
theorem KwAt.run {w : World} {B : Nat} (h : KwAt w B) (s : List UInt8) (hs : s.length ≤ maxLen) : (Instr.lookup 38 (.map (some B)) (.string (bA s)) false).run Try.prog w = .ok (.int .i64 (Sb.kv (Sb.at s))) w := by
  obtain ⟨c, hr, hat, _⟩ := World.ownsMap.lookup_int h sbLaw Try.underlying38 Try.underlying3 (sbZero w) (key := .string (bA s)) (keyOf_string_mk Try.underlying9 (by rw [bA_size]; exact hs))
  rw [hr]
  have e : kwD.atKey (.string (bA s).data.toList) (.lit (.int .i64 0)) = .lit (.int .i64 (if Sb.at s < 6 then Sb.kv (Sb.at s) else 0)) := kw_at s 0
  rw [e, kv_none] at hat
  rw [← (Lit.int.inj (DataW.lit.inj hat)).2]
theorem kw_step {w W : World} {k : Nat} (hk : k < 6) (ho : W.ownsMap Try.prog 9 (plainElem Try.prog 3) w.heap.size k (kwTo k)) (hb : Below w.heap.size w W) :
    ∃ W', (Instr.mapUpdate 38 (.map (some w.heap.size)) (.string (bA (Sb.nm k))) (.int .i64 (Sb.kv k))).run Try.prog W = .ok () W' ∧ W'.ownsMap Try.prog 9 (plainElem Try.prog 3) w.heap.size (k + 1) (kwTo (k + 1)) ∧ Below w.heap.size w W' := by
  have hl : (bA (Sb.nm k)).size ≤ maxLen := by
    match k, hk with
    | 0, _ => decide
    | 1, _ => decide
    | 2, _ => decide
    | 3, _ => decide
    | 4, _ => decide
    | 5, _ => decide
  have hw : (Lit.int .i64 (Sb.kv k)).wf = true := by
    match k, hk with
    | 0, _ => decide
    | 1, _ => decide
    | 2, _ => decide
    | 3, _ => decide
    | 4, _ => decide
    | 5, _ => decide
  obtain ⟨w1, r1, o1, g1⟩ := ho.update sbLaw Try.underlying38 (by unfold maxLen; omega) (key := .string (bA (Sb.nm k))) (val := .int .i64 (Sb.kv k)) (keyOf_string_mk Try.underlying9 hl) (plainElem_int Try.underlying3 hw)
  exact ⟨w1, r1, o1, hb.grown g1 hb.size (fun j hj => by cases hj; exact Nat.le_refl _)⟩
set_option maxRecDepth 20000 in
theorem sbKeys_any (w : World) : Calls Try.prog 21 #[] w fun e w' => e = .returned (.map (some w.heap.size)) ∧ Below w.heap.size w w' ∧ KwAt w' w.heap.size := by
  have hmm := @run_makeMap Try.prog
  have o0 : (w.alloc (.map #[] 0)).ownsMap Try.prog 9 (plainElem Try.prog 3) w.heap.size 0 (kwTo 0) := World.ownsMap_made (H := Unit) w Try.prog 9 (plainElem Try.prog 3)
  have b0 : Below w.heap.size w (w.alloc (.map #[] 0)) := (Below.refl _ w).alloc (Nat.le_refl _) _
  obtain ⟨w1, r1, o1, b1⟩ := kw_step (by omega) o0 b0
  obtain ⟨w2, r2, o2, b2⟩ := kw_step (by omega) o1 b1
  obtain ⟨w3, r3, o3, b3⟩ := kw_step (by omega) o2 b2
  obtain ⟨w4, r4, o4, b4⟩ := kw_step (by omega) o3 b3
  obtain ⟨w5, r5, o5, b5⟩ := kw_step (by omega) o4 b4
  obtain ⟨w6, r6, o6, b6⟩ := kw_step (by omega) o5 b5
  have HO : Hid (KwAt w6 w.heap.size) := Lib.hid o6
  have HB := Lib.hid b6
  clear o0 o1 o2 o3 o4 o5 o6 b0 b1 b2 b3 b4 b5 b6
  rw [show Sb.nm 0 = Sb.n0 from rfl, show Sb.kv 0 = 1 from rfl] at r1
  rw [show Sb.nm 1 = Sb.n1 from rfl, show Sb.kv 1 = 2 from rfl] at r2
  rw [show Sb.nm 2 = Sb.n2 from rfl, show Sb.kv 2 = 4 from rfl] at r3
  rw [show Sb.nm 3 = Sb.n3 from rfl, show Sb.kv 3 = 8 from rfl] at r4
  rw [show Sb.nm 4 = Sb.n4 from rfl, show Sb.kv 4 = 16 from rfl] at r5
  rw [show Sb.nm 5 = Sb.n5 from rfl, show Sb.kv 5 = 32 from rfl] at r6
  unfold bA Sb.n0 at r1; unfold bA Sb.n1 at r2; unfold bA Sb.n2 at r3; unfold bA Sb.n3 at r4; unfold bA Sb.n4 at r5; unfold bA Sb.n5 at r6
  go_enter Try.func21, Try.ntmps21
  go_wp2_with fail
  go_ret
  exact ⟨rfl, HB.out, HO.out⟩

/-! ### Flags -/
theorem clow_at (s : List UInt8) (w : World) (hs : s.length ≤ 100000000) : Calls Try.prog 29 #[.string (bA s)] w fun e w' => e = .returned (.string (bA (Oct.lower s))) ∧ Below w.heap.size w w' :=
  lower_any (bA s) w (by rw [bA_size]; unfold maxLen; omega)
theorem low_len (s : List UInt8) : (Oct.lower s).length = s.length := by unfold Oct.lower; exact List.length_map ..
/-- What stands while a flag is cleared. -/
structure RdyF (w : World) (B1 B2 B3 : Nat) (f : Int) (W : World) : Prop where
  c1 : CBox W B1 3 #[.int .i64 f]
  c2 : CBox W B2 38 #[.map (some B3)]
  m : KwAt W B3
  g : w.grownBy W (some B1)
theorem RdyF.below {w W W' : World} {B1 B2 B3 : Nat} {f : Int} (h : RdyF w B1 B2 B3 f W) (hb : Below W.heap.size W W') : RdyF w B1 B2 B3 f W' := ⟨h.c1.keep hb, h.c2.keep hb, h.m.below hb, g_below h.g hb⟩
theorem RdyF.drew {w W : World} {B1 B2 B3 : Nat} {f : Int} (h : RdyF w B1 B2 B3 f W) : RdyF w B1 B2 B3 f W.drew := h.below (Below.refl _ _).drew
theorem RdyF.cs {w W : World} {B1 B2 B3 : Nat} {f : Int} (h : RdyF w B1 B2 B3 f W) : W.cell? ⟨B1, 0, none⟩ = some (.int .i64 f) ∧ W.cell? ⟨B2, 0, none⟩ = some (.map (some B3)) ∧ W.frozen? ⟨B1, 0, none⟩ = false := ⟨h.c1.c 0, h.c2.c 0, h.c1.fr 0⟩
set_option maxHeartbeats 2000000 in
/-- The closure that lets a word's flag be. -/
theorem leave_any (B1 B2 B3 : Nat) (f : Int) (s : List UInt8) (w : World) (h1 : CBox w B1 3 #[.int .i64 f]) (h2 : CBox w B2 38 #[.map (some B3)]) (h3 : KwAt w B3) (hs : s.length ≤ 100000000) :
    Calls Try.prog 28 #[.string (bA s), .pointer (some ⟨B1, 0, none⟩), .pointer (some ⟨B2, 0, none⟩)] w fun e w' => e = .returned (.tuple #[]) ∧ CBox w' B1 3 #[.int .i64 (bits .andNot .i64 f (Sb.kv (Sb.at (Oct.lower s))))] ∧ w.grownBy w' (some B1) := by
  have hc := fun W => clow_at s W hs
  have hl := low_len s
  obtain ⟨y, hy⟩ : ∃ y, Oct.lower s = y := ⟨_, rfl⟩
  rw [hy] at hc hl ⊢
  have hyl : y.length ≤ maxLen := by rw [hl]; unfold maxLen; omega
  have hk := fun W (h : KwAt W B3) => h.run y hyl
  obtain ⟨v, hv⟩ : ∃ v, Sb.kv (Sb.at y) = v := ⟨_, rfl⟩
  rw [hv] at hk
  rw [hv]
  have HC := Lib.hid hc; have HK := Lib.hid hk
  have hR1 : RdyF w B1 B2 B3 f w := ⟨h1, h2, h3, g_refl _ _⟩
  clear hc hl hy hyl hk hv hs h1 h2 h3
  obtain ⟨x1, x2, x3⟩ := hR1.cs
  go_enter Try.func28, Try.ntmps28
  go_wp2_with fail
  go_region_with (first
    | (go_at_call 29; refine (HC.out _).mono ?_; rintro e w4 ⟨rfl, hb4⟩; have hR2 := hR1.drew.below hb4; obtain ⟨y1, y2, y3⟩ := hR2.cs; have y4 := HK.out _ hR2.m)
    | (go_at_call 29; refine (HC.out _).mono ?_; rintro e w4 ⟨rfl, hb4⟩; have hR2 := hR1.below hb4; obtain ⟨y1, y2, y3⟩ := hR2.cs; have y4 := HK.out _ hR2.m))
  all_goals (
    go_end0
    exact ⟨rfl, hR2.c1.set _, g_set hR2.g _ (.inr rfl)⟩)

set_option maxHeartbeats 4000000 in
theorem sbFlags_any (A : Option Addr) (c : Nat) (ws : List (List UInt8)) (w : World) (hl : ws.length ≤ 10000) (hle : ∀ t ∈ ws, t.length ≤ 10000) (hA : SeenT w A ws) :
    Calls Try.prog 14 #[.slice A ws.length c] w fun e w' => e = .returned (.int .i64 (Sb.flags ws)) ∧ Below w.heap.size w w' := by
  have HLE := Lib.hid hle; have HA := Lib.hid hA
  clear hle hA
  go_enter Try.func14, Try.ntmps14
  go_wp2_with fail
  refine (sbKeys_any w).mono ?_
  rintro e w1 ⟨rfl, hb1, hk1⟩
  have HB1 := Lib.hid hb1; have HK1 := Lib.hid hk1
  clear hb1 hk1
  go_wp2_with fail
  have HB0 : Hid (Below w.heap.size w ((w1.alloc (.cells #[.int .i64 63] 3)).alloc (.cells #[.map (some w.heap.size)] 38))) := Lib.hid ((HB1.out.alloc HB1.out.size _).alloc (by simp; exact Nat.le_succ_of_le HB1.out.size) _)
  have HR0 : Hid (RdyF ((w1.alloc (.cells #[.int .i64 63] 3)).alloc (.cells #[.map (some w.heap.size)] 38)) w1.heap.size (w1.heap.size + 1) w.heap.size 63 ((w1.alloc (.cells #[.int .i64 63] 3)).alloc (.cells #[.map (some w.heap.size)] 38))) :=
    Lib.hid ⟨(CBox.new w1 _ _).alloc _, by have h := CBox.new (w1.alloc (.cells #[.int .i64 63] 3)) 38 #[.map (some w.heap.size)]; simpa using h,
      (HK1.out.kept (World.grownBy_alloc _ _ none) (by simp)).kept (World.grownBy_alloc _ _ none) (by simp), g_refl _ _⟩
  have HSZ := Lib.hid HB1.out.size
  have HLT := Lib.hid HK1.out.lt
  clear HB1 HK1
  generalize (w1.alloc (.cells #[.int .i64 63] 3)).alloc (.cells #[.map (some w.heap.size)] 38) = W0 at HB0 HR0 ⊢
  obtain ⟨B3, hB3⟩ : ∃ B, w.heap.size = B := ⟨_, rfl⟩
  obtain ⟨B1, hB1⟩ : ∃ B, w1.heap.size = B := ⟨_, rfl⟩
  obtain ⟨B2, hB2⟩ : ∃ B, B1 + 1 = B := ⟨_, rfl⟩
  simp only [hB3, hB1, hB2] at HR0 HSZ HLT ⊢
  go_loopw [12] (fun iv wr => ∃ k : Nat, k ≤ ws.length ∧ iv = .int .i64 k ∧ Hid (RdyF W0 B1 B2 B3 (Sb.flags (ws.take k)) wr)) (fun iv _ => ws.length - (intOf iv).toNat)
  case atStart => exact ⟨0, by omega, rfl, HR0⟩
  case round =>
    obtain ⟨k, hk, rfl, hrd⟩ := hrel
    by_cases hlt : k < ws.length
    · have hbel : Below w.heap.size w wr := HB0.out.grown hrd.out.g HB0.out.size (fun j hj => by cases hj; rw [hB3]; exact HSZ.out)
      obtain ⟨g, q, eA, hg, hc0⟩ := (HA.out.below hbel) (by omega)
      have hc1 := hc0 k hlt
      have hlen := HLE.out _ (List.getElem_mem hlt)
      have hto := flags_to hlt
      obtain ⟨t, ht⟩ : ∃ t, ws[k] = t := ⟨_, rfl⟩
      rw [ht] at hc1 hlen hto
      have zc : wr.cell? ⟨g, q + k, none⟩ = some (.string (bA t)) := hc1
      obtain ⟨F, hF⟩ : ∃ F, Sb.flags (ws.take k) = F := ⟨_, rfl⟩
      rw [hF] at hto hrd
      have hcall := leave_any B1 B2 B3 F t wr hrd.out.c1 hrd.out.c2 hrd.out.m (by omega)
      rw [← hto] at hcall
      have HC := Lib.hid hcall
      clear hc0 hc1 hlen hto ht hF hcall hbel
      subst eA
      go_wp2_with fail
      refine HC.out.mono ?_
      rintro e w4 ⟨rfl, x1, x2⟩
      have HR4 : Hid (RdyF W0 B1 B2 B3 (Sb.flags (ws.take (k + 1))) w4) := Lib.hid ⟨x1, hrd.out.c2.kept x2 (by rw [← hB2]; simp), hrd.out.m.kept x2 (by intro h; cases h; have := HLT.out; omega), g_trans hrd.out.g x2⟩
      clear x1 x2 HC
      go_wp2_with fail
      exact ⟨⟨k + 1, by omega, by go_num, HR4⟩, by simp [intOf]; omega⟩
    · obtain rfl : k = ws.length := by omega
      rw [List.take_of_length_le (Nat.le_refl _)] at hrd
      have x1 : wr.cell? ⟨B1, 0, none⟩ = some (.int .i64 (Sb.flags ws)) := hrd.out.c1.c 0
      go_wp2_with fail
      go_ret
      exact ⟨rfl, hB3 ▸ HB0.out.grown hrd.out.g HB0.out.size (fun j hj => by cases hj; rw [hB3]; exact HSZ.out)⟩
end Go.Proofs.Ytnnjfiknfmjliaa
