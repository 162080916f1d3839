/- The contract of host.Site. -/
import Derived.Test.YtehjnidggnfbfaaDoorHostEnds
namespace Go.Proofs.YtehjnidggnfbfaaDoor
open Go.RowKit

def bestN (ls : List (List UInt8)) (sx : List (List UInt8)) : Nat := (sx.map Hst.parts).foldl (stepN ls) 1
def siteN (n : List UInt8) (sx : List (List UInt8)) : List UInt8 := Oct.join 46 ((Hst.parts n).drop ((Hst.parts n).length - bestN (Hst.parts n) sx - 1))
def siteL (h : Hst.Host) (sx : List (List UInt8)) : List UInt8 := if h.v4 then textL h else siteN h.name sx

/-- A slice of texts that lies somewhere, nil let in. -/
def Seen (w : World) (A : Option Addr) (sx : List (List UInt8)) : Prop := 0 < sx.length → ∃ a, A = some a ∧ a.block < w.heap.size ∧ ∀ i (h : i < sx.length), w.cell? (a.add i) = some (Oct.strV sx[i])
theorem add_block (a : Addr) (n : Nat) : (a.add n).block = a.block := by unfold Addr.add; split <;> rfl
theorem Seen.below {w w' : World} {A : Option Addr} {sx : List (List UInt8)} (h : Seen w A sx) (hb : Below w.heap.size w w') : Seen w' A sx := fun hn => by
  obtain ⟨a, rfl, hlt, hc⟩ := h hn
  exact ⟨a, rfl, Nat.lt_of_lt_of_le hlt hb.size, fun i hi => by rw [hb.cell (by rw [add_block]; exact hlt)]; exact hc i hi⟩

theorem step_le {ls : List (List UInt8)} {b : Nat} {ks : List (List UInt8)} {m : Nat} (hb : b ≤ m) (hk : ks.length ≤ m) : stepN ls b ks ≤ m := by unfold stepN; split <;> omega
theorem step_ge (ls : List (List UInt8)) (b : Nat) (ks : List (List UInt8)) : b ≤ stepN ls b ks := by
  unfold stepN; split
  · rename_i h; simp at h; omega
  · omega
theorem best_snoc (ls : List (List UInt8)) (sx : List (List UInt8)) (s : List UInt8) : bestN ls (sx ++ [s]) = stepN ls (bestN ls sx) (Hst.parts s) := by simp [bestN]
theorem best_take (ls : List (List UInt8)) (sx : List (List UInt8)) (k : Nat) (hk : k < sx.length) : bestN ls (sx.take (k + 1)) = stepN ls (bestN ls (sx.take k)) (Hst.parts sx[k]) := by
  rw [List.take_succ_eq_append_getElem hk, best_snoc]
theorem best_ge (ls sx : List (List UInt8)) : 1 ≤ bestN ls sx := by
  unfold bestN
  have : ∀ (l : List (List (List UInt8))) b, b ≤ l.foldl (stepN ls) b := by
    intro l
    induction l with
    | nil => intro b; exact Nat.le_refl _
    | cons x r ih => intro b; rw [List.foldl_cons]; exact Nat.le_trans (step_ge ls b x) (ih _)
  exact this _ 1
theorem best_le (ls sx : List (List UInt8)) (h : ∀ s ∈ sx, s.length ≤ 1000) : bestN ls sx ≤ 1001 := by
  unfold bestN
  have : ∀ (l : List (List (List UInt8))) b, b ≤ 1001 → (∀ x ∈ l, x.length ≤ 1001) → l.foldl (stepN ls) b ≤ 1001 := by
    intro l
    induction l with
    | nil => intro b hb _; exact hb
    | cons x r ih => intro b hb hx; rw [List.foldl_cons]; exact ih _ (step_le hb (hx x (by simp))) (fun y hy => hx y (by simp [hy]))
  refine this _ 1 (by omega) ?_
  intro x hx
  obtain ⟨s, hs, rfl⟩ := List.mem_map.1 hx
  have := Hst.parts_len s
  have := h s hs
  omega
theorem join_tail (p : List UInt8) (r : List (List UInt8)) : (Oct.join 46 r).length ≤ (Oct.join 46 (p :: r)).length := by
  cases r with
  | nil => simp [Oct.join]
  | cons q r => simp [Oct.join]; omega
theorem join_drop : ∀ (k : Nat) (ls : List (List UInt8)), (Oct.join 46 (ls.drop k)).length ≤ (Oct.join 46 ls).length
  | 0, ls => by simp
  | k + 1, [] => by simp
  | k + 1, p :: r => by
    rw [List.drop_succ_cons]
    exact Nat.le_trans (join_drop k r) (join_tail p r)

/-- What a round keeps. -/
structure SiInv (w wr : World) (Bl Bo g cap : Nat) (ls sx : List (List UInt8)) (k : Nat) : Prop where
  bel : Below w.heap.size w wr
  cells : ∀ i (h : i < ls.length), wr.cell? ⟨g, i, none⟩ = some (Oct.strV ls[i])
  lg : Boxed wr Bl 3 (.int .i64 (bestN ls (sx.take k)))
  ow : Boxed wr Bo 27 (.slice (some ⟨g, 0, none⟩) ls.length cap)
theorem boxed_below {W W' : World} {B C : Nat} {t : TypeId} {v : Value} (h : Boxed W B t v) (hb : Below C W W') (hC : B < C) : Boxed W' B t v := (hb.block B hC).trans h

theorem size_list (p : List UInt8) : (⟨p.toArray⟩ : ByteArray).size = p.length := by simp [ByteArray.size]

set_option maxHeartbeats 1000000 in
theorem site_any (n : ByteArray) (b : Bool) (a : Int) (A : Option Addr) (c : Nat) (sx : List (List UInt8)) (w : World) (hT : Tab w) (a0 : 0 ≤ a) (a1 : a ≤ 4294967295) (hn : n.size ≤ 1000) (hsl : sx.length ≤ 1000) (hsz : ∀ s ∈ sx, s.length ≤ 1000) (hA : Seen w A sx) :
    Calls Tryd.prog 29 #[.agg #[.string n, .bool b, .int .u32 a], .slice A sx.length c] w fun e w' => e = .returned (.string ⟨(siteL ⟨n.data.toList, b, a⟩ sx).toArray⟩) ∧ Below w.heap.size w w' := by
  cases b with
  | true =>
    have hcall := fun W hTW => text_any n true a W hTW a0 a1
    have HC := Lib.hid hcall
    clear hcall
    go_enter Tryd.func29, Tryd.ntmps29
    go_wp2_with fail
    refine (HC.out _ (hT.below ((Below.refl _ _).alloc (Nat.le_refl _) _))).mono ?_
    rintro e w1 ⟨rfl, hb1⟩
    go_wp2_with fail
    go_ret
    exact ⟨rfl, ((Below.refl _ w).alloc (Nat.le_refl _) _).trans (hb1.mono (by simp))⟩
  | false =>
    obtain ⟨ls, hls⟩ : ∃ ls, Hst.parts n.data.toList = ls := ⟨_, rfl⟩
    have hlpos := Hst.parts_pos n.data.toList
    have hllen := Hst.parts_len n.data.toList
    have hsize : n.data.toList.length = n.size := by simp
    have hjl := Hst.join_parts n.data.toList
    rw [hsize] at hllen
    rw [hls] at hlpos hllen hjl
    have HLS := Lib.hid hls
    have HSZ := Lib.hid hsz
    have HJL := Lib.hid hjl
    have HNS := Lib.hid hsize
    clear hls hsz hjl hsize
    go_enter Tryd.func29, Tryd.ntmps29
    go_wp2_with fail
    refine (split_any n 46 _ (by omega)).mono ?_
    rintro e w2 ⟨v, rfl, hb2, ho⟩
    replace ho := (show w2.ownsRow _ 9 1 v ls.length (ls.map Oct.strV) by rw [← HLS.out]; exact ho)
    rcases owns_view2 ho with ⟨rfl, h0'⟩ | ⟨g, cap, rfl, hcap, hg, hgb, hcells⟩
    · exfalso; subst h0'; simp at hlpos
    have hbw : Below w.heap.size w w2 := ((Below.refl _ w).alloc (Nat.le_refl _) _).trans (hb2.mono (by simp))
    have hinv : SiInv w ((w2.alloc (.cells #[.slice (some ⟨g, 0, none⟩) ls.length cap] 27)).alloc (.cells #[.int .i64 1] 3)) (w2.heap.size + 1) w2.heap.size g cap ls sx 0 := by
      have hbb := (hbw.alloc hbw.size (.cells #[.slice (some ⟨g, 0, none⟩) ls.length cap] 27)).alloc (by have := hbw.size; simp; omega) (.cells #[.int .i64 1] 3)
      refine ⟨hbb, fun i h => ?_, ?_, (Boxed.new w2 _ _).alloc _⟩
      · rw [World.cell?_alloc_lt _ _ _ (by simp; omega), World.cell?_alloc_lt _ _ _ hg]; exact hcells i h
      · have := Boxed.new (w2.alloc (.cells #[.slice (some ⟨g, 0, none⟩) ls.length cap] 27)) 3 (.int .i64 1)
        simpa [bestN] using this
    have hsz2 := hbw.size
    have HINV := Lib.hid hinv
    have HA := Lib.hid hA
    clear ho hcells hinv hA hgb
    go_wp2_with fail
    go_loopw [21] (fun i wr => ∃ k : Nat, k ≤ sx.length ∧ i = .int .i64 k ∧ SiInv w wr (w2.heap.size + 1) w2.heap.size g cap ls sx k) (fun i _ => sx.length - (intOf i).toNat)
    case atStart => exact ⟨0, Nat.zero_le _, rfl, HINV.out⟩
    case round =>
      obtain ⟨k, hk, rfl, hin⟩ := hrel
      by_cases hlt : k < sx.length
      · obtain ⟨ad, rfl, _, hac⟩ := (HA.out.below hin.bel) (by omega)
        have hce := hac k hlt
        have hss := HSZ.out _ (List.getElem_mem hlt)
        obtain ⟨p, hp⟩ : ∃ p, sx[k] = p := ⟨_, rfl⟩
        rw [hp] at hce hss
        have HP := Lib.hid hp
        clear hp hac
        unfold Oct.strV at hce
        have hkp := Hst.parts_pos p
        have hkl := Hst.parts_len p
        have hbl := best_le ls (sx.take k) (fun x hx => HSZ.out x (List.mem_of_mem_take hx))
        go_wp2_with fail
        refine (split_any ⟨p.toArray⟩ 46 wr (by rw [size_list]; omega)).mono ?_
        rintro e w3 ⟨v3, rfl, hb3, ho3⟩
        replace ho3 := (show w3.ownsRow wr.heap.size 9 1 v3 (Hst.parts p).length ((Hst.parts p).map Oct.strV) from ho3)
        rcases owns_view2 ho3 with ⟨rfl, h0'⟩ | ⟨g3, cap3, rfl, hcap3, hg3, hgb3, hcells3⟩
        · exfalso; rw [h0'] at hkp; simp at hkp
        have hlw := hin.lg.lt
        have d1 : ∀ i (h : i < ls.length), w3.cell? ⟨g, i, none⟩ = some (Oct.strV ls[i]) := fun i h => by rw [hb3.cell (by show g < _; omega)]; exact hin.cells i h
        have hcall := hold_any (w2.heap.size + 1) w2.heap.size g cap g3 cap3 (bestN ls (sx.take k)) ls (Hst.parts p) w3 (by omega) (by omega) hcap hkp d1 hcells3 (boxed_below hin.lg hb3 hin.lg.lt) (boxed_below hin.ow hb3 hin.ow.lt)
        have HC := Lib.hid hcall
        have D1 := Lib.hid d1
        clear hcall ho3 hcells3 hce d1
        go_wp2_with fail
        refine HC.out.mono ?_
        rintro e w4 ⟨rfl, hbx, hgr⟩
        have hD : SiInv w w4 (w2.heap.size + 1) w2.heap.size g cap ls sx (k + 1) := by
          refine ⟨(hin.bel.trans (hb3.mono hin.bel.size)).grown hgr (Nat.le_trans hin.bel.size hb3.size) (fun j hj => by cases hj; omega), fun i h => hgr.cell (D1.out i h) (by simp; omega), ?_, (boxed_below hin.ow hb3 hin.ow.lt).kept hgr (by simp)⟩
          rw [best_take ls sx k hlt, HP.out]; exact hbx
        clear HC D1 hbx hgr
        go_wp2_with fail
        go_roundw
        case rel => exact ⟨k + 1, by omega, by go_num, hD⟩
        case measure => simp [intOf]; omega
      · obtain ⟨hbel, hcl, hlg, how⟩ := hin
        rw [List.take_of_length_le (by omega)] at hlg
        have x1 := hlg.cell; have x2 := how.cell
        have hb1 := best_ge ls sx
        have hb2 := best_le ls sx HSZ.out
        obtain ⟨B, hB⟩ : ∃ B, bestN ls sx = B := ⟨_, rfl⟩
        rw [hB] at x1 hb1 hb2
        have HB := Lib.hid hB
        clear hB hlg
        go_wp2_with fail
        have hf : (max 0 ((ls.length : Int) - (B : Int) - 1)).toNat = ls.length - B - 1 := by omega
        have hcall := join_any g (ls.length - B - 1) (cap - (ls.length - B - 1)) (ls.drop (ls.length - B - 1)) wr (fun i h => by
          rw [hcl (ls.length - B - 1 + i) (by simp at h; omega), List.getElem_drop]) (by have := how.lt; omega) (by simp; omega) (by
          have h1 := join_drop (ls.length - B - 1) ls
          rw [HJL.out, HNS.out] at h1
          omega)
        rw [List.length_drop] at hcall
        rw [hf]
        refine hcall.mono ?_
        rintro e w5 ⟨rfl, hb5⟩
        clear hcall hf
        go_wp2_with fail
        go_ret
        refine ⟨?_, hbel.trans (hb5.mono hbel.size)⟩
        show _ = Ending.returned (.string ⟨(siteN n.data.toList sx).toArray⟩)
        unfold siteN
        rw [HLS.out, HB.out]
        rfl
end Go.Proofs.YtehjnidggnfbfaaDoor
