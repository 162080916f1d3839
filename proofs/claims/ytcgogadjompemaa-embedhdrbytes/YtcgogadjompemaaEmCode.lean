/- The contracts of embedhdr.Corp, of the words of frame options (a map), and of embedhdr.Xfo (a loop over that map). -/
import Derived.Test.YtcgogadjompemaaEmLeaf
import Derived.Test.YtcgogadjompemaaHdPall
namespace Go.Proofs.Ytcgogadjompemaa
open Go.RowKit
open Go.Maps Go.WideMaps

set_option maxHeartbeats 1000000 in
theorem corp_any (A : Option Addr) (c n : Nat) (l : List Hd.Hdr) (w : World) (hn : l.length = n) (hl : SmallH l) (hA : SeenH w A l) :
    Calls Try.prog 11 #[.slice A n c] w fun e w' => e = .returned (.int .i64 (Em.corpL l)) ∧ Below w.heap.size w w' := by
  have h1 := combined_any A c n l Em.nC w hn hl (by decide) hA
  have hcl := comb_le hl Em.nC
  have hL : Em.corpL l = Em.corpW (Hd.comb l Em.nC) := rfl
  rw [hL]
  obtain ⟨s, hs⟩ : ∃ s, Hd.comb l Em.nC = s := ⟨_, rfl⟩
  obtain ⟨b, hb⟩ : ∃ b, Hd.hasB l Em.nC = b := ⟨_, rfl⟩
  rw [hs, hb] at h1
  rw [hs] at hcl ⊢
  have hsm : s.length ≤ maxLen := by unfold maxLen; omega
  have H1 := Lib.hid h1; have HSM := Lib.hid hsm
  obtain ⟨x, hx⟩ : ∃ x, Em.corpW s = x := ⟨_, rfl⟩
  rw [hx]
  have HX := Lib.hid hx
  clear h1 hs hb hl hA hL hcl hsm hx
  go_enter Try.func11, Try.ntmps11
  go_wp2_with fail
  refine H1.out.mono ?_
  rintro e w1 ⟨rfl, hb1⟩
  go_wp2_with fail
  refine (resourceValues_any w1).mono ?_
  rintro e w2 ⟨v, rfl, hb2, hlk⟩
  have hr := hlk.run s HSM.out
  rw [HX.out] at hr
  have HB := Lib.hid (Below.onto hb1 hb2)
  clear hlk hb1 hb2
  go_wp2_with fail
  go_ret
  exact ⟨rfl, HB.out⟩

theorem parts_small {s : List UInt8} {k : Nat} (h : s.length ≤ k) : ∀ q ∈ Hd.parts s, q.length ≤ k := Hd.partsF_each s false false [] k (by simpa using h)
theorem partsL_small {l : List Hd.Hdr} (hl : SmallH l) (nm : List UInt8) : ∀ q ∈ Hd.partsL l nm, q.length ≤ 5000 := fun q hq => by
  unfold Hd.partsL at hq
  obtain ⟨v, hv, hq⟩ := List.mem_flatMap.1 hq
  exact parts_small (Hd.vals_each (fun x hx => (hl.each x hx).2) v hv) q hq
theorem partsL_len {l : List Hd.Hdr} (hl : SmallH l) (nm : List UInt8) : (Hd.partsL l nm).length ≤ 5001000 := by
  have h : ∀ (vs : List (List UInt8)), (∀ v ∈ vs, v.length ≤ 5000) → (vs.flatMap Hd.parts).length ≤ vs.length * 5001 := by
    intro vs
    induction vs with
    | nil => simp
    | cons v vs ih =>
      intro hv
      have h1 := ih fun x hx => hv x (by simp [hx])
      have h2 := parts_short v
      have h3 := hv v (by simp)
      rw [List.flatMap_cons, List.length_append, List.length_cons]; omega
  have h1 := h (Hd.vals l nm) (Hd.vals_each (fun x hx => (hl.each x hx).2))
  have h2 := Hd.vals_len l nm
  have h3 := hl.len
  unfold Hd.partsL; omega
theorem low_bA (s : List UInt8) (w : World) (hs : s.length ≤ 5000) : Calls Try.prog 16 #[.string (bA s)] w fun e w' => e = .returned (.string (bA (Oct.lower s))) ∧ Below w.heap.size w w' :=
  lower_any (bA s) w (by rw [bA_size]; unfold maxLen; omega)
theorem lower_len (s : List UInt8) : (Oct.lower s).length = s.length := by unfold Oct.lower; simp

/-- A map that is a set of words. -/
abbrev OwnsW (w : World) (B n : Nat) (D : DataW Unit) : Prop := w.ownsMap Try.prog 9 (unitElem (H := Unit)) B n D
theorem OwnsW.below {w w' : World} {B n : Nat} {D : DataW Unit} (h : OwnsW w B n D) (hb : Below w.heap.size w w') : OwnsW w' B n D :=
  World.ownsMap.kept (row := none) h ⟨hb.os, hb.tape, hb.output, hb.size, fun k hk _ => hb.block k hk⟩ (by simp)
set_option maxHeartbeats 4000000 in
set_option maxRecDepth 20000 in
theorem frameWords_any (A : Option Addr) (c n : Nat) (l : List Hd.Hdr) (w : World) (hn : l.length = n) (hl : SmallH l) (hA : SeenH w A l) :
    Calls Try.prog 23 #[.slice A n c] w fun e w' => e = .returned (.map (some w.heap.size)) ∧ Below w.heap.size w w' ∧ OwnsW w' w.heap.size (Em.xw l).length (setW (Em.xw l)) ∧ (Em.xw l).length ≤ 5001000 := by
  have hmm := @run_makeMap Try.prog
  have hb0 : Below w.heap.size w (w.alloc (.map #[] 0)) := (Below.refl _ w).alloc (Nat.le_refl _) _
  have ho0 := World.ownsMap_made (H := Unit) w Try.prog 9 unitElem
  have hcall := parts_any A c n l Em.nX (w.alloc (.map #[] 0)) hn hl (by decide) (hA.below hb0)
  have hsm := partsL_small hl Em.nX
  have hln := partsL_len hl Em.nX
  have hxw : Em.xw l = (Hd.partsL l Em.nX).map Oct.lower := rfl
  obtain ⟨ps, hps⟩ : ∃ ps, Hd.partsL l Em.nX = ps := ⟨_, rfl⟩
  rw [hps] at hcall hsm hln hxw
  obtain ⟨ws, hws⟩ : ∃ ws, Em.xw l = ws := ⟨_, rfl⟩
  rw [hws] at hxw ⊢
  have hwl : ws.length = ps.length := by rw [hxw, List.length_map]
  have hxi : ∀ (k : Nat) (h : k < ps.length) (h2 : k < ws.length), ws[k] = Oct.lower ps[k] := fun k h h2 => by subst hxw; simp
  have HB0 := Lib.hid hb0; have HO0 := Lib.hid ho0; have HC := Lib.hid hcall; have HSM := Lib.hid hsm; have HXI := Lib.hid hxi
  have hsz0 : (w.alloc (.map #[] 0)).heap.size = w.heap.size + 1 := by simp
  have HSZ := Lib.hid hsz0
  clear hb0 ho0 hcall hsm hxw hxi hws hps hl hA hsz0
  go_enter Try.func23, Try.ntmps23
  go_wp2_with fail
  refine HC.out.mono ?_
  rintro e w1 ⟨v, rfl, hb1, hr1⟩
  have hv : ∃ A2 c2, v = .slice A2 ps.length c2 := by
    rcases owns_view hr1 with ⟨rfl, h0⟩ | ⟨g, cap, rfl, _⟩
    · exact ⟨none, 0, by rw [h0]; rfl⟩
    · exact ⟨_, _, rfl⟩
  obtain ⟨A2, c2, rfl⟩ := hv
  have HR1 := Lib.hid hr1
  have HB1 : Hid (Below w.heap.size w w1) := Lib.hid (HB0.out.trans (hb1.mono HB0.out.size))
  have HO1 : Hid (OwnsW w1 w.heap.size 0 (setW (ws.take 0))) := Lib.hid (OwnsW.below HO0.out hb1)
  clear hb1 hr1 HC
  go_wp2
  go_loopw [10] (fun i wr => ∃ k : Nat, k ≤ ps.length ∧ i = .int .i64 k ∧ Hid (OwnsW wr w.heap.size k (setW (ws.take k))) ∧ Hid (Below w.heap.size w wr) ∧ Hid (wr.ownsRow (w.heap.size + 1) 9 1 (.slice A2 ps.length c2) ps.length (ps.map Oct.strV)))
    (fun i _ => ps.length - (intOf i).toNat)
  case atStart => exact ⟨0, by omega, rfl, HO1, HB1, Lib.hid (by have := HR1.out; rw [HSZ.out] at this; exact this)⟩
  case round =>
    obtain ⟨k, hk, rfl, hown, hbel, hrow⟩ := hrel
    by_cases hlt : k < ps.length
    · rcases owns_view hrow.out with ⟨e1, h0⟩ | ⟨g, cap, e1, _, hg, hgb, hc⟩
      · exfalso; rw [h0] at hlt; simp at hlt
      · cases e1
        have h2 : k < ws.length := by omega
        have hx := HXI.out k hlt h2
        have hss := setW_succ h2
        rw [hx] at hss
        obtain ⟨x, hx2⟩ : ∃ x, ps[k] = x := ⟨_, rfl⟩
        have hxl : x.length ≤ 5000 := by rw [← hx2]; exact HSM.out _ (List.getElem_mem hlt)
        have hce : wr.cell? ⟨g, k, none⟩ = some (.string (bA x)) := by rw [← hx2]; exact hc k hlt
        rw [hx2] at hss
        have hcall := low_bA x wr hxl
        have hll := lower_len x
        obtain ⟨y, hy⟩ : ∃ y, Oct.lower x = y := ⟨_, rfl⟩
        rw [hy] at hcall hss hll
        have hkey : keyOf Try.prog 9 (.string (bA y)) = some (.string y) := keyOf_string_mk Try.underlying9 (by rw [bA_size]; unfold maxLen; omega)
        have HSS := Lib.hid hss
        clear hx hx2 hc hy hss hll
        go_wp2_with fail
        refine hcall.mono ?_
        rintro e w2 ⟨rfl, hb2⟩
        have HO2 := Lib.hid (OwnsW.below hown.out hb2)
        have HR2 := Lib.hid (owns_below hrow.out hb2)
        have HB2 := Lib.hid (hbel.out.trans (hb2.mono hbel.out.size))
        have ho2 : OwnsW w2 w.heap.size k (setW (ws.take k)) := HO2.out
        clear hcall hb2
        go_wp2_with (first
          | (at_mapUpdate; refine wpList_mapUpdate_own _ rfl _ _ _ 40 rfl 9 51 emLaw Try.underlying40 (unitElem (H := Unit)) w.heap.size k _ rfl ho2 (by unfold maxLen; omega) _ _ _ rfl rfl hkey _ [] unitElem_mk ?_; intro w3 hown3 hgrow3)
          | fail)
        have HB3 := Lib.hid (HB2.out.grown hgrow3 HB2.out.size (fun j hj => by cases hj; exact Nat.le_refl _))
        have HR3 := Lib.hid (World.ownsRow.kept HR2.out hgrow3 (.inr fun e => by
          have e2 := (HR2.out.lt _ e).1
          omega))
        exact ⟨⟨k + 1, by omega, by go_num, Lib.hid (by rw [HSS.out]; exact hown3), HB3, HR3⟩, by simp [intOf]; omega⟩
    · obtain rfl : k = ps.length := by omega
      have ho := hown.out
      rw [← hwl, List.take_of_length_le (Nat.le_refl _), hwl] at ho
      have HO := Lib.hid ho
      clear hown ho
      go_wp2_with fail
      go_ret
      exact ⟨rfl, hbel.out, by rw [hwl]; exact HO.out, by omega⟩
end Go.Proofs.Ytcgogadjompemaa
