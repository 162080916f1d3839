/- The walk of the statement EmbedhdrTurns. -/
import Derived.Test.YtcgogadjompemaaEmAwake
import Derived.Test.YtcgogadjompemaaEmText
import Derived.Test.YtcgogadjompemaaHdCat
namespace Go.Proofs.Ytcgogadjompemaa
open Go.RowKit

def tuL (vs : List (List UInt8)) (k : Nat) : List Hd.Hdr := (vs.take k).map Em.line
def tuT (vs : List (List UInt8)) (k : Nat) : List Hd.Hdr := ((vs.take k).map fun v => Em.line (Oct.lower v)).reverse
theorem tuL_succ {vs : List (List UInt8)} {k : Nat} (h : k < vs.length) : tuL vs (k + 1) = tuL vs k ++ [⟨Em.nXG, vs[k]⟩] := by
  unfold tuL
  rw [List.take_succ_eq_append_getElem h, List.map_append]; rfl
theorem tuT_succ {vs : List (List UInt8)} {k : Nat} (h : k < vs.length) : tuT vs (k + 1) = [⟨Em.nXG, Oct.lower vs[k]⟩] ++ tuT vs k := by
  unfold tuT
  rw [List.take_succ_eq_append_getElem h, List.map_append, List.reverse_append]; rfl
theorem tuL_len {vs : List (List UInt8)} {k : Nat} (h : k ≤ vs.length) : (tuL vs k).length = k := by unfold tuL; simp; omega
theorem tuT_len {vs : List (List UInt8)} {k : Nat} (h : k ≤ vs.length) : (tuT vs k).length = k := by unfold tuT; simp; omega
theorem short_succ {vs : List (List UInt8)} {k : Nat} (h : k < vs.length) (h1 : ∀ v ∈ vs.take k, v.length ≤ 1000) (h2 : vs[k].length ≤ 1000) : ∀ v ∈ vs.take (k + 1), v.length ≤ 1000 := fun v hv => by
  rw [List.take_succ_eq_append_getElem h] at hv
  rcases List.mem_append.1 hv with hv | hv
  · exact h1 v hv
  · rw [List.mem_singleton.1 hv]; exact h2
theorem tuL_small {vs : List (List UInt8)} (hn : vs.length ≤ 90) (h : ∀ v ∈ vs, v.length ≤ 1000) : SmallH (tuL vs vs.length) := by
  refine ⟨by rw [tuL_len (Nat.le_refl _)]; omega, fun x hx => ?_⟩
  unfold tuL at hx
  rw [List.take_of_length_le (Nat.le_refl _)] at hx
  obtain ⟨v, hv, rfl⟩ := List.mem_map.1 hx
  have := h v hv
  exact ⟨by show Em.nXG.length ≤ 10000; decide, by show v.length ≤ 5000; omega⟩
theorem tuT_small {vs more : List (List UInt8)} (hn : vs.length ≤ 90) (hm : more.length ≤ 1) (h : ∀ v ∈ vs, v.length ≤ 1000) (h2 : ∀ v ∈ more, v ∈ vs) : SmallH (tuT vs vs.length ++ more.map Em.line) := by
  refine ⟨by rw [List.length_append, tuT_len (Nat.le_refl _), List.length_map]; omega, fun x hx => ?_⟩
  unfold tuT at hx
  rw [List.take_of_length_le (Nat.le_refl _), List.mem_append, List.mem_reverse] at hx
  rcases hx with hx | hx
  · obtain ⟨v, hv, rfl⟩ := List.mem_map.1 hx
    have := h v hv
    have h3 := lower_len v
    exact ⟨by show Em.nXG.length ≤ 10000; decide, by show (Oct.lower v).length ≤ 5000; omega⟩
  · obtain ⟨v, hv, rfl⟩ := List.mem_map.1 hx
    have := h v (h2 v hv)
    exact ⟨by show Em.nXG.length ≤ 10000; decide, by show v.length ≤ 5000; omega⟩
theorem tu_same {vs more : List (List UInt8)} (h2 : ∀ v ∈ more, v ∈ vs) : Em.xfoL (tuT vs vs.length ++ more.map Em.line) = Em.xfoL (tuL vs vs.length) := by
  unfold tuT tuL
  rw [List.take_of_length_le (Nat.le_refl _)]
  exact Em.xfo_turns vs more h2
theorem own_apart {w : World} {bt : Nat} {tv lv : Value} {T : List Hd.Hdr} (h : OwnH w bt tv T) (hg : ∀ g, lv.ownBlock = some g → g < bt) : tv.ownBlock = none ∨ tv.ownBlock ≠ lv.ownBlock := by
  cases ho : tv.ownBlock with
  | none => exact .inl rfl
  | some g2 =>
    right
    intro e
    have h1 := (h.lt g2 ho).1
    have h2 := hg g2 e.symm
    omega
theorem own_apart2 {w : World} {bt : Nat} {tv lv : Value} {T : List Hd.Hdr} (h : OwnH w bt tv T) (hg : ∀ g, lv.ownBlock = some g → g < bt) : lv.ownBlock = none ∨ lv.ownBlock ≠ tv.ownBlock := by
  cases ho : lv.ownBlock with
  | none => exact .inl rfl
  | some g2 =>
    right
    intro e
    have h1 := (h.lt g2 e.symm).1
    have h2 := hg g2 ho
    omega
theorem own_seen {w : World} {base n c : Nat} {A : Option Addr} {l : List Hd.Hdr} (h : OwnH w base (.slice A n c) l) : SeenH w A l := by
  obtain ⟨A', c', e', h', _⟩ := h.slice
  cases e'; exact h'
set_option maxHeartbeats 1600000 in
set_option maxRecDepth 20000 in
theorem walk_EmbedhdrTurns (A : Option Addr) (c : Nat) (vs : List (List UInt8)) (w : World) (hw : WideTs w A c vs) :
    Calls Try.prog 5 #[.slice A vs.length c] w fun e w' => e = .returned (.bool true) ∧ Below w.heap.size w w' := by
  have HS := Lib.hid hw.seen
  have hvl := hw.len
  have HE := Lib.hid hw.each
  unfold maxLen at hvl
  clear hw
  by_cases hn : vs.length ≤ 90
  · have hnz : ¬ ((90 : Int) < (vs.length : Int)) := by omega
    go_enter Try.func5, Try.ntmps5
    go_wp2_with fail
    refine (awake9_any _).mono ?_
    rintro e w1 ⟨rfl, hb1⟩
    have HS1 := Lib.hid (HS.out.below hb1); have HB1 := Lib.hid hb1
    clear hb1 HS
    go_wp2
    go_loopw [4, 5, 6] (fun lv tv i wr => ∃ (k c2 bt : Nat) (A2 : Option Addr), k ≤ vs.length ∧ i = .int .i64 k ∧ tv = .slice A2 k c2 ∧ Hid (OwnH wr w1.heap.size lv (tuL vs k)) ∧ Hid (OwnH wr bt (.slice A2 k c2) (tuT vs k)) ∧ Hid (bt ≤ wr.heap.size ∧ w1.heap.size ≤ bt ∧ ∀ g, lv.ownBlock = some g → g < bt) ∧ Hid (∀ v ∈ vs.take k, v.length ≤ 1000) ∧ Hid (Below w1.heap.size w1 wr))
      (fun _ _ i _ => vs.length - (intOf i).toNat)
    case atStart => exact ⟨0, 0, w1.heap.size, none, by omega, rfl, rfl, Lib.hid (World.ownsRow_nil _ _ _ _), Lib.hid (World.ownsRow_nil _ _ _ _), Lib.hid ⟨Nat.le_refl _, Nat.le_refl _, fun g h => by simp [Value.ownBlock] at h⟩, Lib.hid (by simp), Lib.hid (Below.refl _ _)⟩
    case round =>
      obtain ⟨k, c2, bt, A2, hk, rfl, rfl, hl, ht, hbt, hsh, hbel⟩ := hrel
      by_cases hlt : k < vs.length
      · obtain ⟨g, o, rfl, hg, hc⟩ := HS1.out (by omega)
        have hce := fun W (hW : Below w1.heap.size w1 W) => (hW.cell (p := ⟨g, o + k, none⟩) hg).trans (hc k hlt)
        have hL := tuL_succ hlt
        have hT := tuT_succ hlt
        have hsn := fun h => short_succ hlt hsh.out h
        obtain ⟨x, hx⟩ : ∃ x, vs[k] = x := ⟨_, rfl⟩
        rw [hx] at hL hT hsn
        simp only [hx] at hce
        unfold Oct.strV at hce
        have e1 : wr.cell? ⟨g, o + k, none⟩ = some (.string (bA x)) := hce wr hbel.out
        have HL := Lib.hid hL; have HT := Lib.hid hT; have HN := Lib.hid hsn; have HCE := Lib.hid hce
        clear hL hT hsn hc hx hce
        by_cases hxl : x.length ≤ 1000
        · have hxz : ¬ ((1000 : Int) < (x.length : Int)) := by omega
          obtain ⟨LA, hLA⟩ : ∃ LA, tuL vs k = LA := ⟨_, rfl⟩
          obtain ⟨TA, hTA⟩ : ∃ TA, tuT vs k = TA := ⟨_, rfl⟩
          have hLn : LA.length = k := by rw [← hLA]; exact tuL_len hk
          have hTn : TA.length = k := by rw [← hTA]; exact tuT_len hk
          rw [hLA] at hl HL; rw [hTA] at ht HT
          have hk1 : k + 1 ≤ maxLen := by unfold maxLen; omega
          clear hLA hTA
          go_wp2_with fail
          refine (xfo_line _ _).mono ?_
          rintro e w2 ⟨rfl, hb2⟩
          have HB2 : Hid (Below w1.heap.size w1 w2) := Lib.hid (hbel.out.trans (hb2.mono hbel.out.size))
          have hl2 : OwnH w2 w1.heap.size _ LA := hl.out.below hb2
          have HT2 := Lib.hid (ht.out.below hb2)
          have hlt2 := hl2.lt
          have HLT := Lib.hid hlt2
          have hw2 : w1.heap.size ≤ w2.heap.size := HB2.out.size
          clear hb2 e1 hlt2
          go_wp2_with (at_builtin; refine wp_appg rfl _ _ rfl w1.heap.size _ LA [⟨Em.nXG, x⟩] rfl (hl2.alloc _) (some ⟨w2.heap.size, 0, none⟩) 1 _ (k + 1) rfl rfl (fun e => by cases e) (seen_block (World.alloc_heap_new w2 _) rfl) (by rw [hLn]) hk1 (by omega) (by simp; omega) ?_; intro A3 c3 w3 hown3 hs3 hbb3 hg3; have hbw3 := (HB2.out.alloc HB2.out.size _).trans hbb3; have e3 := HCE.out w3 hbw3)
          have HB3 := Lib.hid hbw3
          have HO3 := Lib.hid hown3
          have HT3 : Hid (OwnH w3 bt (.slice A2 k c2) TA) := Lib.hid (World.ownsRow.kept (HT2.out.alloc _) hg3 (own_apart HT2.out hbt.out.2.2))
          clear hl2 hbw3 e3 hown3 hs3 hbb3 hg3 HT2 HB2 hw2 HLT
          refine (low_bA x w3 (by omega)).mono ?_
          rintro e w4 ⟨rfl, hb4⟩
          have HB4 : Hid (Below w1.heap.size w1 w4) := Lib.hid (HB3.out.trans (hb4.mono HB3.out.size))
          have HO4 : Hid (OwnH w4 _ _ _) := Lib.hid (HO3.out.below hb4)
          have HT4 : Hid (OwnH w4 _ _ _) := Lib.hid (HT3.out.below hb4)
          clear hb4 HB3 HO3 HT3
          go_wp2_with fail
          refine (xfo_line _ _).mono ?_
          rintro e w5 ⟨rfl, hb5⟩
          have HB5 : Hid (Below w1.heap.size w1 w5) := Lib.hid (HB4.out.trans (hb5.mono HB4.out.size))
          have HO5 : Hid (OwnH w5 _ _ _) := Lib.hid (HO4.out.below hb5)
          have ht5 : OwnH w5 bt (.slice A2 k c2) TA := HT4.out.below hb5
          obtain ⟨y, hy⟩ : ∃ y, Oct.lower x = y := ⟨_, rfl⟩
          rw [hy] at HT ⊢
          have hs5 : SeenH w5 A2 TA := by
            obtain ⟨A', c', e', h', _⟩ := ht5.slice
            cases e'; exact h'
          have hnl5 : A2 = none → k = 0 ∧ c2 = 0 := fun e => by have := own_nl ht5 e; omega
          clear hb5 HB4 HO4 HT4 hy
          go_wp2_with (at_builtin; refine wp_appg rfl _ _ rfl w5.heap.size _ [⟨Em.nXG, y⟩] TA rfl (own_one (World.alloc_heap_new w5 _) (Nat.le_refl _)) A2 k c2 (k + 1) rfl hTn hnl5 (hs5.below ((Below.refl _ _).alloc (Nat.le_refl _) _)) (by simp; omega) hk1 (by omega) (by simp) ?_; intro A6 c6 w6 hown6 hs6 hbb6 hg6)
          have hB6 : Below w5.heap.size w5 w6 := ((Below.refl w5.heap.size w5).alloc (Nat.le_refl _) _).trans hbb6
          have HB6 := Lib.hid (HB5.out.trans (hB6.mono HB5.out.size))
          have HO6 : Hid (OwnH w6 w1.heap.size (.slice A3 (k + 1) c3) (LA ++ [⟨Em.nXG, x⟩])) := Lib.hid (HO5.out.below hB6)
          have HW : Hid (w5.heap.size ≤ w6.heap.size ∧ w1.heap.size ≤ w5.heap.size ∧ ∀ g, (Value.slice A3 (k + 1) c3).ownBlock = some g → g < w5.heap.size) := Lib.hid ⟨hB6.size, HB5.out.size, fun g hg => (HO5.out.lt g hg).2⟩
          have HO62 := Lib.hid hown6
          clear hown6 hs6 hbb6 hg6 hB6 HB5 HO5 ht5 hs5 hnl5
          exact ⟨⟨k + 1, c6, w5.heap.size, A6, by omega, by go_num, by first | rfl | trivial, Lib.hid (by rw [HL.out]; exact HO6.out), Lib.hid (by rw [HT.out]; exact HO62.out), HW, Lib.hid (HN.out hxl), HB6⟩, by simp [intOf]; omega⟩
        · have hxz : (1000 : Int) < (x.length : Int) := by omega
          go_wp2_with fail
          go_ret
          exact ⟨rfl, Below.onto HB1.out hbel.out⟩
      · obtain rfl : k = vs.length := by omega
        have hsh2 := hsh.out
        rw [List.take_of_length_le (Nat.le_refl _)] at hsh2
        obtain ⟨A1, c1, e1, hs1, _⟩ := hl.out.slice
        have hsm1 := tuL_small hn hsh2
        have hsm2 := fun more h1 h2 => tuT_small (more := more) hn h1 hsh2 h2
        have hsame := fun more h2 => tu_same (vs := vs) (more := more) h2
        have hLn := tuL_len (Nat.le_refl vs.length)
        have hTn := tuT_len (Nat.le_refl vs.length)
        rw [hLn] at e1
        subst e1
        obtain ⟨LA, hLA⟩ : ∃ LA, tuL vs vs.length = LA := ⟨_, rfl⟩
        obtain ⟨TA, hTA⟩ : ∃ TA, tuT vs vs.length = TA := ⟨_, rfl⟩
        simp only [hLA, hTA] at hsm1 hsm2 hsame hLn hTn hl ht hs1
        obtain ⟨z, hz⟩ : ∃ z, Em.xfoL LA = z := ⟨_, rfl⟩
        have c1 := fun W (h : SeenH W A1 LA) => xfo_any A1 c1 vs.length LA W hLn hsm1 h
        rw [hz] at c1
        simp only [hz] at hsame
        have C1 := Lib.hid c1
        clear c1 hsm1 hs1 hsh hsh2 hLA hTA hz hLn
        by_cases h0 : 0 < vs.length
        · have h0z : (0 : Int) < (vs.length : Int) := by omega
          obtain ⟨g, o, rfl, hg, hc⟩ := HS1.out h0
          have hce := fun W (hW : Below w1.heap.size w1 W) => (hW.cell (p := ⟨g, o + 0, none⟩) hg).trans (hc 0 h0)
          obtain ⟨x, hx⟩ : ∃ x, vs[0] = x := ⟨_, rfl⟩
          simp only [hx] at hce
          unfold Oct.strV at hce
          have e1 : wr.cell? ⟨g, o, none⟩ = some (.string (bA x)) := hce wr hbel.out
          have hmem : ∀ v ∈ [x], v ∈ vs := fun v hv => by rw [List.mem_singleton.1 hv, ← hx]; exact List.getElem_mem h0
          have hT2 : (TA ++ [(⟨Em.nXG, x⟩ : Hd.Hdr)]).length = vs.length + 1 := by simp [hTn]
          have c2 := fun A c W (h : SeenH W A (TA ++ [⟨Em.nXG, x⟩])) => xfo_any A c (vs.length + 1) (TA ++ [⟨Em.nXG, x⟩]) W hT2 (hsm2 [x] (by simp) hmem) h
          rw [show Em.xfoL (TA ++ [⟨Em.nXG, x⟩]) = z from hsame [x] hmem] at c2
          have C2 := Lib.hid c2
          have hk1 : vs.length + 1 ≤ maxLen := by unfold maxLen; omega
          clear c2 hce hx hmem hc hsm2 hsame hT2
          go_wp2_with fail
          refine (xfo_line _ _).mono ?_
          rintro e w2 ⟨rfl, hb2⟩
          have HB2 : Hid (Below w1.heap.size w1 w2) := Lib.hid (hbel.out.trans (hb2.mono hbel.out.size))
          have HL2 : Hid (OwnH w2 _ _ _) := Lib.hid (hl.out.below hb2)
          have ht2 : OwnH w2 _ _ _ := ht.out.below hb2
          have hw2 : bt ≤ w2.heap.size := Nat.le_trans hbt.out.1 hb2.size
          clear hb2 e1
          go_wp2_with (at_builtin; refine wp_appg rfl _ _ rfl bt _ TA [⟨Em.nXG, x⟩] rfl (ht2.alloc _) (some ⟨w2.heap.size, 0, none⟩) 1 _ (vs.length + 1) rfl rfl (fun e => by cases e) (seen_block (World.alloc_heap_new w2 _) rfl) (by rw [hTn]) hk1 (by omega) (by simp; omega) ?_; intro A3 c3 w3 hown3 hs3 hbb3 hg3)
          have hbw3 := (HB2.out.alloc HB2.out.size _).trans (hbb3.mono hbt.out.2.1)
          have HB3 := Lib.hid (Below.onto HB1.out hbw3)
          have hl3 : OwnH w3 w1.heap.size (.slice A1 vs.length c1) LA := World.ownsRow.kept (HL2.out.alloc _) hg3 (own_apart2 ht2 hbt.out.2.2)
          have HS3 := Lib.hid (own_seen hl3)
          have HT3 := Lib.hid hs3
          clear hbw3 hown3 hs3 hbb3 hg3 hl3 ht2 HL2
          refine (C1.out _ HS3.out).mono ?_
          rintro e w4 ⟨rfl, hb4⟩
          have HT4 := Lib.hid (HT3.out.below hb4)
          have HB4 := Lib.hid (Below.onto HB3.out hb4)
          clear hb4
          go_wp2_with fail
          refine (C2.out _ _ _ HT4.out).mono ?_
          rintro e w5 ⟨rfl, hb5⟩
          have HB5 := Lib.hid (Below.onto HB4.out hb5)
          clear hb5
          go_wp2_with fail
          go_ret
          exact ⟨rfl, HB5.out⟩
        · have h0z : ¬ (0 : Int) < (vs.length : Int) := by omega
          have hT2 : TA.length = vs.length := hTn
          have c2 := fun W (h : SeenH W A2 (TA ++ [])) => xfo_any A2 c2 vs.length (TA ++ []) W (by simpa using hT2) (hsm2 [] (by simp) (by simp)) h
          rw [show Em.xfoL (TA ++ []) = z from hsame [] (by simp), List.append_nil] at c2
          have C2 := Lib.hid c2
          have HS3 := Lib.hid (own_seen hl.out)
          have HT3 := Lib.hid (own_seen ht.out)
          have HB3 := Lib.hid (Below.onto HB1.out hbel.out)
          clear c2 hsm2 hsame hT2
          go_wp2_with fail
          refine (C1.out _ HS3.out).mono ?_
          rintro e w4 ⟨rfl, hb4⟩
          have HT4 := Lib.hid (HT3.out.below hb4)
          have HB4 := Lib.hid (Below.onto HB3.out hb4)
          clear hb4
          go_wp2_with fail
          refine (C2.out _ HT4.out).mono ?_
          rintro e w5 ⟨rfl, hb5⟩
          have HB5 := Lib.hid (Below.onto HB4.out hb5)
          clear hb5
          go_wp2_with fail
          go_ret
          exact ⟨rfl, HB5.out⟩
  · have hnz : (90 : Int) < (vs.length : Int) := by omega
    go_enter Try.func5, Try.ntmps5
    go_wp2_with fail
    refine (awake9_any _).mono ?_
    rintro e w1 ⟨rfl, hb1⟩
    go_wp2_with fail
    go_ret
    exact ⟨rfl, hb1⟩
end Go.Proofs.Ytcgogadjompemaa
