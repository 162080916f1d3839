/- The walk of the statement EmbedhdrMore (written by mkmo.py: one text for each answer of the first head). -/
import Derived.Test.YtcgogadjompemaaEmAwake
import Derived.Test.YtcgogadjompemaaHdCat
namespace Go.Proofs.Ytcgogadjompemaa
open Go.RowKit

def sameB (ws : List (List UInt8)) (W : List UInt8) : Bool := ws.all fun x => x == W
theorem sameB_succ {ws : List (List UInt8)} {W : List UInt8} {k : Nat} (h : k < ws.length) : sameB (ws.take (k + 1)) W = (sameB (ws.take k) W && (ws[k] == W)) := by
  unfold sameB
  rw [List.take_succ_eq_append_getElem h, List.all_append]
  simp
theorem sameB_true {ws : List (List UInt8)} {W : List UInt8} (h : sameB ws W = true) : ∀ x ∈ ws, x = W := fun x hx => beq_iff_eq.1 (List.all_eq_true.1 h x hx)
theorem sameB_false {ws : List (List UInt8)} {W : List UInt8} (h : sameB ws W = false) : ¬ ∀ x ∈ ws, x = W := fun h2 => by
  have : sameB ws W = true := List.all_eq_true.2 fun x hx => beq_iff_eq.2 (h2 x hx)
  rw [h] at this; cases this
theorem xfo_four (ws : List (List UInt8)) : Em.xfoW ws = 0 ∨ Em.xfoW ws = 1 ∨ Em.xfoW ws = 2 ∨ Em.xfoW ws = 3 := by
  unfold Em.xfoW
  repeat' split
  all_goals simp
theorem more_deny {l : List Hd.Hdr} (s : List UInt8) (h : Em.xfoL l = 1) : Em.xfoL (l ++ [Em.line s]) = 1 := by
  unfold Em.xfoL at h ⊢
  rw [Em.xw_app]
  exact Em.xfo_deny _ h
theorem more_two {l : List Hd.Hdr} {s : List UInt8} (h : Em.xfoL l = 2) : (sameB (Em.xw [Em.line s]) Em.xS = true → Em.xfoL (l ++ [Em.line s]) = 2) ∧ (sameB (Em.xw [Em.line s]) Em.xS = false → Em.xfoL (l ++ [Em.line s]) = 1) := by
  unfold Em.xfoL at h ⊢
  rw [Em.xw_app]
  have h2 := Em.xfo_two h
  exact ⟨fun hs => by rw [Em.xfo_all h2.2.1 (sameB_true hs)]; exact h, fun hs => Em.xfo_else (.inl rfl) h2.2.1 (sameB_false hs)⟩
theorem more_three {l : List Hd.Hdr} {s : List UInt8} (h : Em.xfoL l = 3) : (sameB (Em.xw [Em.line s]) Em.xA = true → Em.xfoL (l ++ [Em.line s]) = 3) ∧ (sameB (Em.xw [Em.line s]) Em.xA = false → Em.xfoL (l ++ [Em.line s]) = 1) := by
  unfold Em.xfoL at h ⊢
  rw [Em.xw_app]
  have h2 := Em.xfo_three h
  exact ⟨fun hs => by rw [Em.xfo_all h2.2.1 (sameB_true hs)]; exact h, fun hs => Em.xfo_else (.inr rfl) h2.2.1 (sameB_false hs)⟩
theorem more_small {l : List Hd.Hdr} {s : List UInt8} (hl : SmallH l) (hn : l.length ≤ 90) (hs : s.length ≤ 1000) : SmallH (l ++ [⟨Em.nXG, s⟩]) := by
  refine ⟨by simp; omega, fun x hx => ?_⟩
  rcases List.mem_append.1 hx with hx | hx
  · exact hl.each x hx
  · rw [List.mem_singleton.1 hx]
    exact ⟨by show Em.nXG.length ≤ 10000; decide, by show s.length ≤ 5000; omega⟩
set_option maxHeartbeats 4000000 in
set_option maxRecDepth 20000 in
theorem more_0 (A : Option Addr) (c : Nat) (l : List Hd.Hdr) (s : List UInt8) (w : World) (hw : WideHs w A c l) (hlow : lowB l = true) (hn : l.length ≤ 90) (hs : s.length ≤ 1000) (ha : Em.xfoL l = 0) :
    Calls Try.prog 7 #[.slice A l.length c, .string (bA s)] w fun e w' => e = .returned (.bool true) ∧ Below w.heap.size w w' := by
  have HS := Lib.hid hw.seen
  have hnl := hw.nl
  have hl := low_small hlow
  have hnz : ¬ ((90 : Int) < (l.length : Int)) := by omega
  have hsz : ¬ ((1000 : Int) < (s.length : Int)) := by omega
  have c1 := fun W h => xfo_any A c l.length l W rfl hl h
  rw [ha] at c1
  have c2 := fun A2 c2 W h => xfo_any A2 c2 (l.length + 1) (l ++ [⟨Em.nXG, s⟩]) W (by simp) (more_small hl hn hs) h
  have c3 := fun A3 c3 W h => parts_any A3 c3 1 [⟨Em.nXG, s⟩] Em.nX W rfl (small_one (by decide) (by omega)) (by decide) h
  have hsm := partsL_small (small_one (a := Em.nXG) (b := s) (by decide) (by omega)) Em.nX
  have hln := partsL_len (small_one (a := Em.nXG) (b := s) (by decide) (by omega)) Em.nX
  have hxw : Em.xw [Em.line s] = (Hd.partsL [⟨Em.nXG, s⟩] Em.nX).map Oct.lower := rfl
  obtain ⟨ps, hps⟩ : ∃ ps, Hd.partsL [⟨Em.nXG, s⟩] Em.nX = ps := ⟨_, rfl⟩
  simp only [hps] at c3 hsm hln hxw
  obtain ⟨b, hb⟩ : ∃ b, Em.xfoL (l ++ [⟨Em.nXG, s⟩]) = b := ⟨_, rfl⟩
  have hb' : Em.xfoL (l ++ [Em.line s]) = b := hb
  simp only [hb] at c2
  have C1 := Lib.hid c1; have C2 := Lib.hid c2; have C3 := Lib.hid c3; have HSM := Lib.hid hsm
  have hlen := hw.len
  have hl1 : l.length ≤ maxLen := by unfold maxLen; omega
  have hl2 : l.length + 1 ≤ maxLen := by unfold maxLen; omega
  clear c1 c2 c3 hsm hw hl ha hb hb' hps hxw
  go_enter Try.func7, Try.ntmps7
  go_wp2_with fail
  refine (awake9_any _).mono ?_
  rintro e w1 ⟨rfl, hb1⟩
  have HS1 := Lib.hid (HS.out.below hb1); have HB1 := Lib.hid hb1
  clear hb1
  go_wp2_with fail
  have hf := low_any A c l.length l w1 rfl HS1.out
  rw [hlow] at hf
  refine hf.mono ?_
  rintro e w2 ⟨rfl, hw2⟩
  rw [hw2]
  clear hf hw2
  go_wp2_with fail
  refine (C1.out _ HS1.out).mono ?_
  rintro e w3 ⟨rfl, hb3⟩
  have HS3 := Lib.hid (HS1.out.below hb3); have HB3 := Lib.hid (Below.onto HB1.out hb3)
  clear hb3
  go_wp2_with (at_builtin; refine wp_app rfl _ _ rfl w3.heap.size _ [] l rfl (own_none (World.alloc_heap_new w3 _) (Nat.le_refl _)) A l.length c l.length rfl rfl hnl (HS3.out.below ((Below.refl _ _).alloc (Nat.le_refl _) _)) (Nat.zero_add _) hl1 (by omega) (by simp) ?_; intro A4 c4 w4 hown4 hs4 hbb4)
  have hb4 : Below w3.heap.size w3 w4 := ((Below.refl w3.heap.size w3).alloc (Nat.le_refl _) _).trans hbb4
  have HB4 := Lib.hid (Below.onto HB3.out hb4)
  have hO4 : OwnH w4 w3.heap.size (.slice A4 l.length c4) l := hown4
  have HO4 := Lib.hid hO4
  have HG := Lib.hid hb4.size
  clear hown4 hs4 hbb4 hb4 hO4
  refine (xfo_line _ _).mono ?_
  rintro e w5 ⟨rfl, hb5⟩
  have hO5 : OwnH w5 w3.heap.size (.slice A4 l.length c4) l := HO4.out.below hb5
  have HB5 := Lib.hid (Below.onto HB4.out hb5)
  have hg5 : w3.heap.size ≤ w5.heap.size := Nat.le_trans HG.out hb5.size
  clear hb5
  go_wp2_with (at_builtin; refine wp_app rfl _ _ rfl w3.heap.size _ l [⟨Em.nXG, s⟩] rfl (hO5.alloc _) (some ⟨w5.heap.size, 0, none⟩) 1 _ (l.length + 1) rfl rfl (fun e => by cases e) (seen_block (World.alloc_heap_new w5 _) rfl) rfl hl2 (by omega) (by simp; omega) ?_; intro A6 c6 w6 hown6 hs6 hbb6)
  have HB6 := Lib.hid (((HB5.out.alloc HB5.out.size _).trans (hbb6.mono HB3.out.size)) : Below w.heap.size w w6)
  have HS6 := Lib.hid hs6
  clear hown6 hs6 hbb6 hO5 HO4 hg5
  refine (C2.out _ _ _ HS6.out).mono ?_
  rintro e w7 ⟨rfl, hb7⟩
  have HB7 := Lib.hid (Below.onto HB6.out hb7)
  clear hb7 HS6 HB6
  go_wp2_with fail
  refine (xfo_line _ _).mono ?_
  rintro e w8 ⟨rfl, hb8⟩
  have HB8 := Lib.hid (Below.onto HB7.out hb8)
  clear hb8 HB7
  go_wp2_with fail
  refine (C3.out _ _ _ (one_line w8 Em.nXG s)).mono ?_
  rintro e w9 ⟨v9, rfl, hb9, hr9⟩
  have HB9 := Lib.hid (Below.onto1 HB8.out hb9)
  have HR9 := Lib.hid hr9
  have hv : ∃ A9 c9, v9 = .slice A9 ps.length c9 := by
    rcases owns_view hr9 with ⟨rfl, h0⟩ | ⟨g, cap, rfl, _⟩
    · exact ⟨none, 0, by rw [h0]; rfl⟩
    · exact ⟨_, _, rfl⟩
  obtain ⟨A9, c9, rfl⟩ := hv
  clear hb9 hr9 HB8
  go_wp2
  go_loopw [11, 12] (fun sv i wr => ∃ (k : Nat) (bb : Bool), k ≤ ps.length ∧ i = .int .i64 k ∧ sv = .bool bb ∧ Hid (sameB ((ps.map Oct.lower).take k) Em.xS = bb) ∧ Hid (Below w9.heap.size w9 wr)) (fun _ i _ => ps.length - (intOf i).toNat)
  case atStart => exact ⟨0, true, by omega, rfl, rfl, Lib.hid rfl, Lib.hid (Below.refl _ _)⟩
  case round =>
    obtain ⟨k, bb, hk, rfl, rfl, hsame, hbel⟩ := hrel
    by_cases hlt : k < ps.length
    · rcases owns_view (owns_below HR9.out hbel.out) with ⟨e1, h0⟩ | ⟨g, cap, e1, _, hg, hgb, hc⟩
      · exfalso; rw [h0] at hlt; simp at hlt
      · cases e1
        have hss := sameB_succ (ws := ps.map Oct.lower) (W := Em.xS) (k := k) (by simpa using hlt)
        rw [hsame.out, List.getElem_map] at hss
        have hce := hc k hlt
        have hxl : ps[k].length ≤ 5000 := HSM.out _ (List.getElem_mem hlt)
        obtain ⟨x, hx⟩ : ∃ x, ps[k] = x := ⟨_, rfl⟩
        rw [hx] at hss hce hxl
        unfold Oct.strV at hce
        clear hc hx
        cases bb with
        | false =>
          have HSS : Hid (sameB ((ps.map Oct.lower).take (k + 1)) Em.xS = false) := Lib.hid hss
          clear hss
          go_wp2_with fail
          exact ⟨⟨k + 1, false, by omega, by go_num, by first | rfl | trivial, HSS, hbel⟩, by simp [intOf]; omega⟩
        | true =>
          have hcall := fun W => low_bA x W hxl
          obtain ⟨y, hy⟩ : ∃ y, Oct.lower x = y := ⟨_, rfl⟩
          rw [hy] at hss
          simp only [hy] at hcall
          have HC := Lib.hid hcall
          clear hcall hy hxl
          cases hyw : y == Em.xS with
          | true =>
            rw [hyw] at hss
            have HSS : Hid (sameB ((ps.map Oct.lower).take (k + 1)) Em.xS = true) := Lib.hid hss
            unfold Em.xS at hyw
            clear hss
            go_wp2_with fail
            refine (HC.out _).mono ?_
            rintro e w10 ⟨rfl, hb10⟩
            have HB10 := Lib.hid (hbel.out.trans (hb10.mono hbel.out.size))
            clear hb10 hce
            go_wp2_with fail
            exact ⟨⟨k + 1, true, by omega, by go_num, by first | rfl | trivial, HSS, HB10⟩, by simp [intOf]; omega⟩
          | false =>
            rw [hyw] at hss
            have HSS : Hid (sameB ((ps.map Oct.lower).take (k + 1)) Em.xS = false) := Lib.hid hss
            unfold Em.xS at hyw
            clear hss
            go_wp2_with fail
            refine (HC.out _).mono ?_
            rintro e w10 ⟨rfl, hb10⟩
            have HB10 := Lib.hid (hbel.out.trans (hb10.mono hbel.out.size))
            clear hb10 hce
            go_wp2_with fail
            exact ⟨⟨k + 1, false, by omega, by go_num, by first | rfl | trivial, HSS, HB10⟩, by simp [intOf]; omega⟩
    · obtain rfl : k = ps.length := by omega
      have hs2 := hsame.out
      rw [List.take_of_length_le (by simp)] at hs2
      have HB10 := Lib.hid (Below.onto HB9.out hbel.out)
      clear hs2 hsame hbel
      go_wp2_with fail
      go_ret
      exact ⟨rfl, HB10.out⟩
set_option maxHeartbeats 4000000 in
set_option maxRecDepth 20000 in
theorem more_1 (A : Option Addr) (c : Nat) (l : List Hd.Hdr) (s : List UInt8) (w : World) (hw : WideHs w A c l) (hlow : lowB l = true) (hn : l.length ≤ 90) (hs : s.length ≤ 1000) (ha : Em.xfoL l = 1) :
    Calls Try.prog 7 #[.slice A l.length c, .string (bA s)] w fun e w' => e = .returned (.bool true) ∧ Below w.heap.size w w' := by
  have HS := Lib.hid hw.seen
  have hnl := hw.nl
  have hl := low_small hlow
  have hnz : ¬ ((90 : Int) < (l.length : Int)) := by omega
  have hsz : ¬ ((1000 : Int) < (s.length : Int)) := by omega
  have c1 := fun W h => xfo_any A c l.length l W rfl hl h
  rw [ha] at c1
  have c2 := fun A2 c2 W h => xfo_any A2 c2 (l.length + 1) (l ++ [⟨Em.nXG, s⟩]) W (by simp) (more_small hl hn hs) h
  have c3 := fun A3 c3 W h => parts_any A3 c3 1 [⟨Em.nXG, s⟩] Em.nX W rfl (small_one (by decide) (by omega)) (by decide) h
  have hsm := partsL_small (small_one (a := Em.nXG) (b := s) (by decide) (by omega)) Em.nX
  have hln := partsL_len (small_one (a := Em.nXG) (b := s) (by decide) (by omega)) Em.nX
  have hxw : Em.xw [Em.line s] = (Hd.partsL [⟨Em.nXG, s⟩] Em.nX).map Oct.lower := rfl
  have hm := more_deny s ha
  obtain ⟨ps, hps⟩ : ∃ ps, Hd.partsL [⟨Em.nXG, s⟩] Em.nX = ps := ⟨_, rfl⟩
  simp only [hps] at c3 hsm hln hxw
  obtain ⟨b, hb⟩ : ∃ b, Em.xfoL (l ++ [⟨Em.nXG, s⟩]) = b := ⟨_, rfl⟩
  have hb' : Em.xfoL (l ++ [Em.line s]) = b := hb
  simp only [hb] at c2
  rw [hb'] at hm
  subst hm
  have C1 := Lib.hid c1; have C2 := Lib.hid c2; have C3 := Lib.hid c3; have HSM := Lib.hid hsm
  have hlen := hw.len
  have hl1 : l.length ≤ maxLen := by unfold maxLen; omega
  have hl2 : l.length + 1 ≤ maxLen := by unfold maxLen; omega
  clear c1 c2 c3 hsm hw hl ha hb hb' hps hxw
  go_enter Try.func7, Try.ntmps7
  go_wp2_with fail
  refine (awake9_any _).mono ?_
  rintro e w1 ⟨rfl, hb1⟩
  have HS1 := Lib.hid (HS.out.below hb1); have HB1 := Lib.hid hb1
  clear hb1
  go_wp2_with fail
  have hf := low_any A c l.length l w1 rfl HS1.out
  rw [hlow] at hf
  refine hf.mono ?_
  rintro e w2 ⟨rfl, hw2⟩
  rw [hw2]
  clear hf hw2
  go_wp2_with fail
  refine (C1.out _ HS1.out).mono ?_
  rintro e w3 ⟨rfl, hb3⟩
  have HS3 := Lib.hid (HS1.out.below hb3); have HB3 := Lib.hid (Below.onto HB1.out hb3)
  clear hb3
  go_wp2_with (at_builtin; refine wp_app rfl _ _ rfl w3.heap.size _ [] l rfl (own_none (World.alloc_heap_new w3 _) (Nat.le_refl _)) A l.length c l.length rfl rfl hnl (HS3.out.below ((Below.refl _ _).alloc (Nat.le_refl _) _)) (Nat.zero_add _) hl1 (by omega) (by simp) ?_; intro A4 c4 w4 hown4 hs4 hbb4)
  have hb4 : Below w3.heap.size w3 w4 := ((Below.refl w3.heap.size w3).alloc (Nat.le_refl _) _).trans hbb4
  have HB4 := Lib.hid (Below.onto HB3.out hb4)
  have hO4 : OwnH w4 w3.heap.size (.slice A4 l.length c4) l := hown4
  have HO4 := Lib.hid hO4
  have HG := Lib.hid hb4.size
  clear hown4 hs4 hbb4 hb4 hO4
  refine (xfo_line _ _).mono ?_
  rintro e w5 ⟨rfl, hb5⟩
  have hO5 : OwnH w5 w3.heap.size (.slice A4 l.length c4) l := HO4.out.below hb5
  have HB5 := Lib.hid (Below.onto HB4.out hb5)
  have hg5 : w3.heap.size ≤ w5.heap.size := Nat.le_trans HG.out hb5.size
  clear hb5
  go_wp2_with (at_builtin; refine wp_app rfl _ _ rfl w3.heap.size _ l [⟨Em.nXG, s⟩] rfl (hO5.alloc _) (some ⟨w5.heap.size, 0, none⟩) 1 _ (l.length + 1) rfl rfl (fun e => by cases e) (seen_block (World.alloc_heap_new w5 _) rfl) rfl hl2 (by omega) (by simp; omega) ?_; intro A6 c6 w6 hown6 hs6 hbb6)
  have HB6 := Lib.hid (((HB5.out.alloc HB5.out.size _).trans (hbb6.mono HB3.out.size)) : Below w.heap.size w w6)
  have HS6 := Lib.hid hs6
  clear hown6 hs6 hbb6 hO5 HO4 hg5
  refine (C2.out _ _ _ HS6.out).mono ?_
  rintro e w7 ⟨rfl, hb7⟩
  have HB7 := Lib.hid (Below.onto HB6.out hb7)
  clear hb7 HS6 HB6
  go_wp2_with fail
  refine (xfo_line _ _).mono ?_
  rintro e w8 ⟨rfl, hb8⟩
  have HB8 := Lib.hid (Below.onto HB7.out hb8)
  clear hb8 HB7
  go_wp2_with fail
  refine (C3.out _ _ _ (one_line w8 Em.nXG s)).mono ?_
  rintro e w9 ⟨v9, rfl, hb9, hr9⟩
  have HB9 := Lib.hid (Below.onto1 HB8.out hb9)
  have HR9 := Lib.hid hr9
  have hv : ∃ A9 c9, v9 = .slice A9 ps.length c9 := by
    rcases owns_view hr9 with ⟨rfl, h0⟩ | ⟨g, cap, rfl, _⟩
    · exact ⟨none, 0, by rw [h0]; rfl⟩
    · exact ⟨_, _, rfl⟩
  obtain ⟨A9, c9, rfl⟩ := hv
  clear hb9 hr9 HB8
  go_wp2
  go_loopw [11, 12] (fun sv i wr => ∃ (k : Nat) (bb : Bool), k ≤ ps.length ∧ i = .int .i64 k ∧ sv = .bool bb ∧ Hid (sameB ((ps.map Oct.lower).take k) Em.xS = bb) ∧ Hid (Below w9.heap.size w9 wr)) (fun _ i _ => ps.length - (intOf i).toNat)
  case atStart => exact ⟨0, true, by omega, rfl, rfl, Lib.hid rfl, Lib.hid (Below.refl _ _)⟩
  case round =>
    obtain ⟨k, bb, hk, rfl, rfl, hsame, hbel⟩ := hrel
    by_cases hlt : k < ps.length
    · rcases owns_view (owns_below HR9.out hbel.out) with ⟨e1, h0⟩ | ⟨g, cap, e1, _, hg, hgb, hc⟩
      · exfalso; rw [h0] at hlt; simp at hlt
      · cases e1
        have hss := sameB_succ (ws := ps.map Oct.lower) (W := Em.xS) (k := k) (by simpa using hlt)
        rw [hsame.out, List.getElem_map] at hss
        have hce := hc k hlt
        have hxl : ps[k].length ≤ 5000 := HSM.out _ (List.getElem_mem hlt)
        obtain ⟨x, hx⟩ : ∃ x, ps[k] = x := ⟨_, rfl⟩
        rw [hx] at hss hce hxl
        unfold Oct.strV at hce
        clear hc hx
        cases bb with
        | false =>
          have HSS : Hid (sameB ((ps.map Oct.lower).take (k + 1)) Em.xS = false) := Lib.hid hss
          clear hss
          go_wp2_with fail
          exact ⟨⟨k + 1, false, by omega, by go_num, by first | rfl | trivial, HSS, hbel⟩, by simp [intOf]; omega⟩
        | true =>
          have hcall := fun W => low_bA x W hxl
          obtain ⟨y, hy⟩ : ∃ y, Oct.lower x = y := ⟨_, rfl⟩
          rw [hy] at hss
          simp only [hy] at hcall
          have HC := Lib.hid hcall
          clear hcall hy hxl
          cases hyw : y == Em.xS with
          | true =>
            rw [hyw] at hss
            have HSS : Hid (sameB ((ps.map Oct.lower).take (k + 1)) Em.xS = true) := Lib.hid hss
            unfold Em.xS at hyw
            clear hss
            go_wp2_with fail
            refine (HC.out _).mono ?_
            rintro e w10 ⟨rfl, hb10⟩
            have HB10 := Lib.hid (hbel.out.trans (hb10.mono hbel.out.size))
            clear hb10 hce
            go_wp2_with fail
            exact ⟨⟨k + 1, true, by omega, by go_num, by first | rfl | trivial, HSS, HB10⟩, by simp [intOf]; omega⟩
          | false =>
            rw [hyw] at hss
            have HSS : Hid (sameB ((ps.map Oct.lower).take (k + 1)) Em.xS = false) := Lib.hid hss
            unfold Em.xS at hyw
            clear hss
            go_wp2_with fail
            refine (HC.out _).mono ?_
            rintro e w10 ⟨rfl, hb10⟩
            have HB10 := Lib.hid (hbel.out.trans (hb10.mono hbel.out.size))
            clear hb10 hce
            go_wp2_with fail
            exact ⟨⟨k + 1, false, by omega, by go_num, by first | rfl | trivial, HSS, HB10⟩, by simp [intOf]; omega⟩
    · obtain rfl : k = ps.length := by omega
      have hs2 := hsame.out
      rw [List.take_of_length_le (by simp)] at hs2
      have HB10 := Lib.hid (Below.onto HB9.out hbel.out)
      clear hs2 hsame hbel
      go_wp2_with fail
      go_ret
      exact ⟨rfl, HB10.out⟩
set_option maxHeartbeats 4000000 in
set_option maxRecDepth 20000 in
theorem more_2 (A : Option Addr) (c : Nat) (l : List Hd.Hdr) (s : List UInt8) (w : World) (hw : WideHs w A c l) (hlow : lowB l = true) (hn : l.length ≤ 90) (hs : s.length ≤ 1000) (ha : Em.xfoL l = 2) :
    Calls Try.prog 7 #[.slice A l.length c, .string (bA s)] w fun e w' => e = .returned (.bool true) ∧ Below w.heap.size w w' := by
  have HS := Lib.hid hw.seen
  have hnl := hw.nl
  have hl := low_small hlow
  have hnz : ¬ ((90 : Int) < (l.length : Int)) := by omega
  have hsz : ¬ ((1000 : Int) < (s.length : Int)) := by omega
  have c1 := fun W h => xfo_any A c l.length l W rfl hl h
  rw [ha] at c1
  have c2 := fun A2 c2 W h => xfo_any A2 c2 (l.length + 1) (l ++ [⟨Em.nXG, s⟩]) W (by simp) (more_small hl hn hs) h
  have c3 := fun A3 c3 W h => parts_any A3 c3 1 [⟨Em.nXG, s⟩] Em.nX W rfl (small_one (by decide) (by omega)) (by decide) h
  have hsm := partsL_small (small_one (a := Em.nXG) (b := s) (by decide) (by omega)) Em.nX
  have hln := partsL_len (small_one (a := Em.nXG) (b := s) (by decide) (by omega)) Em.nX
  have hxw : Em.xw [Em.line s] = (Hd.partsL [⟨Em.nXG, s⟩] Em.nX).map Oct.lower := rfl
  have hm := more_two (s := s) ha
  obtain ⟨ps, hps⟩ : ∃ ps, Hd.partsL [⟨Em.nXG, s⟩] Em.nX = ps := ⟨_, rfl⟩
  simp only [hps] at c3 hsm hln hxw
  obtain ⟨b, hb⟩ : ∃ b, Em.xfoL (l ++ [⟨Em.nXG, s⟩]) = b := ⟨_, rfl⟩
  have hb' : Em.xfoL (l ++ [Em.line s]) = b := hb
  simp only [hb] at c2
  rw [hb', hxw] at hm
  have HM := Lib.hid hm
  clear hm
  have C1 := Lib.hid c1; have C2 := Lib.hid c2; have C3 := Lib.hid c3; have HSM := Lib.hid hsm
  have hlen := hw.len
  have hl1 : l.length ≤ maxLen := by unfold maxLen; omega
  have hl2 : l.length + 1 ≤ maxLen := by unfold maxLen; omega
  clear c1 c2 c3 hsm hw hl ha hb hb' hps hxw
  go_enter Try.func7, Try.ntmps7
  go_wp2_with fail
  refine (awake9_any _).mono ?_
  rintro e w1 ⟨rfl, hb1⟩
  have HS1 := Lib.hid (HS.out.below hb1); have HB1 := Lib.hid hb1
  clear hb1
  go_wp2_with fail
  have hf := low_any A c l.length l w1 rfl HS1.out
  rw [hlow] at hf
  refine hf.mono ?_
  rintro e w2 ⟨rfl, hw2⟩
  rw [hw2]
  clear hf hw2
  go_wp2_with fail
  refine (C1.out _ HS1.out).mono ?_
  rintro e w3 ⟨rfl, hb3⟩
  have HS3 := Lib.hid (HS1.out.below hb3); have HB3 := Lib.hid (Below.onto HB1.out hb3)
  clear hb3
  go_wp2_with (at_builtin; refine wp_app rfl _ _ rfl w3.heap.size _ [] l rfl (own_none (World.alloc_heap_new w3 _) (Nat.le_refl _)) A l.length c l.length rfl rfl hnl (HS3.out.below ((Below.refl _ _).alloc (Nat.le_refl _) _)) (Nat.zero_add _) hl1 (by omega) (by simp) ?_; intro A4 c4 w4 hown4 hs4 hbb4)
  have hb4 : Below w3.heap.size w3 w4 := ((Below.refl w3.heap.size w3).alloc (Nat.le_refl _) _).trans hbb4
  have HB4 := Lib.hid (Below.onto HB3.out hb4)
  have hO4 : OwnH w4 w3.heap.size (.slice A4 l.length c4) l := hown4
  have HO4 := Lib.hid hO4
  have HG := Lib.hid hb4.size
  clear hown4 hs4 hbb4 hb4 hO4
  refine (xfo_line _ _).mono ?_
  rintro e w5 ⟨rfl, hb5⟩
  have hO5 : OwnH w5 w3.heap.size (.slice A4 l.length c4) l := HO4.out.below hb5
  have HB5 := Lib.hid (Below.onto HB4.out hb5)
  have hg5 : w3.heap.size ≤ w5.heap.size := Nat.le_trans HG.out hb5.size
  clear hb5
  go_wp2_with (at_builtin; refine wp_app rfl _ _ rfl w3.heap.size _ l [⟨Em.nXG, s⟩] rfl (hO5.alloc _) (some ⟨w5.heap.size, 0, none⟩) 1 _ (l.length + 1) rfl rfl (fun e => by cases e) (seen_block (World.alloc_heap_new w5 _) rfl) rfl hl2 (by omega) (by simp; omega) ?_; intro A6 c6 w6 hown6 hs6 hbb6)
  have HB6 := Lib.hid (((HB5.out.alloc HB5.out.size _).trans (hbb6.mono HB3.out.size)) : Below w.heap.size w w6)
  have HS6 := Lib.hid hs6
  clear hown6 hs6 hbb6 hO5 HO4 hg5
  refine (C2.out _ _ _ HS6.out).mono ?_
  rintro e w7 ⟨rfl, hb7⟩
  have HB7 := Lib.hid (Below.onto HB6.out hb7)
  clear hb7 HS6 HB6
  go_wp2_with fail
  refine (xfo_line _ _).mono ?_
  rintro e w8 ⟨rfl, hb8⟩
  have HB8 := Lib.hid (Below.onto HB7.out hb8)
  clear hb8 HB7
  go_wp2_with fail
  refine (C3.out _ _ _ (one_line w8 Em.nXG s)).mono ?_
  rintro e w9 ⟨v9, rfl, hb9, hr9⟩
  have HB9 := Lib.hid (Below.onto1 HB8.out hb9)
  have HR9 := Lib.hid hr9
  have hv : ∃ A9 c9, v9 = .slice A9 ps.length c9 := by
    rcases owns_view hr9 with ⟨rfl, h0⟩ | ⟨g, cap, rfl, _⟩
    · exact ⟨none, 0, by rw [h0]; rfl⟩
    · exact ⟨_, _, rfl⟩
  obtain ⟨A9, c9, rfl⟩ := hv
  clear hb9 hr9 HB8
  go_wp2
  go_loopw [11, 12] (fun sv i wr => ∃ (k : Nat) (bb : Bool), k ≤ ps.length ∧ i = .int .i64 k ∧ sv = .bool bb ∧ Hid (sameB ((ps.map Oct.lower).take k) Em.xS = bb) ∧ Hid (Below w9.heap.size w9 wr)) (fun _ i _ => ps.length - (intOf i).toNat)
  case atStart => exact ⟨0, true, by omega, rfl, rfl, Lib.hid rfl, Lib.hid (Below.refl _ _)⟩
  case round =>
    obtain ⟨k, bb, hk, rfl, rfl, hsame, hbel⟩ := hrel
    by_cases hlt : k < ps.length
    · rcases owns_view (owns_below HR9.out hbel.out) with ⟨e1, h0⟩ | ⟨g, cap, e1, _, hg, hgb, hc⟩
      · exfalso; rw [h0] at hlt; simp at hlt
      · cases e1
        have hss := sameB_succ (ws := ps.map Oct.lower) (W := Em.xS) (k := k) (by simpa using hlt)
        rw [hsame.out, List.getElem_map] at hss
        have hce := hc k hlt
        have hxl : ps[k].length ≤ 5000 := HSM.out _ (List.getElem_mem hlt)
        obtain ⟨x, hx⟩ : ∃ x, ps[k] = x := ⟨_, rfl⟩
        rw [hx] at hss hce hxl
        unfold Oct.strV at hce
        clear hc hx
        cases bb with
        | false =>
          have HSS : Hid (sameB ((ps.map Oct.lower).take (k + 1)) Em.xS = false) := Lib.hid hss
          clear hss
          go_wp2_with fail
          exact ⟨⟨k + 1, false, by omega, by go_num, by first | rfl | trivial, HSS, hbel⟩, by simp [intOf]; omega⟩
        | true =>
          have hcall := fun W => low_bA x W hxl
          obtain ⟨y, hy⟩ : ∃ y, Oct.lower x = y := ⟨_, rfl⟩
          rw [hy] at hss
          simp only [hy] at hcall
          have HC := Lib.hid hcall
          clear hcall hy hxl
          cases hyw : y == Em.xS with
          | true =>
            rw [hyw] at hss
            have HSS : Hid (sameB ((ps.map Oct.lower).take (k + 1)) Em.xS = true) := Lib.hid hss
            unfold Em.xS at hyw
            clear hss
            go_wp2_with fail
            refine (HC.out _).mono ?_
            rintro e w10 ⟨rfl, hb10⟩
            have HB10 := Lib.hid (hbel.out.trans (hb10.mono hbel.out.size))
            clear hb10 hce
            go_wp2_with fail
            exact ⟨⟨k + 1, true, by omega, by go_num, by first | rfl | trivial, HSS, HB10⟩, by simp [intOf]; omega⟩
          | false =>
            rw [hyw] at hss
            have HSS : Hid (sameB ((ps.map Oct.lower).take (k + 1)) Em.xS = false) := Lib.hid hss
            unfold Em.xS at hyw
            clear hss
            go_wp2_with fail
            refine (HC.out _).mono ?_
            rintro e w10 ⟨rfl, hb10⟩
            have HB10 := Lib.hid (hbel.out.trans (hb10.mono hbel.out.size))
            clear hb10 hce
            go_wp2_with fail
            exact ⟨⟨k + 1, false, by omega, by go_num, by first | rfl | trivial, HSS, HB10⟩, by simp [intOf]; omega⟩
    · obtain rfl : k = ps.length := by omega
      have hs2 := hsame.out
      rw [List.take_of_length_le (by simp)] at hs2
      have HB10 := Lib.hid (Below.onto HB9.out hbel.out)
      have h2 := HM.out
      cases bb with
      | true =>
        obtain rfl := h2.1 hs2
        clear h2 hs2 hsame hbel
        go_wp2_with fail
        go_ret
        exact ⟨rfl, HB10.out⟩
      | false =>
        obtain rfl := h2.2 hs2
        clear h2 hs2 hsame hbel
        go_wp2_with fail
        go_ret
        exact ⟨rfl, HB10.out⟩
set_option maxHeartbeats 4000000 in
set_option maxRecDepth 20000 in
theorem more_3 (A : Option Addr) (c : Nat) (l : List Hd.Hdr) (s : List UInt8) (w : World) (hw : WideHs w A c l) (hlow : lowB l = true) (hn : l.length ≤ 90) (hs : s.length ≤ 1000) (ha : Em.xfoL l = 3) :
    Calls Try.prog 7 #[.slice A l.length c, .string (bA s)] w fun e w' => e = .returned (.bool true) ∧ Below w.heap.size w w' := by
  have HS := Lib.hid hw.seen
  have hnl := hw.nl
  have hl := low_small hlow
  have hnz : ¬ ((90 : Int) < (l.length : Int)) := by omega
  have hsz : ¬ ((1000 : Int) < (s.length : Int)) := by omega
  have c1 := fun W h => xfo_any A c l.length l W rfl hl h
  rw [ha] at c1
  have c2 := fun A2 c2 W h => xfo_any A2 c2 (l.length + 1) (l ++ [⟨Em.nXG, s⟩]) W (by simp) (more_small hl hn hs) h
  have c3 := fun A3 c3 W h => parts_any A3 c3 1 [⟨Em.nXG, s⟩] Em.nX W rfl (small_one (by decide) (by omega)) (by decide) h
  have hsm := partsL_small (small_one (a := Em.nXG) (b := s) (by decide) (by omega)) Em.nX
  have hln := partsL_len (small_one (a := Em.nXG) (b := s) (by decide) (by omega)) Em.nX
  have hxw : Em.xw [Em.line s] = (Hd.partsL [⟨Em.nXG, s⟩] Em.nX).map Oct.lower := rfl
  have hm := more_three (s := s) ha
  obtain ⟨ps, hps⟩ : ∃ ps, Hd.partsL [⟨Em.nXG, s⟩] Em.nX = ps := ⟨_, rfl⟩
  simp only [hps] at c3 hsm hln hxw
  obtain ⟨b, hb⟩ : ∃ b, Em.xfoL (l ++ [⟨Em.nXG, s⟩]) = b := ⟨_, rfl⟩
  have hb' : Em.xfoL (l ++ [Em.line s]) = b := hb
  simp only [hb] at c2
  rw [hb', hxw] at hm
  have HM := Lib.hid hm
  clear hm
  have C1 := Lib.hid c1; have C2 := Lib.hid c2; have C3 := Lib.hid c3; have HSM := Lib.hid hsm
  have hlen := hw.len
  have hl1 : l.length ≤ maxLen := by unfold maxLen; omega
  have hl2 : l.length + 1 ≤ maxLen := by unfold maxLen; omega
  clear c1 c2 c3 hsm hw hl ha hb hb' hps hxw
  go_enter Try.func7, Try.ntmps7
  go_wp2_with fail
  refine (awake9_any _).mono ?_
  rintro e w1 ⟨rfl, hb1⟩
  have HS1 := Lib.hid (HS.out.below hb1); have HB1 := Lib.hid hb1
  clear hb1
  go_wp2_with fail
  have hf := low_any A c l.length l w1 rfl HS1.out
  rw [hlow] at hf
  refine hf.mono ?_
  rintro e w2 ⟨rfl, hw2⟩
  rw [hw2]
  clear hf hw2
  go_wp2_with fail
  refine (C1.out _ HS1.out).mono ?_
  rintro e w3 ⟨rfl, hb3⟩
  have HS3 := Lib.hid (HS1.out.below hb3); have HB3 := Lib.hid (Below.onto HB1.out hb3)
  clear hb3
  go_wp2_with (at_builtin; refine wp_app rfl _ _ rfl w3.heap.size _ [] l rfl (own_none (World.alloc_heap_new w3 _) (Nat.le_refl _)) A l.length c l.length rfl rfl hnl (HS3.out.below ((Below.refl _ _).alloc (Nat.le_refl _) _)) (Nat.zero_add _) hl1 (by omega) (by simp) ?_; intro A4 c4 w4 hown4 hs4 hbb4)
  have hb4 : Below w3.heap.size w3 w4 := ((Below.refl w3.heap.size w3).alloc (Nat.le_refl _) _).trans hbb4
  have HB4 := Lib.hid (Below.onto HB3.out hb4)
  have hO4 : OwnH w4 w3.heap.size (.slice A4 l.length c4) l := hown4
  have HO4 := Lib.hid hO4
  have HG := Lib.hid hb4.size
  clear hown4 hs4 hbb4 hb4 hO4
  refine (xfo_line _ _).mono ?_
  rintro e w5 ⟨rfl, hb5⟩
  have hO5 : OwnH w5 w3.heap.size (.slice A4 l.length c4) l := HO4.out.below hb5
  have HB5 := Lib.hid (Below.onto HB4.out hb5)
  have hg5 : w3.heap.size ≤ w5.heap.size := Nat.le_trans HG.out hb5.size
  clear hb5
  go_wp2_with (at_builtin; refine wp_app rfl _ _ rfl w3.heap.size _ l [⟨Em.nXG, s⟩] rfl (hO5.alloc _) (some ⟨w5.heap.size, 0, none⟩) 1 _ (l.length + 1) rfl rfl (fun e => by cases e) (seen_block (World.alloc_heap_new w5 _) rfl) rfl hl2 (by omega) (by simp; omega) ?_; intro A6 c6 w6 hown6 hs6 hbb6)
  have HB6 := Lib.hid (((HB5.out.alloc HB5.out.size _).trans (hbb6.mono HB3.out.size)) : Below w.heap.size w w6)
  have HS6 := Lib.hid hs6
  clear hown6 hs6 hbb6 hO5 HO4 hg5
  refine (C2.out _ _ _ HS6.out).mono ?_
  rintro e w7 ⟨rfl, hb7⟩
  have HB7 := Lib.hid (Below.onto HB6.out hb7)
  clear hb7 HS6 HB6
  go_wp2_with fail
  refine (xfo_line _ _).mono ?_
  rintro e w8 ⟨rfl, hb8⟩
  have HB8 := Lib.hid (Below.onto HB7.out hb8)
  clear hb8 HB7
  go_wp2_with fail
  refine (C3.out _ _ _ (one_line w8 Em.nXG s)).mono ?_
  rintro e w9 ⟨v9, rfl, hb9, hr9⟩
  have HB9 := Lib.hid (Below.onto1 HB8.out hb9)
  have HR9 := Lib.hid hr9
  have hv : ∃ A9 c9, v9 = .slice A9 ps.length c9 := by
    rcases owns_view hr9 with ⟨rfl, h0⟩ | ⟨g, cap, rfl, _⟩
    · exact ⟨none, 0, by rw [h0]; rfl⟩
    · exact ⟨_, _, rfl⟩
  obtain ⟨A9, c9, rfl⟩ := hv
  clear hb9 hr9 HB8
  go_wp2
  go_loopw [11, 12] (fun sv i wr => ∃ (k : Nat) (bb : Bool), k ≤ ps.length ∧ i = .int .i64 k ∧ sv = .bool bb ∧ Hid (sameB ((ps.map Oct.lower).take k) Em.xA = bb) ∧ Hid (Below w9.heap.size w9 wr)) (fun _ i _ => ps.length - (intOf i).toNat)
  case atStart => exact ⟨0, true, by omega, rfl, rfl, Lib.hid rfl, Lib.hid (Below.refl _ _)⟩
  case round =>
    obtain ⟨k, bb, hk, rfl, rfl, hsame, hbel⟩ := hrel
    by_cases hlt : k < ps.length
    · rcases owns_view (owns_below HR9.out hbel.out) with ⟨e1, h0⟩ | ⟨g, cap, e1, _, hg, hgb, hc⟩
      · exfalso; rw [h0] at hlt; simp at hlt
      · cases e1
        have hss := sameB_succ (ws := ps.map Oct.lower) (W := Em.xA) (k := k) (by simpa using hlt)
        rw [hsame.out, List.getElem_map] at hss
        have hce := hc k hlt
        have hxl : ps[k].length ≤ 5000 := HSM.out _ (List.getElem_mem hlt)
        obtain ⟨x, hx⟩ : ∃ x, ps[k] = x := ⟨_, rfl⟩
        rw [hx] at hss hce hxl
        unfold Oct.strV at hce
        clear hc hx
        cases bb with
        | false =>
          have HSS : Hid (sameB ((ps.map Oct.lower).take (k + 1)) Em.xA = false) := Lib.hid hss
          clear hss
          go_wp2_with fail
          exact ⟨⟨k + 1, false, by omega, by go_num, by first | rfl | trivial, HSS, hbel⟩, by simp [intOf]; omega⟩
        | true =>
          have hcall := fun W => low_bA x W hxl
          obtain ⟨y, hy⟩ : ∃ y, Oct.lower x = y := ⟨_, rfl⟩
          rw [hy] at hss
          simp only [hy] at hcall
          have HC := Lib.hid hcall
          clear hcall hy hxl
          cases hyw : y == Em.xA with
          | true =>
            rw [hyw] at hss
            have HSS : Hid (sameB ((ps.map Oct.lower).take (k + 1)) Em.xA = true) := Lib.hid hss
            unfold Em.xA at hyw
            clear hss
            go_wp2_with fail
            refine (HC.out _).mono ?_
            rintro e w10 ⟨rfl, hb10⟩
            have HB10 := Lib.hid (hbel.out.trans (hb10.mono hbel.out.size))
            clear hb10 hce
            go_wp2_with fail
            exact ⟨⟨k + 1, true, by omega, by go_num, by first | rfl | trivial, HSS, HB10⟩, by simp [intOf]; omega⟩
          | false =>
            rw [hyw] at hss
            have HSS : Hid (sameB ((ps.map Oct.lower).take (k + 1)) Em.xA = false) := Lib.hid hss
            unfold Em.xA at hyw
            clear hss
            go_wp2_with fail
            refine (HC.out _).mono ?_
            rintro e w10 ⟨rfl, hb10⟩
            have HB10 := Lib.hid (hbel.out.trans (hb10.mono hbel.out.size))
            clear hb10 hce
            go_wp2_with fail
            exact ⟨⟨k + 1, false, by omega, by go_num, by first | rfl | trivial, HSS, HB10⟩, by simp [intOf]; omega⟩
    · obtain rfl : k = ps.length := by omega
      have hs2 := hsame.out
      rw [List.take_of_length_le (by simp)] at hs2
      have HB10 := Lib.hid (Below.onto HB9.out hbel.out)
      have h2 := HM.out
      cases bb with
      | true =>
        obtain rfl := h2.1 hs2
        clear h2 hs2 hsame hbel
        go_wp2_with fail
        go_ret
        exact ⟨rfl, HB10.out⟩
      | false =>
        obtain rfl := h2.2 hs2
        clear h2 hs2 hsame hbel
        go_wp2_with fail
        go_ret
        exact ⟨rfl, HB10.out⟩
set_option maxHeartbeats 4000000 in
theorem walk_EmbedhdrMore (A : Option Addr) (c : Nat) (l : List Hd.Hdr) (s : ByteArray) (w : World) (hw : WideHs w A c l) (hs : s.size ≤ maxLen) :
    Calls Try.prog 7 #[.slice A l.length c, .string s] w fun e w' => e = .returned (.bool true) ∧ Below w.heap.size w w' := by
  obtain ⟨S, rfl⟩ : ∃ S, s = bA S := ⟨s.data.toList, rfl⟩
  rw [bA_size] at hs
  unfold maxLen at hs
  by_cases hok : lowB l = true ∧ l.length ≤ 90 ∧ S.length ≤ 1000
  · obtain ⟨h1, h2, h3⟩ := hok
    rcases xfo_four (Em.xw l) with h | h | h | h
    · exact more_0 A c l S w hw h1 h2 h3 h
    · exact more_1 A c l S w hw h1 h2 h3 h
    · exact more_2 A c l S w hw h1 h2 h3 h
    · exact more_3 A c l S w hw h1 h2 h3 h
  · have HS := Lib.hid hw.seen
    have hlen := hw.len
    unfold maxLen at hlen
    have hcs : lowB l = false ∨ (lowB l = true ∧ (90 : Int) < (l.length : Int)) ∨ (lowB l = true ∧ ¬ (90 : Int) < (l.length : Int) ∧ (1000 : Int) < (S.length : Int)) := by
      cases hb : lowB l with
      | false => exact .inl rfl
      | true =>
        rw [hb] at hok
        by_cases h1 : l.length ≤ 90
        · have h2 : ¬ S.length ≤ 1000 := fun h => hok ⟨rfl, h1, h⟩
          exact .inr (.inr ⟨rfl, by omega, by omega⟩)
        · exact .inr (.inl ⟨rfl, by omega⟩)
    clear hok hw
    rcases hcs with hlow | ⟨hlow, hz⟩ | ⟨hlow, hz, hz2⟩
    all_goals
      go_enter Try.func7, Try.ntmps7
      go_wp2_with fail
      refine (awake9_any _).mono ?_
      rintro e w1 ⟨rfl, hb1⟩
      have HS1 := Lib.hid (HS.out.below hb1); have HB1 := Lib.hid hb1
      clear hb1
      go_wp2_with fail
      have hf := low_any A c l.length l w1 rfl HS1.out
      rw [hlow] at hf
      refine hf.mono ?_
      rintro e w2 ⟨rfl, hw2⟩
      rw [hw2]
      clear hf hw2
      go_wp2_with fail
      go_ret
      exact ⟨rfl, HB1.out⟩
end Go.Proofs.Ytcgogadjompemaa
