/- The walk of the statement that a label ahead changes no site. -/
import Derived.Test.YtknadldebedpiaaDoorHostLaws6
import Derived.BigQuiet
import Derived.IntWalk
import Derived.Deep.QuietTactic
namespace Go.Proofs.YtknadldebedpiaaDoor
open Go.RowKit

/-- Is there a suffix of as many labels? -/
def wholeB (m : Nat) (sx : List (List UInt8)) : Bool := sx.any fun s => decide (m ≤ (Hst.parts s).length)
theorem whole_snoc (m : Nat) (sx : List (List UInt8)) (s : List UInt8) : wholeB m (sx ++ [s]) = (wholeB m sx || decide (m ≤ (Hst.parts s).length)) := by simp [wholeB]
theorem whole_no {m : Nat} {sx : List (List UInt8)} (h : wholeB m sx = false) : ∀ s ∈ sx, (Hst.parts s).length < m := by
  unfold wholeB at h
  rw [List.any_eq_false] at h
  intro s hs
  have := h s hs
  simp at this
  omega

/-- A slice of so many texts is answered. -/
def LenV (w : World) (n : Nat) (e : Ending) (w' : World) : Prop := ∃ ao c, e = .returned (.slice ao n c) ∧ Below w.heap.size w w'
theorem split_len_any (s : ByteArray) (w : World) (hs : s.size ≤ 1000) (n : Nat) (hn : (Hst.parts s.data.toList).length = n) : Calls Tryd.prog 19 #[.string s, .int .u8 46] w (LenV w n) := by
  subst hn
  refine (split_any s 46 w (by omega)).mono ?_
  rintro e w' ⟨v, rfl, hb, ho⟩
  rcases owns_view ho with ⟨rfl, h0⟩ | ⟨g, c, rfl, _⟩
  · exact ⟨none, 0, by rw [show Hst.parts s.data.toList = [] from h0]; rfl, hb⟩
  · exact ⟨_, _, rfl, hb⟩

/-- Both hosts lie in their boxes. -/
structure Both (w0 : World) (B G : Nat) (nm gn : ByteArray) (A : Option Addr) (sx : List (List UInt8)) (W : World) : Prop where
  rd : Ready w0 B nm false 0 A sx W
  gb : HBox W G gn false 0
theorem Both.below {w0 : World} {B G : Nat} {nm gn : ByteArray} {A : Option Addr} {sx : List (List UInt8)} {W W' : World} (hb : Below W.heap.size W W') (h : Both w0 B G nm gn A sx W) : Both w0 B G nm gn A sx W' := ⟨Ready.below hb h.rd, h.gb.below hb h.gb.lt⟩
theorem Both.drew {w0 : World} {B G : Nat} {nm gn : ByteArray} {A : Option Addr} {sx : List (List UInt8)} {W : World} (h : Both w0 B G nm gn A sx W) : Both w0 B G nm gn A sx W.drew := ⟨h.rd.drew, h.gb⟩
theorem Both.all {w0 : World} {B G : Nat} {nm gn : ByteArray} {A : Option Addr} {sx : List (List UInt8)} {W : World} (h : Both w0 B G nm gn A sx W) :
    W.cell? ⟨G, 0, none⟩ = some (.string gn) ∧ W.cell? ⟨G, 1, none⟩ = some (.bool false) ∧ W.cell? ⟨B, 0, none⟩ = some (.string nm) ∧ Both w0 B G nm gn A sx W := ⟨h.gb.c0, h.gb.c1, h.rd.box.c0, h⟩

set_option maxHeartbeats 4000000 in
set_option maxRecDepth 100000 in
theorem more_go (s lb : ByteArray) (A : Option Addr) (c : Nat) (sx : List (List UInt8)) (w : World) (nm q z : ByteArray) (hT : Tab w) (hA : Seen w A sx) (h200 : sx.length ≤ 200) (hsz : ∀ s ∈ sx, s.length ≤ maxLen) (hlb : lb.size ≤ 140737488351232) (hss : s.size ≤ 253) (hns : nm.size ≤ 253)
    (h1 : ∀ W, Calls Tryd.prog 12 #[.string s] W fun e w' => e = .returned (.tuple #[.agg #[.string nm, .bool false, .int .u32 0], .int .i64 0]) ∧ Below W.heap.size W w')
    (hq : q = lb ++ ⟨#[46]⟩ ++ s) (hz : z = ⟨(siteN nm.data.toList sx).toArray⟩)
    (hgn : ∀ g, Hst.parse q.data.toList = some g → g.v4 = false → g = ⟨Oct.lower lb.data.toList ++ 46 :: nm.data.toList, false, 0⟩ ∧ (Oct.lower lb.data.toList ++ 46 :: nm.data.toList).length ≤ 253) :
    Calls Tryd.prog 8 #[.string s, .string lb, .slice A sx.length c] w fun e w' => e = .returned (.bool true) ∧ Below w.heap.size w w' := by
  have h2 := fun W => parse_any q W (by rw [hq, ByteArray.size_append, ByteArray.size_append, size_dot]; unfold maxLen; omega)
  have HSZ := Lib.hid hsz; have HA := Lib.hid hA; have HT := Lib.hid hT; have H1 := Lib.hid h1; have H2 := Lib.hid h2; have HQ := Lib.hid hq; have HZ := Lib.hid hz; have HG := Lib.hid hgn
  clear hsz hA hT h1 h2 hq hz hgn
  have h200' : decide ((200 : Int) < (sx.length : Int)) = false := by simp; omega
  go_enter Tryd.func8, Tryd.ntmps8
  go_wp2_with fail
  refine (awake_any _ HT.out).mono ?_
  rintro e w1 ⟨rfl, hb1⟩
  go_wp2_with fail
  refine (H1.out _).mono ?_
  rintro e w2 ⟨rfl, hb2⟩
  have hB := Below.onto hb1 hb2
  have hB' := hB.alloc hB.size (.cells #[.string nm, .bool false, .int .u32 0] 25)
  have hR : Ready w w2.heap.size nm false 0 A sx (w2.alloc (.cells #[.string nm, .bool false, .int .u32 0] 25)) := ⟨hB', HT.out.below hB', HA.out.below hB', HBox.new w2 nm false 0⟩
  clear hb1 hb2
  go_wp2_with fail
  clear h200'
  go_loop [10] (fun i => ∃ k : Nat, k ≤ sx.length ∧ i = .int .i64 k ∧ Hid (∀ s ∈ sx.take k, s.length ≤ 1000)) (fun i => sx.length - (intOf i).toNat)
  case atStart => exact ⟨0, Nat.zero_le _, rfl, fun _ h => by simp at h⟩
  case round =>
    obtain ⟨k, hk, rfl, hin⟩ := hrel
    by_cases hlt : k < sx.length
    · obtain ⟨ad, rfl, _, hac⟩ := hR.seen (by omega)
      have hce := hac k hlt
      have hsm := HSZ.out _ (List.getElem_mem hlt)
      obtain ⟨p, hp⟩ : ∃ p, sx[k] = p := ⟨_, rfl⟩
      rw [hp] at hce hsm
      have hzl := size_list p
      obtain ⟨y, hy⟩ : ∃ y : ByteArray, y = ⟨p.toArray⟩ := ⟨_, rfl⟩
      unfold Oct.strV at hce
      unfold maxLen at hsm
      rw [← hy] at hce hzl
      have HP := Lib.hid hp
      have HYL := Lib.hid hzl
      have hzm : y.size ≤ 9223372036854775807 := by omega
      clear hp hac hy hzl hsm
      by_cases hbig : 1000 < y.size
      · have hbig' : (1000 : Int) < (y.size : Int) := by omega
        go_wp2_with fail
        go_ret
        exact ⟨rfl, hB'⟩
      · have hbig' : y.size ≤ 1000 := by omega
        go_wp2_with fail
        go_round
        case rel =>
          refine ⟨k + 1, by omega, by go_num, ?_⟩
          intro s hs
          rw [List.take_succ_eq_append_getElem hlt] at hs
          rcases List.mem_append.1 hs with hs | hs
          · exact hin.out s hs
          · have e1 : s = p := by rw [← HP.out]; simpa using hs
            have := HYL.out
            rw [e1]; omega
        case measure => simp [intOf]; omega
    · have hall : ∀ s ∈ sx, s.length ≤ 1000 := by have := hin.out; rwa [List.take_of_length_le (by omega)] at this
      have hcs := fun W hTW hsW => site_any nm false 0 A c sx W hTW (by decide) (by decide) (by omega) (by omega) hall hsW
      have H3 : Hid (∀ W, Tab W → Seen W A sx → Calls Tryd.prog 16 #[.agg #[.string nm, .bool false, .int .u32 0], .slice A sx.length c] W fun e w' => e = .returned (.string z) ∧ Below W.heap.size W w') := fun W hTW hsW => by rw [HZ.out]; exact hcs W hTW hsW
      have HALL := Lib.hid hall
      clear hall hcs
      go_wp2_with fail
      refine (H3.out _ hR.tab hR.seen).mono ?_
      rintro e w3 ⟨rfl, hb3⟩
      have hR3 := hR.below hb3
      go_wp2_with fail
      rw [← HQ.out]
      refine (H2.out _).mono ?_
      rintro e w4 ⟨rfl, hb4⟩
      have hR4 := hR3.below hb4
      have HR4 := Lib.hid hR4
      have hl4 := hR4.box.lt
      cases hpq : Hst.parse q.data.toList with
      | none =>
        rw [show parseV none = .tuple #[.agg #[.string ⟨#[]⟩, .bool false, .int .u32 0], .int .i64 20] from rfl]
        clear hpq hR hR3 hR4 hb3 hb4
        go_wp2_with fail
        go_quiet (fail)
        go_wp2_with fail
        go_ret
        exact ⟨rfl, below_drewN' (HR4.out.bel.alloc HR4.out.bel.size _) _⟩
      | some g =>
        cases hv : g.v4 with
        | true =>
          obtain ⟨gn, hgn⟩ : ∃ gn : ByteArray, gn = ⟨g.name.toArray⟩ := ⟨_, rfl⟩
          obtain ⟨ga, hga⟩ : ∃ ga, ga = g.addr := ⟨_, rfl⟩
          rw [show parseV (some g) = .tuple #[.agg #[.string gn, .bool true, .int .u32 ga], .int .i64 0] by rw [hgn, hga, ← hv]; rfl]
          clear hpq hv hgn hga hR hR3 hR4 hb3 hb4
          go_wp2_with fail
          go_quiet (fail)
          go_wp2_with fail
          go_ret
          exact ⟨rfl, below_drewN' (HR4.out.bel.alloc HR4.out.bel.size _) _⟩
        | false =>
          obtain ⟨hge, hgl⟩ := HG.out g hpq hv
          subst hge
          obtain ⟨gn, hgn⟩ : ∃ gn : ByteArray, gn = ⟨(Oct.lower lb.data.toList ++ 46 :: nm.data.toList).toArray⟩ := ⟨_, rfl⟩
          rw [show parseV (some ⟨Oct.lower lb.data.toList ++ 46 :: nm.data.toList, false, 0⟩) = .tuple #[.agg #[.string gn, .bool false, .int .u32 0], .int .i64 0] by rw [hgn]; rfl]
          have hgs : gn.size ≤ 253 := by rw [hgn, size_list]; exact hgl
          have hgd : gn.data.toList = Oct.lower lb.data.toList ++ 46 :: nm.data.toList := by rw [hgn]
          have HGD := Lib.hid hgd
          clear hpq hv hgn hgl hgd hR hR3 hb3 hb4
          have hX5 : Both w w2.heap.size w4.heap.size nm gn A sx (w4.alloc (.cells #[.string gn, .bool false, .int .u32 0] 25)) := ⟨hR4.below ((Below.refl _ w4).alloc (Nat.le_refl _) _), HBox.new w4 gn false 0⟩
          obtain ⟨m1, hm1⟩ : ∃ m, (Hst.parts gn.data.toList).length = m := ⟨_, rfl⟩
          obtain ⟨m2, hm2⟩ : ∃ m, (Hst.parts nm.data.toList).length = m := ⟨_, rfl⟩
          have b1 := Hst.parts_len gn.data.toList
          have b2 := Hst.parts_len nm.data.toList
          have b3 : gn.data.toList.length = gn.size := by simp
          have b4 : nm.data.toList.length = nm.size := by simp
          rw [hm1, b3] at b1
          rw [hm2, b4] at b2
          have HS1 := Lib.hid (fun W => split_len_any gn W (by omega) m1 hm1)
          have HS2 := Lib.hid (fun W => split_len_any nm W (by omega) m2 hm2)
          have HM1 := Lib.hid hm1
          have HM2 := Lib.hid hm2
          have HS1' := HS1
          clear hR4 HR4 hl4 hm1 hm2 b3 b4
          by_cases hne : m1 = m2 + 1
          · have hne' : ((m1 : Int) != (m2 : Int) + 1) = false := by rw [hne]; simp
            have HNE := Lib.hid hne
            have hpos2 : 0 < m2 := by rw [← HM2.out]; exact Hst.parts_pos _
            have hwr : IntKind.i64.wrap ((m2 : Int) + 1) = (m2 : Int) + 1 := IntWalk.i64_in _ (by omega)
            clear hne
            go_wp2_with fail
            go_region_held3 (fun w' => w'.cell? ⟨w4.heap.size, 0, none⟩ = some (.string gn) ∧ w'.cell? ⟨w4.heap.size, 1, none⟩ = some (.bool false) ∧ w'.cell? ⟨w2.heap.size, 0, none⟩ = some (.string nm) ∧ Both w w2.heap.size w4.heap.size nm gn A sx w')
              (first
                | exact hX5.all
                | exact hX5.drew.all
                | exact hX6.all
                | exact hX7.all)
              (first
                | (go_at_call 19; refine (HS1.out _).mono ?_; clear HS1; rintro e w6 ⟨ao6, c6, rfl, hb6⟩; have hX6 := Both.below hb6 hX5.drew)
                | (go_at_call 19; refine (HS2.out _).mono ?_; rintro e w7 ⟨ao7, c7, rfl, hb7⟩; have hX7 := Both.below hb7 hX6))
            have d0 := hX7.gb.c0; have d1 := hX7.gb.c1; have d2 := hX7.gb.c2
            clear hwr hne' hX5 hX6 hb6 hb7
            go_wp2_with fail
            refine (HS1'.out _).mono ?_
            rintro e w8 ⟨ao8, c8, rfl, hb8⟩
            have hX8 := Both.below hb8 hX7
            clear d0 d1 d2 hX7 hb8
            go_wp2_with fail
            go_loopw [14, 16] (fun wh i wr => ∃ k : Nat, ∃ x : Bool, k ≤ sx.length ∧ i = .int .i64 k ∧ wh = .bool x ∧ Hid (x = wholeB m2 (sx.take k)) ∧ Both w w2.heap.size w4.heap.size nm gn A sx wr) (fun _ i _ => sx.length - (intOf i).toNat)
            case atStart => exact ⟨0, false, Nat.zero_le _, rfl, rfl, rfl, hX8⟩
            case round =>
              obtain ⟨k2, x, hk2, rfl, rfl, hx, hXr⟩ := hrel
              by_cases hlt2 : k2 < sx.length
              · obtain ⟨ad, rfl, _, hac⟩ := hXr.rd.seen (by omega)
                have hce := hac k2 hlt2
                have hsm := HALL.out _ (List.getElem_mem hlt2)
                have hws := whole_snoc m2 (sx.take k2) sx[k2]
                rw [← List.take_succ_eq_append_getElem hlt2, ← hx.out] at hws
                obtain ⟨p, hp⟩ : ∃ p, sx[k2] = p := ⟨_, rfl⟩
                rw [hp] at hce hsm hws
                unfold Oct.strV at hce
                obtain ⟨m3, hm3⟩ : ∃ m, (Hst.parts p).length = m := ⟨_, rfl⟩
                have b5 := Hst.parts_len p
                rw [hm3] at hws b5
                have HS3 := Lib.hid (fun W => split_len_any ⟨p.toArray⟩ W (by rw [size_list]; omega) m3 hm3)
                have HWS := Lib.hid hws
                clear hp hac hm3 hws hx
                have hm12 : (m1 : Int) - 1 = (m2 : Int) := by have := HNE.out; omega
                have HM12 := Lib.hid hm12
                clear hm12
                go_wp2_with fail
                refine (HS3.out _).mono ?_
                rintro e w9 ⟨ao9, c9, rfl, hb9⟩
                have hX9 := Both.below hb9 hXr
                clear hce hXr hb9
                cases x with
                | true =>
                  go_wp2_with fail
                  go_roundw
                  case rel => exact ⟨k2 + 1, true, by omega, by go_num, rfl, by rw [HWS.out]; rfl, hX9⟩
                  case measure => simp [intOf]; omega
                | false =>
                  by_cases h32 : m2 ≤ m3
                  · have h32' : (m1 : Int) - 1 ≤ (m3 : Int) := by rw [HM12.out]; omega
                    go_wp2_with fail
                    go_roundw
                    case rel => exact ⟨k2 + 1, true, by omega, by go_num, rfl, by rw [HWS.out]; refine Lib.hid ?_; simp [h32], hX9⟩
                    case measure => simp [intOf]; omega
                  · have h32' : decide ((m1 : Int) - 1 ≤ (m3 : Int)) = false := by rw [HM12.out]; simp; omega
                    go_wp2_with fail
                    go_roundw
                    case rel => exact ⟨k2 + 1, false, by omega, by go_num, rfl, by rw [HWS.out]; refine Lib.hid ?_; simp; omega, hX9⟩
                    case measure => simp [intOf]; omega
              · have hxe : x = wholeB m2 sx := by have := hx.out; rwa [List.take_of_length_le (by omega)] at this
                have HXE := Lib.hid hxe
                clear hxe hx
                have hbr := hXr.rd.bel
                cases x with
                | true =>
                  go_wp2_with fail
                  go_ret
                  exact ⟨rfl, hbr⟩
                | false =>
                  have d0 := hXr.gb.c0; have d1 := hXr.gb.c1; have d2 := hXr.gb.c2
                  have e0 := hXr.rd.box.c0
                  have hwn := whole_no HXE.out.symm
                  have hlen : (Hst.parts (Oct.lower lb.data.toList ++ 46 :: nm.data.toList)).length = (Hst.parts nm.data.toList).length + 1 := by
                    rw [← HGD.out, HM1.out, HM2.out]; exact HNE.out
                  have hmain : ¬ (siteN nm.data.toList sx = nm.data.toList ∧ m1 < 3) → siteN gn.data.toList sx = siteN nm.data.toList sx := fun h => by
                    rw [HGD.out]
                    exact site_more _ _ _ (by rw [HM2.out]; exact hwn) hlen (by rw [← HGD.out, HM1.out]; exact h)
                  have HMAIN := Lib.hid hmain
                  have HS4 : Hid (¬ (siteN nm.data.toList sx = nm.data.toList ∧ m1 < 3) → ∀ W, Tab W → Seen W A sx → Calls Tryd.prog 16 #[.agg #[.string gn, .bool false, .int .u32 0], .slice A sx.length c] W fun e w' => e = .returned (.string z) ∧ Below W.heap.size W w') := fun hh W hTW hsW => by
                    have := site_any gn false 0 A c sx W hTW (by decide) (by decide) (by omega) (by omega) HALL.out hsW
                    rw [HZ.out, ← HMAIN.out hh]
                    exact this
                  have hzn : (z.toList == nm.toList) = true → siteN nm.data.toList sx = nm.data.toList := fun h => by
                    rw [beq_iff_eq, Lib.toList_data, Lib.toList_data, HZ.out] at h
                    exact h
                  have hzn2 : (z.toList == nm.toList) = false → ¬ siteN nm.data.toList sx = nm.data.toList := fun h e => by
                    rw [beq_eq_false_iff_ne, Lib.toList_data, Lib.toList_data, HZ.out] at h
                    exact h e
                  have HZN := Lib.hid hzn; have HZN2 := Lib.hid hzn2
                  clear hwn hlen hmain HMAIN hzn hzn2
                  cases hzt : (z.toList == nm.toList) with
                  | true =>
                    by_cases h3 : m1 < 3
                    · have h3' : (m1 : Int) < 3 := by omega
                      go_wp2_with fail
                      go_ret
                      exact ⟨rfl, hbr⟩
                    · have h3' : decide ((m1 : Int) < 3) = false := by simp; omega
                      have HS5 := Lib.hid (HS4.out (fun h => h3 h.2))
                      go_wp2_with fail
                      refine (HS5.out _ hXr.rd.tab hXr.rd.seen).mono ?_
                      rintro e w9 ⟨rfl, hb9⟩
                      go_wp2_with fail
                      go_ret
                      exact ⟨rfl, Below.onto hbr hb9⟩
                  | false =>
                    have HS5 := Lib.hid (HS4.out (fun h => HZN2.out hzt h.1))
                    go_wp2_with fail
                    refine (HS5.out _ hXr.rd.tab hXr.rd.seen).mono ?_
                    rintro e w9 ⟨rfl, hb9⟩
                    go_wp2_with fail
                    go_ret
                    exact ⟨rfl, Below.onto hbr hb9⟩
          · have hne' : ((m1 : Int) != (m2 : Int) + 1) = true := by rw [bne_iff_ne]; omega
            have hwr : IntKind.i64.wrap ((m2 : Int) + 1) = (m2 : Int) + 1 := IntWalk.i64_in _ (by omega)
            clear hne
            go_wp2_with fail
            go_region_held3 (fun w' => w'.cell? ⟨w4.heap.size, 0, none⟩ = some (.string gn) ∧ w'.cell? ⟨w4.heap.size, 1, none⟩ = some (.bool false) ∧ w'.cell? ⟨w2.heap.size, 0, none⟩ = some (.string nm) ∧ Both w w2.heap.size w4.heap.size nm gn A sx w')
              (first
                | exact hX5.all
                | exact hX5.drew.all
                | exact hX6.all
                | exact hX7.all)
              (first
                | (go_at_call 19; refine (HS1.out _).mono ?_; clear HS1; rintro e w6 ⟨ao6, c6, rfl, hb6⟩; have hX6 := Both.below hb6 hX5.drew)
                | (go_at_call 19; refine (HS2.out _).mono ?_; rintro e w7 ⟨ao7, c7, rfl, hb7⟩; have hX7 := Both.below hb7 hX6))
            go_wp2_with fail
            go_ret
            exact ⟨rfl, hX7.rd.bel⟩

set_option maxHeartbeats 2000000 in
theorem walk_HostMore (s lb : ByteArray) (A : Option Addr) (c : Nat) (sx : List (List UInt8)) (w : World) (hs : s.size ≤ maxLen) (_hl : lb.size ≤ maxLen) (hA : Seen w A sx) (hsl : sx.length ≤ maxLen) (hsz : ∀ s ∈ sx, s.length ≤ maxLen) (hlb : lb.size ≤ 140737488351232) (hT : Tab w) :
    Calls Tryd.prog 8 #[.string s, .string lb, .slice A sx.length c] w fun e w' => e = .returned (.bool true) ∧ Below w.heap.size w w' := by
  have h1 := fun W => parse_any s W hs
  have HT := Lib.hid hT
  have hsl' : sx.length ≤ 9223372036854775807 := by unfold maxLen at hsl; omega
  cases hp : Hst.parse s.data.toList with
  | none =>
    rw [hp] at h1
    have H1 : Hid (∀ W, Calls Tryd.prog 12 #[.string s] W fun e w' => e = .returned (.tuple #[.agg #[.string ⟨#[]⟩, .bool false, .int .u32 0], .int .i64 20]) ∧ Below W.heap.size W w') := h1
    clear h1 hp hs hA hsz hT hsl
    go_enter Tryd.func8, Tryd.ntmps8
    go_wp2_with fail
    refine (awake_any _ HT.out).mono ?_
    rintro e w1 ⟨rfl, hb1⟩
    go_wp2_with fail
    refine (H1.out _).mono ?_
    rintro e w2 ⟨rfl, hb2⟩
    have hB := Below.onto hb1 hb2
    go_wp2_with fail
    go_ret
    exact ⟨rfl, hB.alloc hB.size _⟩
  | some h =>
    have hr : Hst.read (Oct.lower s.data.toList) = some h := hp
    rw [hp] at h1
    cases hv : h.v4 with
    | true =>
      obtain ⟨nm, hnm⟩ : ∃ nm : ByteArray, nm = ⟨h.name.toArray⟩ := ⟨_, rfl⟩
      obtain ⟨a, ha⟩ : ∃ a, a = h.addr := ⟨_, rfl⟩
      have H1 : Hid (∀ W, Calls Tryd.prog 12 #[.string s] W fun e w' => e = .returned (.tuple #[.agg #[.string nm, .bool true, .int .u32 a], .int .i64 0]) ∧ Below W.heap.size W w') := by rw [hnm, ha, ← hv]; exact h1
      clear h1 hp hs hA hsz hT hr hv hnm ha hsl
      go_enter Tryd.func8, Tryd.ntmps8
      go_wp2_with fail
      refine (awake_any _ HT.out).mono ?_
      rintro e w1 ⟨rfl, hb1⟩
      go_wp2_with fail
      refine (H1.out _).mono ?_
      rintro e w2 ⟨rfl, hb2⟩
      have hB := Below.onto hb1 hb2
      go_wp2_with fail
      go_ret
      exact ⟨rfl, hB.alloc hB.size _⟩
    | false =>
      have hhe := read_name_eq hr hv
      obtain ⟨nm, hnm⟩ : ∃ nm : ByteArray, nm = ⟨(Oct.lower s.data.toList).toArray⟩ := ⟨_, rfl⟩
      have hnd : nm.data.toList = Oct.lower s.data.toList := by rw [hnm]
      have hH1 : ∀ W, Calls Tryd.prog 12 #[.string s] W fun e w' => e = .returned (.tuple #[.agg #[.string nm, .bool false, .int .u32 0], .int .i64 0]) ∧ Below W.heap.size W w' := by
        rw [hhe] at h1; rw [hnm]; exact h1
      have hln := (dom_len (read_dom hr)).1
      have hns : nm.size ≤ 253 := by rw [hnm, size_list]; exact hln
      have hss : s.size ≤ 253 := by
        rw [Oct.lower_length] at hln
        simpa using hln
      by_cases h200 : sx.length ≤ 200
      · refine more_go s lb A c sx w nm (lb ++ ⟨#[46]⟩ ++ s) ⟨(siteN nm.data.toList sx).toArray⟩ hT hA h200 hsz hlb hss hns hH1 rfl rfl ?_
        intro g hg hgv
        have e0 : (lb ++ ⟨#[46]⟩ ++ s : ByteArray).data.toList = lb.data.toList ++ [46] ++ s.data.toList := by simp
        have e1 : Oct.lower (lb ++ ⟨#[46]⟩ ++ s : ByteArray).data.toList = Oct.lower lb.data.toList ++ 46 :: nm.data.toList := by
          rw [e0, lower_append, lower_append, hnd, List.append_assoc]; rfl
        have hgr : Hst.read (Oct.lower (lb ++ ⟨#[46]⟩ ++ s : ByteArray).data.toList) = some g := hg
        rw [e1] at hgr
        exact ⟨read_name_eq hgr hgv, (dom_len (read_dom hgr)).1⟩
      · have H1 := Lib.hid hH1
        have h200' : (200 : Int) < (sx.length : Int) := by omega
        clear h1 hp hs hA hsz hT hr hv hnm hhe hnd hH1 hln hsl
        go_enter Tryd.func8, Tryd.ntmps8
        go_wp2_with fail
        refine (awake_any _ HT.out).mono ?_
        rintro e w1 ⟨rfl, hb1⟩
        go_wp2_with fail
        refine (H1.out _).mono ?_
        rintro e w2 ⟨rfl, hb2⟩
        have hB := Below.onto hb1 hb2
        go_wp2_with fail
        go_ret
        exact ⟨rfl, hB.alloc hB.size _⟩
end Go.Proofs.YtknadldebedpiaaDoor
