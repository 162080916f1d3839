/- The walk of the statement that a site is a host's end. -/
import Derived.Test.YtknadldebedpiaaDoorHostLaws2
import Derived.Test.YtknadldebedpiaaDoorHostMath3
namespace Go.Proofs.YtknadldebedpiaaDoor
open Go.RowKit

/-- Of two texts: is the one the other's end, behind a point or all of it? -/
theorem ends_at (t z : ByteArray) (h : z.data.toList = t.data.toList ∨ ∃ pre, t.data.toList = pre ++ 46 :: z.data.toList) :
    z.size ≤ t.size ∧ t.extract (t.size - z.size) t.size = z ∧ (z.size < t.size → ∃ h : t.size - z.size - 1 < t.size, t[t.size - z.size - 1] = 46) := by
  have lt : t.data.toList.length = t.size := by simp
  have lz : z.data.toList.length = z.size := by simp
  have ext : ∀ k : Nat, t.data.toList.drop k = z.data.toList → t.extract k t.size = z := fun k e => by
    have h1 := drop_extract t k
    rw [e] at h1
    cases z
    have h2 : (t.extract k t.size).data = _ := Array.toList_inj.1 h1
    cases hx : t.extract k t.size
    rw [hx] at h2
    simp only at h2
    rw [h2]
  rcases h with h | ⟨pre, h⟩
  · have hl : z.size = t.size := by rw [← lt, ← lz, h]
    refine ⟨by omega, ext _ (by rw [show t.size - z.size = 0 by omega]; exact h.symm), fun hlt => by omega⟩
  · have hl := congrArg List.length h
    rw [List.length_append, List.length_cons, lt, lz] at hl
    refine ⟨by omega, ext _ ?_, fun hlt => ⟨by omega, ?_⟩⟩
    · rw [h, show t.size - z.size = (pre ++ [46]).length by simp; omega]
      have : pre ++ 46 :: z.data.toList = (pre ++ [46]) ++ z.data.toList := by simp
      rw [this, List.drop_left]
    · have hk : t.size - z.size - 1 = pre.length := by omega
      have : t.data.toList[t.size - z.size - 1]'(by rw [lt]; omega) = 46 := by
        simp only [h, hk]
        simp
      exact this

theorem empty_ne {z : ByteArray} (h : z.data.toList ≠ []) : ¬ z.toList = [] ∧ z.toList.isEmpty = false := by
  rw [Lib.toList_data]
  refine ⟨h, ?_⟩
  cases hz : z.data.toList with
  | nil => exact absurd hz h
  | cons a r => rfl

set_option maxHeartbeats 2000000 in
theorem ends_go (s : ByteArray) (A : Option Addr) (c : Nat) (sx : List (List UInt8)) (w : World) (nm : ByteArray) (b : Bool) (a : Int) (t z : ByteArray) (hT : Tab w) (hA : Seen w A sx) (hsl : sx.length ≤ 2 ^ 63 - 1) (hsz : ∀ s ∈ sx, s.length ≤ maxLen)
    (h1 : ∀ W, Calls Tryd.prog 12 #[.string s] W fun e w' => e = .returned (.tuple #[.agg #[.string nm, .bool b, .int .u32 a], .int .i64 0]) ∧ Below W.heap.size W w')
    (h2 : ∀ W, Tab W → Calls Tryd.prog 14 #[.agg #[.string nm, .bool b, .int .u32 a]] W fun e w' => e = .returned (.string t) ∧ Below W.heap.size W w')
    (h3 : sx.length ≤ 200 → (∀ s ∈ sx, s.length ≤ 1000) → ∀ W, Tab W → Seen W A sx → Calls Tryd.prog 16 #[.agg #[.string nm, .bool b, .int .u32 a], .slice A sx.length c] W fun e w' => e = .returned (.string z) ∧ Below W.heap.size W w')
    (h4 : b = false → sx.length ≤ 200 → (∀ s ∈ sx, s.length ≤ 1000) → ∀ W, Tab W → Seen W A sx → Calls Tryd.prog 16 #[.agg #[.string z, .bool false, .int .u32 0], .slice A sx.length c] W fun e w' => e = .returned (.string z) ∧ Below W.heap.size W w')
    (f1 : z.data.toList = t.data.toList ∨ ∃ pre, t.data.toList = pre ++ 46 :: z.data.toList) (f2 : z.data.toList ≠ []) (f3 : b = true → z = t) (hts : t.size ≤ 253) :
    Calls Tryd.prog 7 #[.string s, .slice A sx.length c] w fun e w' => e = .returned (.bool true) ∧ Below w.heap.size w w' := by
  have HSZ := Lib.hid hsz
  have HA := Lib.hid hA
  have HT := Lib.hid hT
  have H1 := Lib.hid h1; have H2 := Lib.hid h2; have H3 := Lib.hid h3; have H4 := Lib.hid h4; have F3 := Lib.hid f3
  obtain ⟨g1, g2, g3⟩ := ends_at t z f1
  obtain ⟨g4, g5⟩ := empty_ne f2
  have G2 := Lib.hid g2; have G3 := Lib.hid g3; have G5 := Lib.hid g5
  clear hsz hA hT h1 h2 h3 h4 f1 f2 f3 g2 g3 g5
  by_cases hbig : 200 < sx.length
  · have hbig' : (200 : Int) < (sx.length : Int) := by omega
    clear g4
    go_enter Tryd.func7, Tryd.ntmps7
    go_wp2_with fail
    refine (awake_any _ HT.out).mono ?_
    rintro e w1 ⟨rfl, hb1⟩
    go_wp2_with fail
    refine (H1.out _).mono ?_
    rintro e w2 ⟨rfl, hb2⟩
    have hB := Below.onto hb1 hb2
    go_wp2_with fail
    go_ret
    exact ⟨rfl, hB.alloc hB.size _⟩
  have h200 : sx.length ≤ 200 := by omega
  have h200' : decide ((200 : Int) < (sx.length : Int)) = false := by simp; omega
  clear hbig
  go_enter Tryd.func7, Tryd.ntmps7
  go_wp2_with fail
  refine (awake_any _ HT.out).mono ?_
  rintro e w1 ⟨rfl, hb1⟩
  go_wp2_with fail
  refine (H1.out _).mono ?_
  rintro e w2 ⟨rfl, hb2⟩
  have hB := Below.onto hb1 hb2
  have hB' := hB.alloc hB.size (.cells #[.string nm, .bool b, .int .u32 a] 25)
  have hR : Ready w w2.heap.size nm b a A sx (w2.alloc (.cells #[.string nm, .bool b, .int .u32 a] 25)) := ⟨hB', HT.out.below hB', HA.out.below hB', HBox.new w2 nm b a⟩
  clear hb1 hb2
  go_wp2_with fail
  clear h200'
  go_loop [8] (fun i => ∃ k : Nat, k ≤ sx.length ∧ i = .int .i64 k ∧ Hid (∀ s ∈ sx.take k, s.length ≤ 1000)) (fun i => sx.length - (intOf i).toNat)
  case atStart => exact ⟨0, Nat.zero_le _, rfl, fun _ h => by simp at h⟩
  case round =>
    obtain ⟨k, hk, rfl, hin⟩ := hrel
    by_cases hlt : k < sx.length
    · obtain ⟨ad, rfl, _, hac⟩ := hR.seen (by omega)
      have hce := hac k hlt
      have hsm := HSZ.out _ (List.getElem_mem hlt)
      obtain ⟨p, hp⟩ : ∃ p, sx[k] = p := ⟨_, rfl⟩
      rw [hp] at hce hsm
      have hzl := size_list p
      obtain ⟨y, hy⟩ : ∃ y : ByteArray, y = ⟨p.toArray⟩ := ⟨_, rfl⟩
      unfold Oct.strV at hce
      unfold maxLen at hsm
      rw [← hy] at hce hzl
      have HP := Lib.hid hp
      have HZ := Lib.hid hzl
      have hzm : y.size ≤ 9223372036854775807 := by omega
      clear hp hac hy hzl hsm g4
      by_cases hbig : 1000 < y.size
      · have hbig' : (1000 : Int) < (y.size : Int) := by omega
        go_wp2_with fail
        go_ret
        exact ⟨rfl, hB'⟩
      · have hbig' : y.size ≤ 1000 := by omega
        go_wp2_with fail
        go_round
        case rel =>
          refine ⟨k + 1, by omega, by go_num, ?_⟩
          intro s hs
          rw [List.take_succ_eq_append_getElem hlt] at hs
          rcases List.mem_append.1 hs with hs | hs
          · exact hin.out s hs
          · have e1 : s = p := by rw [← HP.out]; simpa using hs
            have := HZ.out
            rw [e1]; omega
        case measure => simp [intOf]; omega
    · have hall : ∀ s ∈ sx, s.length ≤ 1000 := by have := hin.out; rwa [List.take_of_length_le (by omega)] at this
      have HALL := Lib.hid hall
      clear hall
      go_wp2_with fail
      refine (H2.out _ hR.tab).mono ?_
      rintro e w3 ⟨rfl, hb3⟩
      have hR3 := hR.below hb3
      have c0 := hR3.box.c0; have c1 := hR3.box.c1; have c2 := hR3.box.c2
      go_wp2_with fail
      refine (H3.out h200 HALL.out _ hR3.tab hR3.seen).mono ?_
      rintro e w4 ⟨rfl, hb4⟩
      have hR4 := hR3.below hb4
      clear c0 c1 c2
      have c0 := hR4.box.c0; have c1 := hR4.box.c1; have c2 := hR4.box.c2
      have g2 := G2.out
      have g5 := G5.out
      have hsub : ((t.size : Int) - (z.size : Int)).toNat = t.size - z.size := by omega
      have hs0 : (0 : Int) ≤ (t.size : Int) - (z.size : Int) := by omega
      have hs1 : (t.size : Int) - (z.size : Int) ≤ (t.size : Int) := by omega
      have hs2 : ¬ t.size < z.size := by omega
      by_cases hless : z.size < t.size
      · obtain ⟨hj0, hj⟩ := G3.out hless
        have hjx : ((t[t.size - z.size - 1].toNat : Int) != 46) = false := by rw [hj]; rfl
        have hjn : ((t.size : Int) - (z.size : Int) - 1).toNat = t.size - z.size - 1 := by omega
        have hj1 : (0 : Int) ≤ (t.size : Int) - (z.size : Int) - 1 := by omega
        have hj2 : (t.size : Int) - (z.size : Int) - 1 < (t.size : Int) := by omega
        clear hj
        cases hbv : b with
        | true =>
          have hzt := F3.out hbv
          exfalso
          rw [hzt] at hless; omega
        | false =>
          have H5 := Lib.hid (H4.out hbv h200 HALL.out)
          rw [hbv] at c1
          go_wp2_with fail
          refine (H5.out _ hR4.tab hR4.seen).mono ?_
          rintro e w5 ⟨rfl, hb5⟩
          go_wp2_with fail
          go_ret
          exact ⟨rfl, (hR4.below hb5).bel⟩
      · have hless' : decide ((z.size : Int) < (t.size : Int)) = false := by simp; omega
        cases hbv : b with
        | true =>
          have hzt := F3.out hbv
          rw [hbv] at c1
          clear G3 G5 H2 H3 H4 F3
          subst hzt
          have hx0 : z.extract 0 z.size = z := by have := G2.out; rwa [Nat.sub_self] at this
          clear g2 hsub hs0 hs1 hs2 hless hless' G2
          go_wp2_with fail
          go_ret
          exact ⟨rfl, hR4.bel⟩
        | false =>
          have H5 := Lib.hid (H4.out hbv h200 HALL.out)
          rw [hbv] at c1
          go_wp2_with fail
          refine (H5.out _ hR4.tab hR4.seen).mono ?_
          rintro e w5 ⟨rfl, hb5⟩
          go_wp2_with fail
          go_ret
          exact ⟨rfl, (hR4.below hb5).bel⟩

set_option maxHeartbeats 2000000 in
theorem walk_HostEnds (s : ByteArray) (A : Option Addr) (c : Nat) (sx : List (List UInt8)) (w : World) (hs : s.size ≤ maxLen) (hA : Seen w A sx) (hsl : sx.length ≤ maxLen) (hsz : ∀ s ∈ sx, s.length ≤ maxLen) (hT : Tab w) :
    Calls Tryd.prog 7 #[.string s, .slice A sx.length c] w fun e w' => e = .returned (.bool true) ∧ Below w.heap.size w w' := by
  have h1 := fun W => parse_any s W hs
  have HSZ := Lib.hid hsz
  have HA := Lib.hid hA
  have HT := Lib.hid hT
  unfold maxLen at hsl
  clear hsz hA hT
  cases hp : Hst.parse s.data.toList with
  | none =>
    rw [hp] at h1
    have H1 : Hid (∀ W, Calls Tryd.prog 12 #[.string s] W fun e w' => e = .returned (.tuple #[.agg #[.string ⟨#[]⟩, .bool false, .int .u32 0], .int .i64 20]) ∧ Below W.heap.size W w') := h1
    clear h1 hp hs
    go_enter Tryd.func7, Tryd.ntmps7
    go_wp2_with fail
    refine (awake_any _ HT.out).mono ?_
    rintro e w1 ⟨rfl, hb1⟩
    go_wp2_with fail
    refine (H1.out _).mono ?_
    rintro e w2 ⟨rfl, hb2⟩
    have hB := Below.onto hb1 hb2
    go_wp2_with fail
    go_ret
    exact ⟨rfl, hB.alloc hB.size _⟩
  | some h =>
    have hr : Hst.read (Oct.lower s.data.toList) = some h := hp
    have htx := text_read hr
    have hrg := read_range hr
    have hdm := read_dom hr
    have hnq := fun e => read_name_eq hr e
    obtain ⟨nm, hnm⟩ : ∃ nm : ByteArray, nm = ⟨h.name.toArray⟩ := ⟨_, rfl⟩
    obtain ⟨b, hb⟩ : ∃ b, b = h.v4 := ⟨_, rfl⟩
    obtain ⟨a, ha⟩ : ∃ a, a = h.addr := ⟨_, rfl⟩
    have hh : h = ⟨nm.data.toList, b, a⟩ := by rw [hnm, hb, ha]
    rw [hp] at h1
    have H1 : Hid (∀ W, Calls Tryd.prog 12 #[.string s] W fun e w' => e = .returned (.tuple #[.agg #[.string nm, .bool b, .int .u32 a], .int .i64 0]) ∧ Below W.heap.size W w') := by rw [hnm, hb, ha]; exact h1
    rw [← ha] at hrg
    obtain ⟨a0, a1⟩ := hrg
    rw [hh] at htx hnq
    have hnl := (dom_len hdm).1
    have hns : nm.size ≤ 253 := by
      cases hbv : b with
      | true =>
        have : nm.data.toList = [] := by
          unfold Hst.read at hr
          rw [hdm] at hr
          simp only [if_true] at hr
          split at hr
          · split at hr
            · simp only [Option.some.injEq] at hr
              rw [hnm, ← hr]
            · cases hr
          · simp only [Option.some.injEq] at hr
            rw [hb, ← hr] at hbv; cases hbv
        have e : nm.data.toList.length = nm.size := by simp
        rw [this] at e; simp at e; omega
      | false =>
        have := hnq hbv
        have e : nm.data.toList.length = nm.size := by simp
        rw [← htx, hbv] at hnl
        have e2 : textL ⟨nm.data.toList, false, a⟩ = nm.data.toList := rfl
        rw [e2, e] at hnl
        exact hnl
    obtain ⟨t, ht⟩ : ∃ t : ByteArray, t = ⟨(textL ⟨nm.data.toList, b, a⟩).toArray⟩ := ⟨_, rfl⟩
    obtain ⟨z, hz⟩ : ∃ z : ByteArray, z = ⟨(siteL ⟨nm.data.toList, b, a⟩ sx).toArray⟩ := ⟨_, rfl⟩
    have H2 : Hid (∀ W, Tab W → Calls Tryd.prog 14 #[.agg #[.string nm, .bool b, .int .u32 a]] W fun e w' => e = .returned (.string t) ∧ Below W.heap.size W w') := fun W hTW => by rw [ht]; exact text_any nm b a W hTW a0 a1
    have H3 : Hid (sx.length ≤ 200 → (∀ s ∈ sx, s.length ≤ 1000) → ∀ W, Tab W → Seen W A sx → Calls Tryd.prog 16 #[.agg #[.string nm, .bool b, .int .u32 a], .slice A sx.length c] W fun e w' => e = .returned (.string z) ∧ Below W.heap.size W w') := fun h200 hal W hTW hsW => by
      rw [hz]; exact site_any nm b a A c sx W hTW a0 a1 (by omega) (by omega) hal hsW
    have e1 : nm.data.toList.length = nm.size := by simp
    have htd : t.data.toList = Oct.lower s.data.toList := by rw [ht]; exact htx
    have hnn : Oct.lower s.data.toList ≠ [] := by
      intro e
      rw [e] at hdm
      cases hdm
    have hfin : (z.data.toList = t.data.toList ∨ ∃ pre, t.data.toList = pre ++ 46 :: z.data.toList) ∧ z.data.toList ≠ [] ∧ (b = true → z = t) ∧
        (b = false → sx.length ≤ 200 → (∀ s ∈ sx, s.length ≤ 1000) → ∀ W, Tab W → Seen W A sx → Calls Tryd.prog 16 #[.agg #[.string z, .bool false, .int .u32 0], .slice A sx.length c] W fun e w' => e = .returned (.string z) ∧ Below W.heap.size W w') := by
      cases hbv : b with
      | true =>
        rw [hbv] at ht hz
        have hzt : z = t := by rw [hz, ht]; rfl
        refine ⟨.inl (by rw [hzt]), by rw [hzt, htd]; exact hnn, fun _ => hzt, fun h => by cases h⟩
      | false =>
        rw [hbv] at ht hz htx
        have hz' : z.data.toList = siteN nm.data.toList sx := by rw [hz]; rfl
        have ht' : t.data.toList = nm.data.toList := by rw [ht]; rfl
        have hnd : nm.data.toList = Oct.lower s.data.toList := htx
        refine ⟨?_, ?_, (fun h => by cases h), fun _ h200 hal W hTW hsW => ?_⟩
        · rw [hz', ht']
          exact site_end _ _
        · rw [hz', hnd]
          exact site_ne _ _ hdm
        · have hzs : z.size ≤ 253 := by
            have := site_len nm.data.toList sx
            rw [← hz', e1] at this
            have e2 : z.data.toList.length = z.size := by simp
            omega
          have hc := site_any z false 0 A c sx W hTW (by decide) (by decide) (by omega) (by omega) hal hsW
          have e3 : (⟨(siteL ⟨z.data.toList, false, 0⟩ sx).toArray⟩ : ByteArray) = z := by
            show (⟨(siteN z.data.toList sx).toArray⟩ : ByteArray) = z
            rw [hz', siteN_site, ← hz']
          rw [e3] at hc
          exact hc
    obtain ⟨f1, f2, f3, f4⟩ := hfin
    have hts : t.size ≤ 253 := by
      have e2 : t.data.toList.length = t.size := by simp
      rw [htd] at e2; omega
    exact ends_go s A c sx w nm b a t z HT.out HA.out hsl HSZ.out H1.out H2.out H3.out f4 f1 f2 f3 hts
end Go.Proofs.YtknadldebedpiaaDoor
