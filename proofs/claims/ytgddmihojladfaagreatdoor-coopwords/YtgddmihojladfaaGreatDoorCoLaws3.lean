/- The walk of CoopWords (written by mkcw.py). -/
import Derived.Test.YtgddmihojladfaaGreatDoorCoLaws2
import Derived.Test.YtgddmihojladfaaGreatDoorOctAll
namespace Go.Proofs.YtgddmihojladfaaGreatDoor
open Go.RowKit

namespace Co
theorem head_le (c : UInt8) (p : List UInt8) (ps : List (List UInt8)) : p.length ≤ (Oct.join c (p :: ps)).length := by
  cases ps <;> simp [Oct.join]
/-- What a line's word and its first part tell of both values. -/
theorem words_ways (v : List UInt8) : ∃ p ps, Oct.split semiI v = p :: ps ∧ p.length ≤ v.length ∧
    ((coopW (ofItem (Sf.parse (Oct.trim v))).1 false = 0 ∧ coepW (ofItem (Sf.parse (Oct.trim v))).1 = 0) ∨
     (coopW (ofItem (Sf.parse (Oct.trim v))).1 false = 2 ∧ coepW (ofItem (Sf.parse (Oct.trim v))).1 = 0 ∧ Oct.trim p = wSame) ∨
     (coopW (ofItem (Sf.parse (Oct.trim v))).1 false = 1 ∧ coepW (ofItem (Sf.parse (Oct.trim v))).1 = 0 ∧ Oct.trim p = wPop) ∨
     (coopW (ofItem (Sf.parse (Oct.trim v))).1 false = 0 ∧ coepW (ofItem (Sf.parse (Oct.trim v))).1 = 2 ∧ Oct.trim p = wReq) ∨
     (coopW (ofItem (Sf.parse (Oct.trim v))).1 false = 0 ∧ coepW (ofItem (Sf.parse (Oct.trim v))).1 = 1 ∧ Oct.trim p = wCred)) := by
  have hj := Oct.join_split 59 v
  rw [show (fun x : Int => x == ((59 : UInt8).toNat : Int)) = semiI from rfl] at hj
  have hpos := Oct.split_pos semiI v
  have hws := word_split v
  obtain ⟨W, hW⟩ : ∃ W, (ofItem (Sf.parse (Oct.trim v))).1 = W := ⟨_, rfl⟩
  rw [hW] at hws ⊢
  clear hW
  cases hs : Oct.split semiI v with
  | nil => rw [hs] at hpos; simp at hpos
  | cons p ps =>
    refine ⟨p, ps, rfl, ?_, ?_⟩
    · have h := head_le 59 p ps
      rw [hs] at hj
      rw [hj] at h
      exact h
    · rcases hws with rfl | ⟨⟨p', ps'⟩, h1, h2⟩
      · exact .inl ⟨coopW_nil false, coepW_nil⟩
      · rw [hs] at h1
        cases h1
        dsimp only at h2
        rw [h2]
        rcases coopW_ways W with ha | ⟨ha, rfl⟩ | ⟨ha, rfl⟩
        · rcases coepW_ways W with hb | ⟨hb, rfl⟩ | ⟨hb, rfl⟩
          · exact .inl ⟨ha, hb⟩
          · exact .inr (.inr (.inr (.inl ⟨ha, hb, rfl⟩)))
          · exact .inr (.inr (.inr (.inr ⟨ha, hb, rfl⟩)))
        · exact .inr (.inl ⟨ha, by decide, rfl⟩)
        · exact .inr (.inr (.inl ⟨ha, by decide, rfl⟩))
end Co
theorem rdy_none (w W : World) (h : Below w.heap.size w W) : RdyB w none [] [] W := ⟨h, fun h => absurd h (by simp), fun t ht => by simp at ht⟩
set_option maxHeartbeats 8000000 in
set_option maxRecDepth 100000 in
theorem walk_CoopWords (s : ByteArray) (w : World) (hs : s.size ≤ maxLen) : Calls Tryz.prog 6 #[.string s] w fun e w' => e = .returned (.bool true) ∧ Below w.heap.size w w' := by
  unfold maxLen at hs
  by_cases h4 : s.size ≤ 4000
  · have h4z : ¬ ((4000 : Int) < (s.size : Int)) := by omega
    obtain ⟨v, hv⟩ : ∃ v, s.data.toList = v := ⟨_, rfl⟩
    have hvl : v.length ≤ 4000 := by rw [← hv]; simpa using h4
    obtain rfl : s = bA v := by rw [← hv, bA_of]
    clear hv
    have sm1 : SmallH [⟨Co.nO, v⟩] := ⟨by simp, fun x hx => by rw [List.mem_singleton.1 hx]; exact ⟨show Co.nO.length ≤ 10000 by decide, by show v.length ≤ 5000; omega⟩⟩
    have sm2 : SmallH [⟨Co.nE, v⟩] := ⟨by simp, fun x hx => by rw [List.mem_singleton.1 hx]; exact ⟨show Co.nE.length ≤ 10000 by decide, by show v.length ≤ 5000; omega⟩⟩
    have c1 := fun W g (h : SeenH W (some ⟨g, 0, none⟩) [⟨Co.nO, v⟩]) => coop_any (some ⟨g, 0, none⟩) 1 1 [⟨Co.nO, v⟩] true W rfl sm1 h
    have c2 := fun W g (h : SeenH W (some ⟨g, 0, none⟩) [⟨Co.nE, v⟩]) => coep_any (some ⟨g, 0, none⟩) 1 1 [⟨Co.nE, v⟩] true W rfl sm2 h
    simp only [Co.coop_one] at c1
    simp only [Co.coep_one] at c2
    obtain ⟨p, ps, hsp, hpl, hways⟩ := Co.words_ways v
    have c3 := fun W => split_any (bA v) 59 W (by rw [bA_size]; omega)
    have hsp' : Oct.split (fun x => x == 59) (bA v).data.toList = p :: ps := hsp
    rw [hsp'] at c3
    have hpm : p.length ≤ maxLen := by unfold maxLen; omega
    have c4 := fun W => otrim_any (bA p) W (by rw [bA_size]; exact hpm)
    obtain ⟨T, hT⟩ : ∃ T, Oct.trim p = T := ⟨_, rfl⟩
    have c4' : ∀ W, Calls Tryz.prog 22 #[.string (bA p)] W fun e w' => e = .returned (.string (bA T)) ∧ W = w' := fun W => by rw [← hT]; exact c4 W
    rw [hT] at hways
    obtain ⟨a, ha⟩ : ∃ a, Co.coopW (Co.ofItem (Sf.parse (Oct.trim v))).1 false = a := ⟨_, rfl⟩
    obtain ⟨b, hb⟩ : ∃ b, Co.coepW (Co.ofItem (Sf.parse (Oct.trim v))).1 = b := ⟨_, rfl⟩
    obtain ⟨tt, hto⟩ : ∃ tt, (Co.ofItem (Sf.parse (Oct.trim v))).2 = tt := ⟨_, rfl⟩
    rw [ha, hb] at hways
    simp only [ha, hto] at c1
    simp only [hb, hto] at c2
    unfold plV plC at c1 c2
    dsimp only at c1 c2
    have C1 := Lib.hid c1; have C2 := Lib.hid c2; have C3 := Lib.hid c3; have C4 := Lib.hid c4'
    have HWY := Lib.hid hways
    clear c1 c2 c3 c4 c4' hways ha hb hto hT hsp hsp' hpl hpm sm1 sm2 hs
    have hvz : ¬ ((4000 : Int) < (v.length : Int)) := by omega
    clear h4 h4z hvl
    go_enter Tryz.func6, Tryz.ntmps6
    go_wp2_with fail
    refine (awake8_any _).mono ?_
    rintro e w1 ⟨rfl, hb1⟩
    go_wp2_with fail
    have r1 := (rdy_none w w1 hb1).on ((Below.refl _ w1).alloc (Nat.le_refl _) (.cells #[.string ⟨#[99, 114, 111, 115, 115, 45, 111, 114, 105, 103, 105, 110, 45, 111, 112, 101, 110, 101, 114, 45, 112, 111, 108, 105, 99, 121]⟩, .string (bA v)] 35))
    refine (C1.out _ _ (seen_block (World.alloc_heap_new _ _) rfl)).mono ?_
    rintro e w2 ⟨rfl, hb2⟩
    have r2 := (r1.on hb2).box 28 ⟨a, tt, 0, []⟩
    clear r1 hb1 hb2 C1
    unfold plC at r2
    go_wp2_with fail
    refine (C2.out _ _ (seen_block (new_at _ _ _) rfl)).mono ?_
    rintro e w3 ⟨rfl, hb3⟩
    have r3 := ((r2.on ((Below.refl _ _).alloc (Nat.le_refl _) _)).on hb3).box 30 ⟨b, tt, 0, []⟩
    clear r2 hb3 C2
    unfold plC at r3
    go_wp2_with fail
    refine (C3.out _).mono ?_
    rintro e w4 ⟨v4, rfl, hb4, ho4⟩
    have r4 := r3.on hb4
    rcases owns_view ho4 with ⟨_, e0⟩ | ⟨g, cap, rfl, _, hg, _, hc⟩
    · cases e0
    have d0 : w4.cell? ⟨g, 0, none⟩ = some (.string (bA p)) := hc 0 (by simp)
    have hlen : (p :: ps).length = ps.length + 1 := rfl
    rw [hlen]
    clear r3 hb4 ho4 hc hlen C3
    have k1 := r4.boxes _ (.head _)
    have k2 := r4.boxes _ (.tail _ (.head _))
    dsimp only at k1 k2
    have x0 := k1.c 0; have x1 := k1.c 1; have x2 := k1.c 2; have x3 := k1.c 3
    have y0 := k2.c 0; have y1 := k2.c 1; have y2 := k2.c 2; have y3 := k2.c 3
    have HB := Lib.hid r4.b
    unfold plC at x0 x1 x2 x3 y0 y1 y2 y3
    clear k1 k2 r4
    have hps0 : ¬ ((ps.length : Int) + 1 = 0) := by omega
    have hps1 : (0 : Int) < (ps.length : Int) + 1 := by omega
    go_wp2_with fail
    refine (C4.out _).mono ?_
    rintro e w5 ⟨rfl, rfl⟩
    clear C4
    rcases HWY.out with ⟨rfl, rfl⟩ | ⟨rfl, rfl, rfl⟩ | ⟨rfl, rfl, rfl⟩ | ⟨rfl, rfl, rfl⟩ | ⟨rfl, rfl, rfl⟩
    · clear HWY
      go_wp2_with fail
      all_goals
        go_ret
        exact ⟨by simp, HB.out⟩
    · clear HWY
      unfold Co.wSame
      go_wp2_with fail
      all_goals
        go_ret
        exact ⟨by simp, HB.out⟩
    · clear HWY
      unfold Co.wPop
      go_wp2_with fail
      all_goals
        go_ret
        exact ⟨by simp, HB.out⟩
    · clear HWY
      unfold Co.wReq
      go_wp2_with fail
      all_goals
        go_ret
        exact ⟨by simp, HB.out⟩
    · clear HWY
      unfold Co.wCred
      go_wp2_with fail
      all_goals
        go_ret
        exact ⟨by simp, HB.out⟩
  · have h4z : (4000 : Int) < (s.size : Int) := by omega
    clear h4
    go_enter Tryz.func6, Tryz.ntmps6
    go_wp2_with fail
    refine (awake8_any _).mono ?_
    rintro e w1 ⟨rfl, hb1⟩
    go_wp2_with fail
    go_ret
    exact ⟨rfl, hb1⟩
end Go.Proofs.YtgddmihojladfaaGreatDoor
