/- The contract of the closure that reads a field of a head. -/
import Derived.Test.YtgddmihojladfaaGreatDoorCoEnd
import Derived.Deep.RegionHeld3
namespace Go.Proofs.YtgddmihojladfaaGreatDoor
open Go.RowKit

theorem token_len {s : List UInt8} {x : Sf.Itm} (h : Sf.parse s = some x) (h4 : x.kind = 4) : x.text.length ≤ s.length := by
  obtain ⟨v, hv, _, _, hl⟩ := Sf.parse_ok h
  rw [h4] at hv
  unfold Sf.vtext at hv
  split at hv
  · cases hv
  · rw [if_neg (by decide), if_neg (by decide), if_neg (by decide), if_neg (by decide), if_pos rfl] at hv
    split at hv
    · cases hv
      rw [List.length_append] at hl
      omega
    · cases hv
theorem parse_le {s : List UInt8} {x : Sf.Itm} (h : Sf.parse s = some x) : s.length ≤ 4000 := (Sf.parse_ways h).1
/-- What stands while the two answers are made. -/
structure RdyR (w0 : World) (m : Value) (f : List UInt8 → Int) (x : Sf.Itm) (A : Option Addr) (c B : Nat) (W : World) : Prop where
  b : Below w0.heap.size w0 W
  box : IBox W B 4 x.n x.text A c x.params
  map : LooksUp W m f
theorem RdyR.on {w0 : World} {m : Value} {f : List UInt8 → Int} {x : Sf.Itm} {A : Option Addr} {c B : Nat} {W W' : World} (h : RdyR w0 m f x A c B W) (hb : Below W.heap.size W W') : RdyR w0 m f x A c B W' :=
  ⟨Below.onto h.b hb, h.box.keep hb, h.map.below hb⟩
theorem RdyR.drew {w0 : World} {m : Value} {f : List UInt8 → Int} {x : Sf.Itm} {A : Option Addr} {c B : Nat} {W : World} (h : RdyR w0 m f x A c B W) : RdyR w0 m f x A c B W.drew := h.on (Below.refl _ W).drew
theorem RdyR.all {w0 : World} {m : Value} {f : List UInt8 → Int} {x : Sf.Itm} {A : Option Addr} {c B : Nat} {W : World} (h : RdyR w0 m f x A c B W) (hl : x.text.length ≤ maxLen) {y : Int} (hy : f x.text = y) :
    W.cell? ⟨B, 2, none⟩ = some (.string (bA x.text)) ∧ W.cell? ⟨B, 3, none⟩ = some (.slice A x.params.length c) ∧ (Instr.lookup 47 m (.string (bA x.text)) false).run Tryz.prog W = .ok (.int .i64 y) W ∧ RdyR w0 m f x A c B W := by
  obtain ⟨_, _, c2, c3⟩ := h.box.cells
  exact ⟨c2, c3, by rw [← hy]; exact h.map.run x.text hl, h⟩
theorem RdyR.end {w0 : World} {m : Value} {f : List UInt8 → Int} {x : Sf.Itm} {A : Option Addr} {c B : Nat} {W : World} (h : RdyR w0 m f x A c B W) (hk : (Sf.keys x.params).Nodup) :
    Calls Tryz.prog 43 #[.slice A x.params.length c] W fun e w' => e = .returned (.string (bA (Co.endp x.params))) ∧ Below W.heap.size W w' :=
  endpoint_any A c x.params.length x.params W rfl (let ⟨_, hr⟩ := h.box.row; own_len4 hr) hk h.box.seen
set_option maxHeartbeats 1000000 in
set_option maxRecDepth 20000 in
theorem read_any (A : Option Addr) (c n : Nat) (l : List Hd.Hdr) (nm : List UInt8) (m : Value) (f : List UInt8 → Int) (B : Nat) (w : World) (hn : l.length = n) (hl : SmallH l) (hnm : nm.length ≤ 10000) (hA : SeenH w A l)
    (hB : Boxed w B 23 (.slice A n c)) (hm : LooksUp w m f) (h0 : f [] = 0) :
    Calls Tryz.prog 40 #[.string (bA nm), m, .pointer (some ⟨B, 0, none⟩)] w fun e w' => e = .returned (.tuple #[.int .i64 (f (Co.word l nm).1), .string (bA (Co.word l nm).2)]) ∧ Below w.heap.size w w' := by
  have h1 := combined_any A c n l nm w hn hl hnm hA
  have hw := Co.word_comb l nm
  obtain ⟨s, hs⟩ : ∃ s, Hd.comb l nm = s := ⟨_, rfl⟩
  obtain ⟨b, hb⟩ : ∃ b, Hd.hasB l nm = b := ⟨_, rfl⟩
  obtain ⟨W, hW⟩ : ∃ W, Co.word l nm = W := ⟨_, rfl⟩
  obtain ⟨y, hy⟩ : ∃ y, f W.1 = y := ⟨_, rfl⟩
  obtain ⟨z, hz⟩ : ∃ z, W.2 = z := ⟨_, rfl⟩
  rw [hs, hb] at h1
  rw [hs, hW] at hw
  rw [hW, hy, hz]
  have cB := hB.cell
  have H1 := Lib.hid h1; have HM := Lib.hid hm
  clear h1 hs hb hl hA hm hB hW
  rcases ho : Sf.parse s with _ | x
  · rw [ho] at hw
    obtain rfl : W = ([], []) := hw
    obtain rfl : y = 0 := hy.symm.trans h0
    obtain rfl : z = [] := hz.symm
    have H2 := Lib.hid (parse_none ho)
    clear ho hy hz
    go_enter Tryz.func40, Tryz.ntmps40
    go_wp2_with fail
    refine H1.out.mono ?_
    rintro e w1 ⟨rfl, hb1⟩
    go_wp2_with fail
    refine (H2.out _).mono ?_
    rintro e w2 ⟨rfl, hb2⟩
    go_wp2_with fail
    go_ret2
    exact ⟨rfl, below_al (Below.onto hb1 hb2) _⟩
  · rw [ho] at hw
    have hlen := parse_le ho
    have hk := Co.parse_keys ho
    have hx4 : x.kind = 4 → x.text.length ≤ maxLen := fun e => by have := token_len ho e; unfold maxLen; omega
    have H2 := Lib.hid (parse_some ho)
    clear ho
    have HK := Lib.hid hk
    clear hk hlen
    by_cases h4 : x.kind = 4
    · have ew : W = (x.text, Co.endp x.params) := by rw [hw]; unfold Co.ofItem; dsimp only; rw [if_pos h4]
      subst ew
      have HL : Hid (f x.text = y ∧ x.text.length ≤ maxLen) := Lib.hid ⟨hy, hx4 h4⟩
      dsimp only at hz
      subst hz
      clear hx4 hy
      go_enter Tryz.func40, Tryz.ntmps40
      go_wp2_with fail
      refine H1.out.mono ?_
      rintro e w1 ⟨rfl, hb1⟩
      go_wp2_with fail
      refine (H2.out _).mono ?_
      rintro e w2 ⟨A2, c2, rfl, hb2, hr⟩
      rw [h4]
      have hb3 := below_al (Below.onto hb1 hb2) (.cells (iC 4 x.n x.text (.slice A2 x.params.length c2)) 66)
      have hr0 : RdyR w m f x A2 c2 w2.heap.size (w2.alloc (.cells (iC 4 x.n x.text (.slice A2 x.params.length c2)) 66)) := ⟨hb3, IBox.new (k := 4) (n := x.n) (t := x.text) hr, HM.out.below hb3⟩
      clear hr hb3 hb1 hb2
      unfold iC at hr0
      go_wp2_with fail
      go_region_held3 (fun W => W.cell? ⟨w2.heap.size, 2, none⟩ = some (.string (bA x.text)) ∧ W.cell? ⟨w2.heap.size, 3, none⟩ = some (.slice A2 x.params.length c2) ∧ (Instr.lookup 47 m (.string (bA x.text)) false).run Tryz.prog W = .ok (.int .i64 y) W ∧ RdyR w m f x A2 c2 w2.heap.size W)
        (first
          | exact hr0.all HL.out.2 HL.out.1
          | exact hr0.drew.all HL.out.2 HL.out.1
          | exact hr3.all HL.out.2 HL.out.1)
        (first
          | (go_at_call 43; refine (hr0.drew.end HK.out).mono ?_; rintro e w3 ⟨rfl, hb3⟩; have hr3 := hr0.drew.on hb3))
      all_goals
        rename_i hHeld
        clear hHeld
        try go_wp2_with fail
        go_ret2
        exact ⟨rfl, hr3.b⟩
    · have ew : W = ([], []) := by rw [hw]; unfold Co.ofItem; dsimp only; rw [if_neg h4]
      subst ew
      obtain rfl : y = 0 := hy.symm.trans h0
      obtain rfl : z = [] := hz.symm
      have h4b : (x.kind != 4) = true := by simpa using h4
      clear hx4 hw hy hz
      go_enter Tryz.func40, Tryz.ntmps40
      go_wp2_with fail
      refine H1.out.mono ?_
      rintro e w1 ⟨rfl, hb1⟩
      go_wp2_with fail
      refine (H2.out _).mono ?_
      rintro e w2 ⟨A2, c2, rfl, hb2, hr⟩
      go_wp2_with fail
      all_goals first
        | (exfalso; simp_all; done)
        | (go_ret2; exact ⟨rfl, below_al (Below.onto hb1 hb2) _⟩)
end Go.Proofs.YtgddmihojladfaaGreatDoor
