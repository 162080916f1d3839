/- The contracts of headers.Parts and Combined. -/
import Derived.Test.YtcgogadjompemaaHdColl
import Derived.Test.YtcgogadjompemaaHdParts
import Derived.Test.YtcgogadjompemaaShelf
namespace Go.Proofs.Ytcgogadjompemaa
open Go.RowKit Go.Shelf
attribute [local go_sem] Oper.semAt_some

theorem owns_base0 {w : World} {base base' : Nat} {e : TypeId} {size : Nat} {v : Value} {n : Nat} {xs : List Value} (h : w.ownsRow base e size v n xs) (hb : base' ≤ base) : w.ownsRow base' e size v n xs := owns_base h hb
/-- The parts that come of some values. -/
def prt (pre : List Vl) : List (List UInt8) := (pre.map (·.1)).flatMap Hd.parts
theorem prt_snoc (pre : List Vl) (x : Vl) : prt (pre ++ [x]) = prt pre ++ Hd.parts x.1 := by unfold prt; simp
theorem parts_short (s : List UInt8) : (Hd.parts s).length ≤ s.length + 1 := by
  have := Hd.partsF_len s false false []
  have h2 : s.countP (fun b => b == 44) ≤ s.length := List.countP_le_length
  unfold Hd.parts; omega
theorem prt_len : ∀ (pre : List Vl), (prt pre).length ≤ pre.length * 5001
  | [] => by simp [prt]
  | x :: pre => by
    have h := prt_len pre
    have h2 := parts_short x.1
    have h3 := x.2
    have e : prt (x :: pre) = Hd.parts x.1 ++ prt pre := by unfold prt; simp
    rw [e, List.length_append, List.length_cons]; omega
set_option maxRecDepth 100000 in
set_option maxHeartbeats 4000000 in
theorem parts_any (A : Option Addr) (c n : Nat) (l : List Hd.Hdr) (nm : List UInt8) (w : World) (hn : l.length = n) (hl : SmallH l) (hnm : nm.length ≤ 10000) (hA : SeenH w A l) :
    Calls Try.prog 19 #[.slice A n c, .string (bA nm)] w (RetTexts w (Hd.partsL l nm)) := by
  subst hn
  refine (callsIn_wide (n := 9)).1 ?_
  have HA := Lib.hid hA
  have hAg : Hid (l.length ≠ 0 → ∀ a, A = some a → a.block < w.heap.size) := Lib.hid fun h0 a e => by
    obtain ⟨g, o, e2, hg, _⟩ := hA (by omega)
    rw [e] at e2; cases e2; exact hg
  clear hA
  refine callsIn_of_wp_marks Try.func19 rfl trivial ?_ rfl
  simp only [Try.ntmps19, List.size_toArray, List.length_cons, List.length_nil, Nat.reduceAdd, Nat.reduceSub, Array.replicate_succ, Array.replicate_zero, List.push_toArray, List.append_toArray, List.nil_append, List.cons_append]
  gi_wp2_with fail
  refine ⟨trivial, ?_⟩
  refine (callsIn_wide.2 (named_any A l.length c (bA nm) _)).mono ?_
  rintro e w' ⟨rfl, rfl⟩
  have b0 := ((Boxed.new w 26 (.slice none 0 0)).alloc (.cells #[.slice A l.length c] 23)).alloc (.cells #[.string (bA nm)] 9)
  have b1 := (Boxed.new (w.alloc (.cells #[.slice none 0 0] 26)) 23 (.slice A l.length c)).alloc (.cells #[.string (bA nm)] 9)
  have b2 := Boxed.new ((w.alloc (.cells #[.slice none 0 0] 26)).alloc (.cells #[.slice A l.length c] 23)) 9 (.string (bA nm))
  have hB0 : Below w.heap.size w (((w.alloc (.cells #[.slice none 0 0] 26)).alloc (.cells #[.slice A l.length c] 23)).alloc (.cells #[.string (bA nm)] 9)) := (((Below.refl _ w).alloc (Nat.le_refl _) _).alloc (by simp) _).alloc (by simp; omega) _
  simp only [World.size_alloc] at b1 b2
  obtain ⟨w1, hw1⟩ : ∃ w1, ((w.alloc (.cells #[.slice none 0 0] 26)).alloc (.cells #[.slice A l.length c] 23)).alloc (.cells #[.string (bA nm)] 9) = w1 := ⟨_, rfl⟩
  have hs1 : w1.heap.size = w.heap.size + 3 := by rw [← hw1]; simp
  rw [hw1] at b0 b1 b2 hB0 ⊢
  clear hw1
  have HB0 := Lib.hid hB0
  have hseq : SeqStopsK Fence.wide (9 - 1) Try.prog 35 #[.pointer (some ⟨w.heap.size + 1, 0, none⟩), .pointer (some ⟨w.heap.size + 1 + 1, 0, none⟩)] vlV (Kept fun b => b = w.heap.size ∨ w1.heap.size ≤ b) (fun xs => xs.map (·.1) = Hd.vals l nm) (fun _ => True) l.length w1 :=
    named1_stops 8 (by decide) (w.heap.size + 1) (w.heap.size + 1 + 1) A c l nm hl hnm _ w1 b1 b2 (HA.out.below hB0) (by omega) (fun h0 a e => by have := hAg.out (by omega) a e; omega)
  have hll := hl.len
  clear hB0 b1 b2
  gi_wp2_with fail
  refine wpIn_rangeFunc_ownF rfl (by decide) (gf := 35) (lb := #[.pointer (some ⟨w.heap.size + 1, 0, none⟩), .pointer (some ⟨w.heap.size + 1 + 1, 0, none⟩)]) rfl trivial (enters_of Try.func35 (by kernel_rfl) rfl) hseq Kept.trans (fun W l o o' _ hl ho _ => Kept.putObj W l o o' hl ho) (Below.refl _ _) (fun _ => rfl)
    (fun pre W => (∃ v, Boxed W w.heap.size 26 v ∧ W.ownsRow w1.heap.size 9 1 v (prt pre).length ((prt pre).map Oct.strV) ∧ True) ∧ Below w.heap.size w1 W)
    (fun c pre W => False)
    (OwnFrom.and (Own.from (holdsRow_own w1.heap.size w.heap.size 26 9 1 (fun pre : List Vl => (prt pre).length) (fun pre => (prt pre).map Oct.strV) (fun _ _ => True)) _) (ownFrom_below (by omega) (by omega)))
    (fun c s A B row h _ _ => h.elim)
    ⟨⟨_, b0, World.ownsRow_nil _ _ _ _, trivial⟩, Below.refl _ _⟩
    (fun x => { tmps := #[.slice A l.length c, .string (bA nm), undef, undef, .slice none 0 0, .pointer (some ⟨w.heap.size, 0, none⟩), .string (bA x.1), .slice A l.length c, .string (bA nm), .func (.func 35) #[] #[.pointer (some ⟨w.heap.size + 1, 0, none⟩), .pointer (some ⟨w.heap.size + 1 + 1, 0, none⟩)], .string (bA x.1), undef, undef, undef, undef], defers := [] }) ?assign ?body ?done ?stop
  case assign =>
    intro l x W K hK
    unfold vlV
    gi_wp2
    exact hK
  case body =>
    rintro ly pre x W ⟨⟨v, hv, hrow, _⟩, hB⟩ hlen
    have hc := hv.cell; have hf := hv.frozen
    have hBs := hB.size
    have hpl := prt_len pre
    have hcall := appendParts_any w1.heap.size v (prt pre) (bA x.1) W (by rw [bA_size]; have := x.2; omega) (by omega) hBs hrow
    have HV := Lib.hid hv; have HB := Lib.hid hB
    clear hrow hv hB
    gi_wp2_with fail
    refine ⟨trivial, (CallsIn.inRound ly (callsIn_wide.2 hcall)).mono ?_⟩
    rintro e W2 ⟨v2, rfl, hr2, hb2, hk2⟩
    have hv2 : Boxed W2 w.heap.size 26 v := (hb2.block w.heap.size (by omega)).trans HV.out
    have hc2 := hv2.cell; have hf2 := hv2.frozen
    obtain ⟨A2, n2, c2, rfl⟩ : ∃ A2 n2 c2, v2 = .slice A2 n2 c2 := by
      rcases hr2.2 with ⟨rfl, _⟩ | ⟨g, cap, cur, rfl, _⟩ <;> exact ⟨_, _, _, rfl⟩
    have e2 : prt pre ++ Hd.parts (bA x.1).data.toList = prt (pre ++ [x]) := (prt_snoc pre x).symm
    rw [e2] at hr2
    clear hcall hc hf e2
    gi_wp2_with fail
    refine ⟨hk2.trans (KeepsOthers.setCell _ _ _), (Kept.of_belowAt hb2 (fun b hb => by omega)).trans (Kept.setCell _ _ _ (.inl rfl)), ⟨_, hv2.set _, hr2.kept (grownBy_setCell' W2 w.heap.size _) (.inr (hv2.not_row (by decide) hr2).symm), trivial⟩, (HB.out.trans (hb2.mono (by omega))).setCell (p := ⟨w.heap.size, 0, none⟩) (Nat.le_refl _) _⟩
  case done =>
    rintro D ys W hD hR ⟨⟨v, hv, hrow, _⟩, hB⟩ hK
    have hc := hv.cell; have hf := hv.frozen
    have hBs := hB.size
    gi_wp2_with fail
    refine ⟨by simp, .inl ⟨_, _, rfl, run_takeDeferred hK, ?_⟩⟩
    have e1 : prt ys = Hd.partsL l nm := by unfold prt Hd.partsL; rw [hR]
    rw [e1] at hrow
    refine ⟨v, ?_, v, rfl, (HB0.out.trans hB).trans (belowK_b (w := w) (Nat.le_refl _) W D _ _ (by omega) hK rfl rfl), owns_base (ownsRow_putObj hrow _ hK rfl) (by omega)⟩
    simp [results, Try.results19, go_sem]
  case stop =>
    rintro D c pre W _ _ h _
    exact h.elim

/-! ### Combined -/
theorem jn_lib (sep : List UInt8) (ts : List (List UInt8)) : Lib.join ts sep = Hd.jn sep ts := by
  cases ts with
  | nil => rfl
  | cons a l => rw [Lib.join_cons, Lib.joinTail, Hd.jn]; congr 1
/-- strings.Join of texts of one's own. -/
theorem joinT_any (sep : List UInt8) (v : Value) (ts : List (List UInt8)) (base n : Nat) (w : World) (h : w.ownsRow base 9 1 v n (ts.map Oct.strV)) (hn : n = ts.length) (hts : ts.length ≤ 100000) (hlen : (Hd.jn sep ts).length ≤ 140737488355327) :
    Calls Try.prog 32 #[v, .string (bA sep)] w fun e w' => e = .returned (.string (bA (Hd.jn sep ts))) ∧ Below w.heap.size w w' := by
  subst hn
  rcases owns_view h with ⟨rfl, rfl⟩ | ⟨g, cap, rfl, _, hg, _, hc⟩
  · refine (Try.strings_Join_none none 0 (bA sep) w).mono ?_
    rintro e w' ⟨rfl, rfl⟩
    exact ⟨rfl, Below.refl _ _⟩
  · have hm : (ts.map bA).map (·.data.toList) = ts := by rw [List.map_map]; exact List.map_id' ts
    have hl : (ts.map bA).length = ts.length := List.length_map _
    have hcap : ts.length ≤ cap := by
      rcases h.2 with ⟨h1, _⟩ | ⟨g', cap', cur, h1, _, _, h3, _⟩
      · cases h1
      · cases h1; exact h3
    have := Try.strings_Join g 0 cap (ts.map bA) (bA sep) w (fun j x hx => by
      rw [List.getElem?_map] at hx
      have hj : j < ts.length := by
        rcases Nat.lt_or_ge j ts.length with h | h
        · exact h
        · rw [List.getElem?_eq_none h] at hx; cases hx
      rw [List.getElem?_eq_getElem hj] at hx
      cases hx
      rw [Nat.zero_add]; exact hc j hj) hg (by rw [hl]; omega) (by rw [hl]; exact hcap) (by rw [hm, show (bA sep).data.toList = sep from rfl, jn_lib]; omega)
    rw [hl] at this
    refine this.mono ?_
    rintro e w' ⟨rfl, hw⟩
    exact ⟨by rw [hm, show (bA sep).data.toList = sep from rfl, jn_lib], hw⟩
theorem flat_le (sep : List UInt8) (k : Nat) : ∀ (l : List (List UInt8)), (∀ t ∈ l, t.length ≤ k) → (l.flatMap fun b => sep ++ b).length ≤ l.length * (k + sep.length)
  | [], _ => by simp
  | b :: l, h => by
    have h1 := h b (by simp)
    have ih := flat_le sep k l (fun t ht => h t (by simp [ht]))
    rw [List.flatMap_cons, List.length_append, List.length_append, List.length_cons, Nat.succ_mul]; omega
theorem jn_le (sep : List UInt8) (k : Nat) (ts : List (List UInt8)) (h : ∀ t ∈ ts, t.length ≤ k) : (Hd.jn sep ts).length ≤ ts.length * (k + sep.length) := by
  cases ts with
  | nil => simp [Hd.jn]
  | cons a l =>
    have h1 := h a (by simp)
    have := flat_le sep k l (fun t ht => h t (by simp [ht]))
    rw [Hd.jn, List.length_append, List.length_cons, Nat.succ_mul]; omega
theorem comb_le {l : List Hd.Hdr} (hl : SmallH l) (nm : List UInt8) : (Hd.comb l nm).length ≤ 5002000 := by
  have h1 : (Hd.comb l nm).length ≤ (Hd.vals l nm).length * 5002 := jn_le [44, 32] 5000 (Hd.vals l nm) (Hd.vals_each (fun x hx => (hl.each x hx).2))
  have h2 := Hd.vals_len l nm
  have h3 := hl.len
  omega
theorem has_len (l : List Hd.Hdr) (nm : List UInt8) : Hd.hasB l nm = decide (0 < (Hd.vals l nm).length) := by
  unfold Hd.hasB
  cases Hd.vals l nm with
  | nil => rfl
  | cons a r => simp
set_option maxHeartbeats 1000000 in
theorem combined_any (A : Option Addr) (c n : Nat) (l : List Hd.Hdr) (nm : List UInt8) (w : World) (hn : l.length = n) (hl : SmallH l) (hnm : nm.length ≤ 10000) (hA : SeenH w A l) :
    Calls Try.prog 20 #[.slice A n c, .string (bA nm)] w fun e w' => e = .returned (.tuple #[.string (bA (Hd.comb l nm)), .bool (Hd.hasB l nm)]) ∧ Below w.heap.size w w' := by
  have hcall := values_any A c n l nm w hn hl hnm hA
  have hcl := comb_le hl nm
  have hvl := Hd.vals_len l nm
  have hll := hl.len
  have HH := Lib.hid (has_len l nm)
  clear hA hl
  go_enter Try.func20, Try.ntmps20
  go_wp2_with fail
  refine hcall.mono ?_
  rintro e w1 ⟨v, rfl, hb1, hr1⟩
  obtain ⟨A2, c2, rfl⟩ : ∃ A2 c2, v = .slice A2 (Hd.vals l nm).length c2 := by
    rcases owns_view hr1 with ⟨rfl, h0⟩ | ⟨g, cap, rfl, _⟩
    · exact ⟨none, 0, by rw [h0]; rfl⟩
    · exact ⟨_, _, rfl⟩
  have hj := joinT_any [44, 32] _ (Hd.vals l nm) _ _ w1 hr1 rfl (by omega) (by unfold Hd.comb at hcl; omega)
  obtain ⟨cs, hcs⟩ : ∃ cs, Hd.jn [44, 32] (Hd.vals l nm) = cs := ⟨_, rfl⟩
  rw [hcs] at hj
  have HCS := Lib.hid hcs
  obtain ⟨m, hm⟩ : ∃ m, (Hd.vals l nm).length = m := ⟨_, rfl⟩
  rw [hm] at hj ⊢
  have HM := Lib.hid hm
  clear hcall hr1 hcs hm
  go_wp2_with fail
  refine hj.mono ?_
  rintro e w2 ⟨rfl, hb2⟩
  clear hj
  go_wp2_with fail
  go_ret2
  exact ⟨by rw [HH.out, HM.out, show Hd.comb l nm = cs from HCS.out]; rfl, Below.onto hb1 hb2⟩
end Go.Proofs.Ytcgogadjompemaa
