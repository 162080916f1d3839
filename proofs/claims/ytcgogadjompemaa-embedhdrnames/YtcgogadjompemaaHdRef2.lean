/- The contracts of the document's Parts, Combined and Check. -/
import Derived.Test.YtcgogadjompemaaHdRef1
import Derived.Test.YtcgogadjompemaaHdPall
import Derived.Laws.AppendOwnNone
namespace Go.Proofs.Ytcgogadjompemaa
open Go.RowKit

theorem oneCells (ps : List (List UInt8)) : ∀ u ∈ ps.map Oct.strV, u.oneCell' = true := by
  intro u hu
  obtain ⟨p, _, rfl⟩ := List.mem_map.1 hu
  rfl
/-- Behind 'append(a, b...)': a list elder than a is still there. -/
theorem kept_elder {w w' : World} {b2 b3 : Nat} {v2 v3 : Value} {n2 n3 : Nat} {x2 x3 : List Value} (h2 : w.ownsRow b2 9 1 v2 n2 x2) (h3 : w.ownsRow b3 9 1 v3 n3 x3) (hlt : ∀ k, v2.ownBlock = some k → k < b3) (hg : w.grownBy w' v3.ownBlock) : w'.ownsRow b2 9 1 v2 n2 x2 := by
  refine h2.kept hg ?_
  cases e2 : v2.ownBlock with
  | none => exact .inl rfl
  | some k =>
    refine .inr fun e => ?_
    have a := hlt k e2
    have b := (h3.lt k e.symm).1
    omega
/-- 'append(a, b...)', a and b lists of texts of one's own; b may be nil. -/
theorem wpList_append_two {w : World} {ops : Array Oper} {rest : List Oper} {o : Oper} {a : Act} {Q : Exit → Act → World → Prop} (hgd : o.guard = none) (s x : Operand)
    (ho : o.op = .call { callee := .builtin .append, args := #[s, x], argTypes := #[26, 26] }) (b3 b4 : Nat) (v3 v4 : Value) (pa pb : List (List UInt8)) (hs : a.eval s = v3) (hx : a.eval x = v4)
    (h3 : w.ownsRow b3 9 1 v3 pa.length (pa.map Oct.strV)) (h4 : w.ownsRow b4 9 1 v4 pb.length (pb.map Oct.strV)) (hlen : pa.length + pb.length ≤ 100000000) (hb3 : b3 ≤ w.heap.size)
    (h : ∀ v' w', w'.ownsRow b3 9 1 v' (pa ++ pb).length ((pa ++ pb).map Oct.strV) → w.grownBy w' v3.ownBlock → wpList Try.prog ops Q rest (a.put o.dst v') w') : wpList Try.prog ops Q (o :: rest) a w := by
  obtain ⟨i0, hi, hz0, hz1, hz2⟩ := info_parts info_string
  rcases owns_view h4 with ⟨rfl, rfl⟩ | ⟨g, c, rfl, _, _, _, hc⟩
  · refine wpList_append_own_none hgd s x 26 ho b3 9 i0 1 Try.underlying26 hi v3 _ _ hs h3 hx ?_
    exact h v3 w (by simpa using h3) ⟨rfl, rfl, rfl, Nat.le_refl _, fun _ _ _ => rfl⟩
  · refine wpList_append_own _ hgd s x 26 ho b3 9 i0 (.string ⟨#[]⟩) 1 16 Try.underlying26 hi hz0 hz1 hz2 rfl (by decide) v3 _ _ hs h3 ⟨g, 0, none⟩ pb.length c (pb.map Oct.strV) hx (by simp) (h4.cells rfl) (oneCells pb) (by unfold maxLen; omega) (by omega) hb3 ?_
    intro v' w' a1 a2 _
    exact h v' w' (by simpa using a1) a2
theorem flat_len : ∀ (vs : List (List UInt8)), (∀ v ∈ vs, v.length ≤ 5000) → (vs.flatMap Hd.parts).length ≤ vs.length * 5001
  | [], _ => by simp
  | v :: vs, h => by
    have h1 := flat_len vs (fun x hx => h x (by simp [hx]))
    have h2 := parts_short v
    have h3 := h v (by simp)
    rw [List.flatMap_cons, List.length_append, List.length_cons]; omega
set_option maxHeartbeats 2000000 in
theorem rparts_any (A : Option Addr) (c n : Nat) (l : List Hd.Hdr) (nm : List UInt8) (w : World) (hn : l.length = n) (hl : SmallH l) (hnm : nm.length ≤ 10000) (hA : SeenH w A l) :
    Calls Try.prog 25 #[.slice A n c, .string (bA nm)] w (RetTexts w (Hd.partsL l nm)) := by
  have hcall := rvalues_any A c n l nm w hn hl hnm hA
  have hve : ∀ v ∈ Hd.vals l nm, v.length ≤ 5000 := Hd.vals_each (fun x hx => (hl.each x hx).2)
  have hvl := Hd.vals_len l nm
  have hll := hl.len
  have hPL : Hid (Hd.partsL l nm = (Hd.vals l nm).flatMap Hd.parts) := Lib.hid rfl
  obtain ⟨vs, hvs⟩ : ∃ vs, Hd.vals l nm = vs := ⟨_, rfl⟩
  rw [hvs] at hcall hve hvl hPL
  have HVE := Lib.hid hve
  clear hA hl hvs hve
  go_enter Try.func25, Try.ntmps25
  go_wp2_with fail
  refine hcall.mono ?_
  rintro e w1 ⟨v, rfl, hb1, hr1⟩
  clear hcall
  have hv : ∃ A2 c2, v = .slice A2 vs.length c2 := by
    rcases owns_view hr1 with ⟨rfl, h0⟩ | ⟨g, cap, rfl, _⟩
    · exact ⟨none, 0, by rw [h0]; rfl⟩
    · exact ⟨_, _, rfl⟩
  obtain ⟨A2, c2, rfl⟩ := hv
  have HR1 := Lib.hid hr1
  have HB1 := Lib.hid hb1
  clear hr1 hb1
  go_wp2
  go_loopw [6, 7] (fun ov i wr => ∃ k : Nat, k ≤ vs.length ∧ i = .int .i64 k ∧ Hid (wr.ownsRow w1.heap.size 9 1 ov ((vs.take k).flatMap Hd.parts).length (((vs.take k).flatMap Hd.parts).map Oct.strV)) ∧ Hid (Below w1.heap.size w1 wr)) (fun _ i _ => vs.length - (intOf i).toNat)
  case atStart => exact ⟨0, by omega, rfl, Lib.hid (World.ownsRow_nil _ _ _ _), Lib.hid (Below.refl _ _)⟩
  case round =>
    obtain ⟨k, hk, rfl, hrow, hbel⟩ := hrel
    by_cases hlt : k < vs.length
    · have hrv := HR1.out
      rcases owns_view hrv with ⟨e1, h0⟩ | ⟨g, cap, e1, _, hg, _, hc⟩
      · exfalso; rw [h0] at hlt; simp at hlt
      · cases e1
        obtain ⟨x, hx⟩ : ∃ x, vs[k] = x := ⟨_, rfl⟩
        have hxl : x.length ≤ 5000 := by rw [← hx]; exact HVE.out _ (List.getElem_mem hlt)
        have hce := hc k hlt
        rw [hx] at hce
        have hce2 : wr.cell? ⟨g, k, none⟩ = some (.string (bA x)) := (hbel.out.cell (p := ⟨g, k, none⟩) hg).trans hce
        have htk : Hid ((vs.take (k + 1)).flatMap Hd.parts = (vs.take k).flatMap Hd.parts ++ Hd.parts x) := Lib.hid (by rw [List.take_succ_eq_append_getElem hlt, hx]; simp)
        have hl1 := flat_len (vs.take k) (fun v hv => HVE.out v (List.mem_of_mem_take hv))
        have hl2 := parts_short x
        have hl3 : (vs.take k).length ≤ 1000 := by rw [List.length_take]; omega
        obtain ⟨acc, hacc⟩ : ∃ acc, (vs.take k).flatMap Hd.parts = acc := ⟨_, rfl⟩
        rw [hacc] at hrow htk hl1
        have hcall := fun W => rparts1_any (bA x) W (by rw [bA_size]; omega)
        have hsum : acc.length + (Hd.parts x).length ≤ 100000000 := by omega
        clear hrv hc hx hce hacc hl1 hl2 hl3
        go_wp2_with fail
        refine (hcall _).mono ?_
        rintro e w2 ⟨v2, rfl, hb2, hr2⟩
        clear hcall
        have hr2' : w2.ownsRow wr.heap.size 9 1 v2 (Hd.parts x).length ((Hd.parts x).map Oct.strV) := hr2
        have hro := owns_below hrow.out hb2
        have hs2 : w1.heap.size ≤ w2.heap.size := Nat.le_trans hbel.out.size hb2.size
        clear hr2
        go_wp2_with (at_builtin; refine wpList_append_two rfl _ _ rfl _ _ _ _ _ _ rfl rfl hro hr2' hsum hs2 ?_)
        intro v5 w5 ho5 hg5
        go_wp2_with fail
        exact ⟨⟨k + 1, by omega, by go_num, Lib.hid (by rw [htk.out]; simpa using ho5), Lib.hid ((hbel.out.trans (hb2.mono hbel.out.size)).grown hg5 hs2 (fun j hj => (hro.lt j hj).1))⟩, by simp [intOf]; omega⟩
    · obtain rfl : k = vs.length := by omega
      have hrow2 := hrow.out
      rw [List.take_of_length_le (Nat.le_refl _)] at hrow2
      have HR := Lib.hid hrow2
      clear hrow hrow2
      go_wp2_with fail
      go_ret
      exact ⟨_, rfl, Below.onto HB1.out hbel.out, by rw [hPL.out]; exact owns_base HR.out HB1.out.size⟩
end Go.Proofs.Ytcgogadjompemaa
