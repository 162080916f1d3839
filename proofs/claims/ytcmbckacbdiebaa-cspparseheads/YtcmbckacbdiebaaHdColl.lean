/- The contracts of slices.AppendSeq and Collect at the function that headers.named hands back, and of headers.Values. -/
import Derived.Maps.AppendAt
import Derived.Test.YtcmbckacbdiebaaHdIter
import Derived.Test.YtcmbckacbdiebaaOctSplit
namespace Go.Proofs.Ytcmbckacbdiebaa
open Go.RowKit Go.Shelf
attribute [local go_sem] Oper.semAt_some

theorem strV_is (l : List UInt8) : Oct.strV l = .string (bA l) := rfl
set_option maxRecDepth 100000 in
set_option maxHeartbeats 2000000 in
/-- slices.AppendSeq(nil, seq), seq a function that is ranged over and keeps whatever lies outside the call's own blocks. -/
theorem appendSeq_in (gf : Nat) (lb : Array Value) (eg : ∀ args w, (callFunc gf args).run Try.prog w = .ok (.enter gf args) w) (n N : Nat) (hn : 2 ≤ n) (hN : N ≤ 100000) (R : List Vl → Prop) (w : World)
    (hseq : SeqStopsK Fence.wide (n - 1) Try.prog gf lb vlV (Kept fun b => w.heap.size ≤ b) R (fun _ => True) N w) :
    CallsIn Fence.wide n Try.prog 47 #[.slice none 0 0, .func (.func gf) #[] lb] w fun e w' => ∃ (v : Value) (xs : List Vl), e = .returned v ∧ R xs ∧ w'.ownsRow w.heap.size 9 1 v xs.length ((xs.map (·.1)).map Oct.strV) ∧ Below w.heap.size w w' := by
  have h1 : 1 ≤ n := by omega
  have hN' := hN
  obtain ⟨i0, hi, hz0, hz1, hz2⟩ := info_parts info_string
  have HI := Lib.hid hi; have HZ0 := Lib.hid hz0; have HZ1 := Lib.hid hz1; have HZ2 := Lib.hid hz2
  clear hi hz0 hz1 hz2
  refine callsIn_of_wp_marks Try.func47 rfl trivial ?_ rfl
  simp only [Try.ntmps47, List.size_toArray, List.length_cons, List.length_nil, Nat.reduceAdd, Nat.reduceSub, Array.replicate_succ, Array.replicate_zero, List.push_toArray, List.append_toArray, List.nil_append, List.cons_append]
  gi_wp2_with fail
  have c0 := Boxed.new w 24 (.slice none 0 0)
  have hB0 : Below w.heap.size w (w.alloc (.cells #[.slice none 0 0] 24)) := (Below.refl _ w).alloc (Nat.le_refl _) _
  refine wpIn_rangeFunc_ownF rfl h1 (gf := gf) (lb := lb) rfl trivial eg hseq Kept.trans (fun W l o o' _ hl ho _ => Kept.putObj W l o o' hl ho) hB0 (fun _ => rfl)
    (fun pre W => (∃ v, Boxed W w.heap.size 24 v ∧ W.ownsRow w.heap.size 9 1 v pre.length ((pre.map (·.1)).map Oct.strV) ∧ True) ∧ Below w.heap.size w W)
    (fun c pre W => False)
    (OwnFrom.and (Own.from (holdsRow_own w.heap.size w.heap.size 24 9 1 (fun pre : List Vl => pre.length) (fun pre => (pre.map (·.1)).map Oct.strV) (fun _ _ => True)) _) (ownFrom_below (Nat.le_refl _) (by simp)))
    (fun c s A B row h _ _ => h.elim)
    ⟨⟨_, c0, World.ownsRow_nil _ _ _ _, trivial⟩, hB0⟩
    (fun x => { tmps := #[.slice none 0 0, .func (.func gf) #[] lb, .pointer (some ⟨w.heap.size, 0, none⟩), undef, .slice none 0 0, .string (bA x.1), .func (.func gf) #[] lb, .string (bA x.1), undef, undef, undef, undef, undef], defers := [] }) ?assign ?body ?done ?stop
  case assign =>
    intro l x W K hK
    unfold vlV
    gi_wp2
    exact hK
  case body =>
    rintro l pre x W ⟨⟨v, hv, hrow, _⟩, hB⟩ hlen
    have hc := hv.cell; have hf := hv.frozen
    have hBs := hB.size
    gi_wp2_with (gi_at_builtin; refine wpListIn_append_own _ rfl _ _ 24 rfl w.heap.size 9 i0 (.string ⟨#[]⟩) 1 16 Try.underlying24 HI.out HZ0.out HZ1.out HZ2.out rfl (by decide) _ _ _ rfl (hrow.alloc _) ⟨W.heap.size, 0, none⟩ 1 1 [.string (bA x.1)] rfl rfl (cell_one_new _ _ _) (by simp [Value.oneCell']) (by unfold maxLen; omega) (by omega) (by simp; omega) ?_; intro v' w1 hown' hgrow _; obtain ⟨g', cap', rfl⟩ := ownsRow_succ hown'; obtain ⟨hv1, hv2, hr2, hk2, hb2⟩ := hv.appended (by decide) hrow hB.size (Nat.le_refl _) hown' hgrow; have hc1 := hv1.cell; have hf1 := hv1.frozen)
    exact ⟨hk2, Kept.of_belowAt hb2 (fun b hb => by simpa using hb), ⟨_, hv2, by simpa [strV_is] using hr2, trivial⟩, hB.trans hb2⟩
  case done =>
    rintro D ys W hD hR ⟨⟨v, hv, hrow, _⟩, hB⟩ hK
    have hc := hv.cell; have hf := hv.frozen
    gi_wp2_with fail
    refine ⟨by simp, .inl ⟨_, _, rfl, run_takeDeferred hK, ?_⟩⟩
    refine ⟨v, ?_, v, ys, rfl, hR, ownsRow_putObj hrow _ hK rfl, hB.trans (belowK_b (w := w) (Nat.le_refl _) W D _ _ (by simp at hD; omega) hK rfl rfl)⟩
    simp [results, Try.results47, go_sem]
  case stop =>
    rintro D c pre W _ _ h _
    exact h.elim

set_option maxRecDepth 100000 in
set_option maxHeartbeats 1000000 in
theorem collect_in (gf : Nat) (lb : Array Value) (eg : ∀ args w, (callFunc gf args).run Try.prog w = .ok (.enter gf args) w) (n N : Nat) (hn : 3 ≤ n) (hN : N ≤ 100000) (R : List Vl → Prop) (w : World)
    (hseq : SeqStopsK Fence.wide (n - 1 - 1) Try.prog gf lb vlV (Kept fun b => w.heap.size ≤ b) R (fun _ => True) N w) :
    CallsIn Fence.wide n Try.prog 37 #[.func (.func gf) #[] lb] w fun e w' => ∃ (v : Value) (xs : List Vl), e = .returned v ∧ R xs ∧ w'.ownsRow w.heap.size 9 1 v xs.length ((xs.map (·.1)).map Oct.strV) ∧ Below w.heap.size w w' := by
  have h1 : 1 ≤ n := by omega
  refine callsIn_of_wp Try.func37 rfl trivial ?_ rfl
  simp only [Try.ntmps37, List.size_toArray, List.length_cons, List.length_nil, Nat.reduceAdd, Nat.reduceSub, Array.replicate_succ, Array.replicate_zero, List.push_toArray, List.append_toArray, List.nil_append, List.cons_append]
  gi_wp2_with fail
  refine ⟨trivial, ?_⟩
  refine (appendSeq_in gf lb eg (n - 1) N (by omega) hN R w hseq).mono ?_
  rintro e w' ⟨v, xs, rfl, hR, hr, hb⟩
  gi_wp2_with fail
  go_ret
  exact ⟨v, xs, rfl, hR, hr, hb⟩

set_option maxRecDepth 100000 in
set_option maxHeartbeats 1000000 in
/-- The values of a name. -/
theorem values_any (A : Option Addr) (c n : Nat) (l : List Hd.Hdr) (nm : List UInt8) (w : World) (hn : l.length = n) (hl : SmallH l) (hnm : nm.length ≤ 10000) (hA : SeenH w A l) :
    Calls Try.prog 24 #[.slice A n c, .string (bA nm)] w (RetTexts w (Hd.vals l nm)) := by
  subst hn
  refine (callsIn_wide (n := 9)).1 ?_
  have HA := Lib.hid hA
  have hAg : Hid (l.length ≠ 0 → ∀ a, A = some a → a.block < w.heap.size) := Lib.hid fun h0 a e => by
    obtain ⟨g, o, e2, hg, _⟩ := hA (by omega)
    rw [e] at e2; cases e2; exact hg
  clear hA
  refine callsIn_of_wp Try.func24 rfl trivial ?_ rfl
  simp only [Try.ntmps24, List.size_toArray, List.length_cons, List.length_nil, Nat.reduceAdd, Nat.reduceSub, Array.replicate_succ, Array.replicate_zero, List.push_toArray, List.append_toArray, List.nil_append, List.cons_append]
  gi_wp2_with fail
  refine ⟨trivial, ?_⟩
  refine (callsIn_wide.2 (named_any A l.length c (bA nm) w)).mono ?_
  rintro e w' ⟨rfl, rfl⟩
  have c0 := (Boxed.new w 29 (.slice A l.length c)).alloc (.cells #[.string (bA nm)] 9)
  have c1 := Boxed.new (w.alloc (.cells #[.slice A l.length c] 29)) 9 (.string (bA nm))
  have hB0 : Below w.heap.size w ((w.alloc (.cells #[.slice A l.length c] 29)).alloc (.cells #[.string (bA nm)] 9)) := ((Below.refl _ w).alloc (Nat.le_refl _) _).alloc (by simp) _
  simp only [World.size_alloc] at c1
  obtain ⟨w1, hw1⟩ : ∃ w1, (w.alloc (.cells #[.slice A l.length c] 29)).alloc (.cells #[.string (bA nm)] 9) = w1 := ⟨_, rfl⟩
  have hs1 : w1.heap.size = w.heap.size + 2 := by rw [← hw1]; simp
  rw [hw1] at c0 c1 hB0 ⊢
  clear hw1
  have HB := Lib.hid hB0
  have hseq : SeqStopsK Fence.wide 6 Try.prog 48 #[.pointer (some ⟨w.heap.size, 0, none⟩), .pointer (some ⟨w.heap.size + 1, 0, none⟩)] vlV (Kept fun b => w1.heap.size ≤ b) (fun xs => xs.map (·.1) = Hd.vals l nm) (fun _ => True) l.length w1 :=
    named1_stops 6 (by decide) w.heap.size (w.heap.size + 1) A c l nm hl hnm _ w1 c0 c1 (HA.out.below hB0) (by omega) (fun h0 a e => by have := hAg.out (by omega) a e; omega)
  have hcall := collect_in 48 #[.pointer (some ⟨w.heap.size, 0, none⟩), .pointer (some ⟨w.heap.size + 1, 0, none⟩)] (enters_of Try.func48 (by kernel_rfl) rfl) 8 l.length (by decide) (by have := hl.len; omega) _ w1 hseq
  clear hseq c0 c1
  gi_wp2_with fail
  refine ⟨trivial, ?_⟩
  refine hcall.mono ?_
  rintro e w2 ⟨v, xs, rfl, hx, hr, hb⟩
  gi_wp2_with fail
  go_ret
  have hlx : xs.length = (Hd.vals l nm).length := by rw [← hx, List.length_map]
  rw [hx, hlx] at hr
  exact ⟨v, rfl, Below.onto HB.out hb, owns_base hr (by omega)⟩
end Go.Proofs.Ytcmbckacbdiebaa
