/- The walk of the statement HeadersOthers. -/
import Derived.Test.YtopakamglhhncaaHdApp
import Derived.Test.YtopakamglhhncaaHdLaws1
namespace Go.Proofs.Ytopakamglhhncaa
open Go.RowKit Go.Deep

theorem below_al {a b : World} (h : Below a.heap.size a b) (o : Obj) : Below a.heap.size a (b.alloc o) := h.alloc h.size o
theorem below_one (w : World) (o : Obj) : Below w.heap.size w (w.alloc o) := (Below.refl _ _).alloc (Nat.le_refl _) _
theorem heap_first (w : World) (a b : Obj) : ((w.alloc a).alloc b).drew.heap[w.heap.size]? = some a := ((below_one (w.alloc a) b).block w.heap.size (by simp)).trans (World.alloc_heap_new w a)
theorem heap_second (w : World) (a b : Obj) : ((w.alloc a).alloc b).drew.heap[w.heap.size + 1]? = some b := by
  have h : ((w.alloc a).alloc b).heap[(w.alloc a).heap.size]? = some b := World.alloc_heap_new (w.alloc a) b
  rw [show (w.alloc a).heap.size = w.heap.size + 1 by simp] at h
  exact h
theorem heap_lt1 (w : World) (a b : Obj) : w.heap.size + 1 < ((w.alloc a).alloc b).drew.heap.size := by
  have h : ((w.alloc a).alloc b).drew.heap.size = ((w.alloc a).alloc b).heap.size := rfl
  rw [h]; simp
theorem heap_lt0 (w : World) (a b : Obj) : w.heap.size < ((w.alloc a).alloc b).drew.heap.size := Nat.lt_of_lt_of_le (Nat.lt_succ_self _) (Nat.le_of_lt (heap_lt1 w a b))
theorem rdy_h {w1 W : World} {B : Nat} {h : Hd.Hdr} (hx : HBox w1 B h) (hb : Below w1.heap.size w1 W) : W.cell? ⟨B, 0, none⟩ = some (.string (bA h.name)) ∧ W.cell? ⟨B, 1, none⟩ = some (.string (bA h.value)) ∧ Below w1.heap.size w1 W :=
  ⟨(hb.cell hx.lt).trans hx.c0, (hb.cell hx.lt).trans hx.c1, hb⟩
/-- The one header that is laid behind: its block, wherever the order has put it. -/
theorem one_kept {w w4 : World} {B : Nat} {h : Hd.Hdr} {row : Option Nat} (hB : w.heap[B]? = some (.cells #[.string (bA h.name), .string (bA h.value)] 34 (0, 0))) (hg : w.grownBy w4 row) (hne : some B ≠ row) : SeenH w4 (some ⟨B, 0, none⟩) [h] :=
  seen_lit ((hg.block B (Array.getElem?_eq_some_iff.1 hB).1 hne).trans hB) rfl
theorem emod_nat (b : Int) (n : Nat) : ∃ k : Nat, b % ((n : Int) + 1) = (k : Int) ∧ k ≤ n := by
  have h1 := Int.emod_nonneg b (show ((n : Int) + 1) ≠ 0 by omega)
  have h2 := Int.emod_lt_of_pos b (show (0 : Int) < (n : Int) + 1 by omega)
  exact ⟨(b % ((n : Int) + 1)).toNat, by omega, by omega⟩
theorem tmod_neg (a : Int) (n : Nat) (h0 : -9223372036854775808 ≤ a) (h : a < 0) : ∃ k : Nat, (wrap64 (-wrap64 (a + 1))).tmod ((n : Int) + 1) = (k : Int) ∧ k ≤ n := by
  rw [IntWalk.wrap64_in (a + 1) (by omega), IntWalk.wrap64_in (-(a + 1)) (by omega), Int.tmod_eq_emod_of_nonneg (by omega)]
  exact emod_nat _ n
theorem SeenH.take {w : World} {A : Option Addr} {l : List Hd.Hdr} (h : SeenH w A l) (k : Nat) : SeenH w A (l.take k) := fun hn => by
  rw [List.length_take] at hn
  obtain ⟨g, o, e, hg, hc⟩ := h (by omega)
  refine ⟨g, o, e, hg, fun i hi => ?_⟩
  rw [List.length_take] at hi
  rw [List.getElem_take]
  exact hc i (by omega)
theorem SeenH.drop {w : World} {g o : Nat} {l : List Hd.Hdr} (h : SeenH w (some ⟨g, o, none⟩) l) (k : Nat) : SeenH w (some ⟨g, o + k * 2, none⟩) (l.drop k) := fun hn => by
  rw [List.length_drop] at hn
  obtain ⟨g', o', e, hg, hc⟩ := h (by omega)
  cases e
  refine ⟨g, o + k * 2, rfl, hg, fun i hi => ?_⟩
  rw [List.length_drop] at hi
  have := hc (k + i) (by omega)
  rw [List.getElem_drop, show o + k * 2 + i * 2 = o + (k + i) * 2 by omega]
  exact this
set_option maxHeartbeats 1000000 in
/-- 'l[:k]'. -/
theorem slice_to (A : Option Addr) (n c k : Nat) (hk : k ≤ n) (hc : n ≤ c) : ∃ A1, (∀ W : World, (Instr.slice 23 (.slice A n c) none (some (.int .i64 (k : Int))) none).run Try.prog W = .ok (.slice A1 k c) W) ∧ ((A = none → n = 0 ∧ c = 0) → A1 = none → k = 0 ∧ c = 0) ∧ (∀ (W : World) (l : List Hd.Hdr), SeenH W A l → SeenH W A1 (l.take k)) := by
  have hk2 : (k : Int) ≤ (c : Int) := by omega
  refine ⟨if c = 0 then A else A.map (·.add (0 * 2)), fun W => ?_, fun h e => ?_, fun W l hs hn => ?_⟩
  · simp [go_sem, hk2, Try.underlying23]
  · cases A with
    | none => have := h rfl; omega
    | some a => split at e <;> cases e
  · obtain ⟨g, o, rfl, hg, hcs⟩ := (hs.take k) hn
    refine ⟨g, o, ?_, hg, hcs⟩
    split <;> simp [Addr.add]
set_option maxHeartbeats 1000000 in
/-- 'l[k:]'. -/
theorem slice_from (A : Option Addr) (n c k : Nat) (hk : k ≤ n) (hc : n ≤ c) : ∃ A2, (∀ W : World, (Instr.slice 23 (.slice A n c) (some (.int .i64 (k : Int))) none none).run Try.prog W = .ok (.slice A2 (n - k) (c - k)) W) ∧ ((A = none → n = 0 ∧ c = 0) → A2 = none → n - k = 0 ∧ c - k = 0) ∧ (∀ (W : World) (l : List Hd.Hdr), l.length = n → SeenH W A l → SeenH W A2 (l.drop k)) := by
  have hk2 : (k : Int) ≤ (n : Int) := by omega
  refine ⟨if c = k then A else A.map (·.add (k * 2)), fun W => ?_, fun h e => ?_, fun W l hl hs hn => ?_⟩
  · simp [go_sem, hk2, Try.underlying23]
  · cases A with
    | none => have := h rfl; omega
    | some a => split at e <;> cases e
  · rw [List.length_drop] at hn
    obtain ⟨g, o, rfl, hg, hcs⟩ := hs (by omega)
    have hd := SeenH.drop (fun _ => ⟨g, o, rfl, hg, hcs⟩) k
    rw [if_neg (by omega)]
    have e : Option.map (fun x : Addr => x.add (k * 2)) (some ⟨g, o, none⟩) = some ⟨g, o + k * 2, none⟩ := by simp [Addr.add]
    rw [e]
    exact hd (by rw [List.length_drop]; omega)
set_option maxHeartbeats 4000000 in
set_option maxRecDepth 100000 in
theorem walk_HeadersOthers (A : Option Addr) (c : Nat) (l : List Hd.Hdr) (h : Hd.Hdr) (nm : ByteArray) (at' : Int) (w : World) (hw : WideHs w A c l) (_hwh : WideH h) (hnm : nm.size ≤ maxLen) (hat : (Lit.int .i64 at').wf = true) (hrs : l.length * 32 ≤ 140737488351232) :
    Calls Try.prog 5 #[.slice A l.length c, .agg #[.string (bA h.name), .string (bA h.value)], .string nm, .int .i64 at'] w fun e w' => e = .returned (.bool true) ∧ Below w.heap.size w w' := by
  unfold maxLen at hnm
  have hl63 : l.length ≤ maxLen := hw.len
  have hm63 : l.length + 1 ≤ maxLen := by unfold maxLen; omega
  have hby1 : l.length * 32 ≤ 140737488355328 := by omega
  have hby2 : (l.length + 1) * 32 ≤ 140737488355328 := by omega
  have hnl := hw.nl
  have hcap := hw.cap
  have hln : (l ++ [h]).length = l.length + 1 := by simp
  have HB0 := Lib.hid (below_one w (.cells #[.string (bA h.name), .string (bA h.value)] 34))
  have HBX0 := Lib.hid (HBox.new w h)
  have HS0 := Lib.hid (hw.seen.below HB0.out)
  clear hw
  obtain ⟨bf, hbf⟩ : ∃ bf, fewB (l ++ [h]) = bf := ⟨_, rfl⟩
  have HBF := Lib.hid hbf
  clear hbf
  go_enter Try.func5, Try.ntmps5
  go_wp2_with fail
  refine (awake_any _).mono ?_
  rintro e w1 ⟨rfl, hb1⟩
  have HB1 := Lib.hid (Below.onto HB0.out hb1); have HBX1 := Lib.hid (HBX0.out.below hb1); have HS1 := Lib.hid (HS0.out.below hb1)
  clear hb1
  have hb0 : Below w1.heap.size w1 w1 := Below.refl _ _
  have hse : ∀ W, Below w1.heap.size w1 W → SeenH W A l := fun W hb => HS1.out.below hb
  go_wp2_with fail
  go_region_held_law (fun w' => w'.cell? ⟨w.heap.size, 0, none⟩ = some (.string (bA h.name)) ∧ w'.cell? ⟨w.heap.size, 1, none⟩ = some (.string (bA h.value)) ∧ Below w1.heap.size w1 w')
    (first
      | exact rdy_h HBX1.out hb6
      | exact rdy_h HBX1.out (below_al hb4 _)
      | exact rdy_h HBX1.out hb4
      | exact rdy_h HBX1.out (below_al (below_al hb0.drew _) _)
      | exact rdy_h HBX1.out (below_al hb0.drew _)
      | exact rdy_h HBX1.out hb0.drew)
    (first
      | (refine step_app rfl _ _ rfl w1.heap.size _ [] l rfl (own_none (World.alloc_heap_new w1 _) (Nat.le_refl _)) A l.length c l.length rfl rfl hnl (hse _ (below_al hb0 _).drew) (Nat.zero_add _) hl63 hby1 (below_al hb0 _).drew.size ?_; intro A4 c4 w4 hown4 hg4 hs4 hbb4; have hb4 := (below_al hb0 _).drew.trans hbb4)
      | (refine step_app rfl _ _ rfl w1.heap.size _ [] l rfl (own_none (heap_first w1 _ _) (Nat.le_refl _)) A l.length c l.length rfl rfl hnl (hse _ (below_al (below_al hb0 _) _).drew) (Nat.zero_add _) hl63 hby1 (below_al (below_al hb0 _) _).drew.size ?_; intro A4 c4 w4 hown4 hg4 hs4 hbb4; have hb4 := (below_al (below_al hb0 _) _).drew.trans hbb4)
      | (refine step_app rfl _ _ rfl w1.heap.size _ [] l rfl (own_none (heap_second w1 _ _) (Nat.le_succ _)) A l.length c l.length rfl rfl hnl (hse _ (below_al (below_al hb0 _) _).drew) (Nat.zero_add _) hl63 hby1 (below_al (below_al hb0 _) _).drew.size ?_; intro A4 c4 w4 hown4 hg4 hs4 hbb4; have hb4 := (below_al (below_al hb0 _) _).drew.trans hbb4)
      | (refine step_app rfl _ _ rfl w1.heap.size _ l [h] rfl (hown4.alloc _) _ 1 _ (l.length + 1) rfl rfl (fun e => by cases e) (seen_lit (World.alloc_heap_new w4 _) rfl) rfl hm63 hby2 (below_al hb4 _).size ?_; intro A6 c6 w6 hown6 hg6 hs6 hbb6; have hb6 := (below_al hb4 _).trans hbb6)
      | (refine step_app rfl _ _ rfl w1.heap.size _ l [h] rfl hown4 _ 1 _ (l.length + 1) rfl rfl (fun e => by cases e) (one_kept (heap_second w1 _ _) hg4 (fun e => Nat.succ_ne_self _ (Option.some.inj e))) rfl hm63 hby2 hb4.size ?_; intro A6 c6 w6 hown6 hg6 hs6 hbb6; have hb6 := hb4.trans hbb6)
      | (refine step_app rfl _ _ rfl w1.heap.size _ l [h] rfl hown4 _ 1 _ (l.length + 1) rfl rfl (fun e => by cases e) (one_kept (heap_first w1 _ _) hg4 (fun e => Nat.succ_ne_self _ (Option.some.inj e).symm)) rfl hm63 hby2 hb4.size ?_; intro A6 c6 w6 hown6 hg6 hs6 hbb6; have hb6 := hb4.trans hbb6)
      | (go_at_call 10; refine (few_any A6 c6 (l.length + 1) (l ++ [h]) _ hln hs6).mono ?_; rintro e w' ⟨rfl, hw'⟩; rw [hw'])
      | fail)
  all_goals
    have HB6 := Lib.hid (Below.onto HB1.out hb6)
    have HBX6 := Lib.hid (HBX1.out.below hb6)
    have HS6 := Lib.hid (hse _ hb6)
    rename_i hHeld
    have d0 := HBX6.out.c0
    clear hHeld hown4 hg4 hs4 hbb4 hb4 hown6 hg6 hs6 hbb6 hb6 hb0 hse
    rw [HBF.out]
    cases bf with
    | false =>
      go_wp2_with fail
      go_ret
      exact ⟨rfl, HB6.out⟩
    | true =>
      by_cases hl100 : l.length ≤ 100
      · have hl100z : ¬ ((100 : Int) < (l.length : Int)) := by omega
        by_cases hn : nm.size ≤ 1000
        · have hnz : ¬ ((1000 : Int) < (nm.size : Int)) := by omega
          have hsm := few_small HBF.out
          have hhn : h.name.length ≤ 10000 := (hsm.each h (by simp)).1
          have HSM := Lib.hid hsm
          have hnl2 : nm.data.toList.length ≤ 10000 := by simp; omega
          clear hsm hn hl100
          cases hf : Hd.foldB h.name nm.data.toList with
          | true =>
            have hcall := fun W => fold_val hhn hnl2 W hf
            go_wp2_with fail
            refine (hcall _).mono ?_
            rintro e w7 ⟨rfl, hb7⟩
            clear hcall
            go_wp2_with fail
            go_ret
            exact ⟨rfl, Below.onto HB6.out hb7⟩
          | false =>
            have hcall := fun W => fold_val hhn hnl2 W hf
            go_wp2_with fail
            refine (hcall _).mono ?_
            rintro e w7 ⟨rfl, hb7⟩
            clear hcall
            have HB7 := Lib.hid (Below.onto HB6.out hb7)
            have HBX7 := Lib.hid (HBX6.out.below hb7)
            have HS7 := Lib.hid (HS6.out.below hb7)
            have hfin : ∃ k : Nat, k ≤ l.length ∧ (at' < 0 → (wrap64 (-wrap64 (at' + 1))).tmod ((l.length : Int) + 1) = (k : Int)) ∧ (0 ≤ at' → at' % ((l.length : Int) + 1) = (k : Int)) := by
              by_cases hneg : at' < 0
              · obtain ⟨k, hk, hkl⟩ := tmod_neg at' l.length (bounds_i64 hat).1 hneg
                exact ⟨k, hkl, fun _ => hk, fun h => by omega⟩
              · obtain ⟨k, hk, hkl⟩ := emod_nat at' l.length
                exact ⟨k, hkl, fun h => absurd h hneg, fun _ => hk⟩
            obtain ⟨k, hkl, hkn, hkp⟩ := hfin
            obtain ⟨X1, hX1, hn1', hX1s⟩ := slice_to A l.length c k hkl hcap
            obtain ⟨X2, hX2, hn2', hX2s⟩ := slice_from A l.length c k hkl hcap
            have hn1 := hn1' hnl
            have hn2 := hn2' hnl
            have htk : (l.take k).length = k := by rw [List.length_take]; omega
            have htk1 : (l.take k).length + 1 = k + 1 := by omega
            have hdk : (l.drop k).length = l.length - k := List.length_drop
            have hdk1 : (l.take k ++ [h]).length + (l.length - k) = l.length + 1 := by simp; omega
            have hk63 : k ≤ maxLen := Nat.le_trans hkl hl63
            have hk163 : k + 1 ≤ maxLen := Nat.le_trans (Nat.succ_le_succ hkl) hm63
            have hkby : k * 32 ≤ 140737488355328 := by omega
            have hk1by : (k + 1) * 32 ≤ 140737488355328 := by omega
            have hb0 : Below w7.heap.size w7 w7 := Below.refl _ _
            have hse1 : ∀ W, Below w7.heap.size w7 W → SeenH W X1 (l.take k) := fun W hb => hX1s W l (HS7.out.below hb)
            have hse2 : ∀ W, Below w7.heap.size w7 W → SeenH W X2 (l.drop k) := fun W hb => hX2s W l rfl (HS7.out.below hb)
            have HSL : Hid (SmallH l) := Lib.hid ⟨by have := HSM.out.len; simp at this; omega, fun x hx => HSM.out.each x (by simp [hx])⟩
            have HML : Hid ((l.take k ++ [h] ++ l.drop k).length = l.length + 1) := Lib.hid (by simp; omega)
            have HSMM : Hid (SmallH (l.take k ++ [h] ++ l.drop k)) := Lib.hid ⟨by rw [HML.out]; omega, fun x hx => HSM.out.each x (by
              rcases List.mem_append.1 hx with hx | hx
              · rcases List.mem_append.1 hx with hx | hx
                · exact List.mem_append_left _ (List.mem_of_mem_take hx)
                · exact List.mem_append_right _ hx
              · exact List.mem_append_left _ (List.mem_of_mem_drop hx))⟩
            obtain ⟨vs, hvs⟩ : ∃ vs, Hd.vals l nm.data.toList = vs := ⟨_, rfl⟩
            obtain ⟨pt, hpt⟩ : ∃ pt, Hd.partsL l nm.data.toList = pt := ⟨_, rfl⟩
            have HVS := Lib.hid hvs; have HPT := Lib.hid hpt
            have HVM : Hid (Hd.vals (l.take k ++ [h] ++ l.drop k) (Oct.lower nm.data.toList) = vs) := Lib.hid (by rw [Hd.vals_other k hf, hvs])
            have HPM : Hid (Hd.partsL (l.take k ++ [h] ++ l.drop k) nm.data.toList = pt) := Lib.hid (by rw [Hd.partsL_other k hf, hpt])
            have hlow : (Oct.lower nm.data.toList).length ≤ 10000 := by rw [Oct.lower_length]; exact hnl2
            clear hb7 d0 hn1' hn2' hX1s hX2s hvs hpt hf
            by_cases hneg : at' < 0
            · have hmod := hkn hneg
              clear hkn hkp
              go_wp2_with fail
              go_region_held_law (fun w' => w'.cell? ⟨w.heap.size, 0, none⟩ = some (.string (bA h.name)) ∧ w'.cell? ⟨w.heap.size, 1, none⟩ = some (.string (bA h.value)) ∧ Below w7.heap.size w7 w')
                (first
                  | exact rdy_h HBX7.out hb8
                  | exact rdy_h HBX7.out hb6
                  | exact rdy_h HBX7.out (below_al hb4 _)
                  | exact rdy_h HBX7.out hb4
                  | exact rdy_h HBX7.out (below_al (below_al hb0.drew _) _)
                  | exact rdy_h HBX7.out (below_al hb0.drew _)
                  | exact rdy_h HBX7.out hb0.drew)
                (first
                  | (refine step_app rfl _ _ rfl w7.heap.size _ [] (l.take k) rfl (own_none (World.alloc_heap_new w7 _) (Nat.le_refl _)) X1 k c k rfl htk hn1 (hse1 _ (below_al hb0 _).drew) (Nat.zero_add _) hk63 hkby (below_al hb0 _).drew.size ?_; intro A4 c4 w4 hown4 hg4 hs4 hbb4; have hb4 := (below_al hb0 _).drew.trans hbb4)
                  | (refine step_app rfl _ _ rfl w7.heap.size _ [] (l.take k) rfl (own_none (heap_first w7 _ _) (Nat.le_refl _)) X1 k c k rfl htk hn1 (hse1 _ (below_al (below_al hb0 _) _).drew) (Nat.zero_add _) hk63 hkby (below_al (below_al hb0 _) _).drew.size ?_; intro A4 c4 w4 hown4 hg4 hs4 hbb4; have hb4 := (below_al (below_al hb0 _) _).drew.trans hbb4)
                  | (refine step_app rfl _ _ rfl w7.heap.size _ [] (l.take k) rfl (own_none (heap_second w7 _ _) (Nat.le_succ _)) X1 k c k rfl htk hn1 (hse1 _ (below_al (below_al hb0 _) _).drew) (Nat.zero_add _) hk63 hkby (below_al (below_al hb0 _) _).drew.size ?_; intro A4 c4 w4 hown4 hg4 hs4 hbb4; have hb4 := (below_al (below_al hb0 _) _).drew.trans hbb4)
                  | (refine step_app rfl _ _ rfl w7.heap.size _ (l.take k) [h] rfl (hown4.alloc _) _ 1 _ (k + 1) rfl rfl (fun e => by cases e) (seen_lit (World.alloc_heap_new w4 _) rfl) htk1 hk163 hk1by (below_al hb4 _).size ?_; intro A6 c6 w6' hown6 hg6 hs6 hbb6; have hb6 := (below_al hb4 _).trans hbb6)
                  | (refine step_app rfl _ _ rfl w7.heap.size _ (l.take k) [h] rfl hown4 _ 1 _ (k + 1) rfl rfl (fun e => by cases e) (one_kept (heap_second w7 _ _) hg4 (fun e => Nat.succ_ne_self _ (Option.some.inj e))) htk1 hk163 hk1by hb4.size ?_; intro A6 c6 w6' hown6 hg6 hs6 hbb6; have hb6 := hb4.trans hbb6)
                  | (refine step_app rfl _ _ rfl w7.heap.size _ (l.take k) [h] rfl hown4 _ 1 _ (k + 1) rfl rfl (fun e => by cases e) (one_kept (heap_first w7 _ _) hg4 (fun e => Nat.succ_ne_self _ (Option.some.inj e).symm)) htk1 hk163 hk1by hb4.size ?_; intro A6 c6 w6' hown6 hg6 hs6 hbb6; have hb6 := hb4.trans hbb6)
                  | (refine step_app rfl _ _ rfl w7.heap.size _ (l.take k ++ [h]) (l.drop k) rfl hown6 X2 (l.length - k) (c - k) (l.length + 1) rfl hdk hn2 (hse2 _ hb6) hdk1 hm63 hby2 hb6.size ?_; intro A8 c8 w8 hown8 hg8 hs8 hbb8; have hb8 := hb6.trans hbb8)
                  | fail)
              all_goals
                have HB8 := Lib.hid (Below.onto HB7.out hb8)
                have HS8 := Lib.hid (HS7.out.below hb8)
                have HM8 := Lib.hid hs8
                rename_i hHeld
                clear hHeld hown4 hg4 hs4 hbb4 hb4 hown6 hg6 hs6 hbb6 hb6 hown8 hg8 hs8 hbb8 hb8 hb0 hse1 hse2 hX1 hX2 hn1 hn2
                go_wp2_with fail
                have hc := values_any A c l.length l nm.data.toList w8 rfl HSL.out hnl2 HS8.out
                rw [HVS.out] at hc
                refine hc.mono ?_
                rintro e w9 ⟨v9, rfl, hb9, hr9⟩
                have HS9 := Lib.hid (HS8.out.below hb9); have HM9 := Lib.hid (HM8.out.below hb9); have HB9 := Lib.hid (Below.onto HB8.out hb9); have HR9 := Lib.hid hr9
                clear hc hb9 hr9
                go_wp2_with fail
                refine (lower_any nm w9 (by unfold maxLen; omega)).mono ?_
                rintro e w10 ⟨rfl, hb10⟩
                have HS10 := Lib.hid (HS9.out.below hb10); have HM10 := Lib.hid (HM9.out.below hb10); have HB10 := Lib.hid (Below.onto HB9.out hb10); have HR10 := Lib.hid (owns_below HR9.out hb10)
                clear hb10
                go_wp2_with fail
                have hc := values_any A8 c8 (l.length + 1) (l.take k ++ [h] ++ l.drop k) (Oct.lower nm.data.toList) w10 HML.out HSMM.out hlow HM10.out
                rw [HVM.out] at hc
                refine hc.mono ?_
                rintro e w11 ⟨v11, rfl, hb11, hr11⟩
                have HS11 := Lib.hid (HS10.out.below hb11); have HM11 := Lib.hid (HM10.out.below hb11); have HB11 := Lib.hid (Below.onto HB10.out hb11); have HR11 := Lib.hid (owns_below HR10.out hb11); have HR11b := Lib.hid hr11
                clear hc hb11 hr11
                go_wp2_with fail
                refine (texts_same _ _ _ _ _ _ HR11.out HR11b.out).mono ?_
                rintro e w12 ⟨rfl, hb12⟩
                have HS12 := Lib.hid (HS11.out.below hb12); have HM12 := Lib.hid (HM11.out.below hb12); have HB12 := Lib.hid (Below.onto HB11.out hb12)
                clear hb12
                go_wp2_with fail
                have hc := parts_any A c l.length l nm.data.toList w12 rfl HSL.out hnl2 HS12.out
                rw [HPT.out] at hc
                refine hc.mono ?_
                rintro e w13 ⟨v13, rfl, hb13, hr13⟩
                have HM13 := Lib.hid (HM12.out.below hb13); have HB13 := Lib.hid (Below.onto HB12.out hb13); have HR13 := Lib.hid hr13
                clear hc hb13 hr13
                go_wp2_with fail
                have hc := parts_any A8 c8 (l.length + 1) (l.take k ++ [h] ++ l.drop k) nm.data.toList w13 HML.out HSMM.out hnl2 HM13.out
                rw [HPM.out] at hc
                refine hc.mono ?_
                rintro e w14 ⟨v14, rfl, hb14, hr14⟩
                have HB14 := Lib.hid (Below.onto HB13.out hb14); have HR14 := Lib.hid (owns_below HR13.out hb14); have HR14b := Lib.hid hr14
                clear hc hb14 hr14
                go_wp2_with fail
                refine (texts_same _ _ _ _ _ _ HR14.out HR14b.out).mono ?_
                rintro e w15 ⟨rfl, hb15⟩
                have HB15 := Lib.hid (Below.onto HB14.out hb15)
                clear hb15
                go_wp2_with fail
                go_ret
                exact ⟨rfl, HB15.out⟩
            · have hneg2 : 0 ≤ at' := by omega
              have hmod := hkp hneg2
              clear hkn hkp hneg
              go_wp2_with fail
              go_region_held_law (fun w' => w'.cell? ⟨w.heap.size, 0, none⟩ = some (.string (bA h.name)) ∧ w'.cell? ⟨w.heap.size, 1, none⟩ = some (.string (bA h.value)) ∧ Below w7.heap.size w7 w')
                (first
                  | exact rdy_h HBX7.out hb8
                  | exact rdy_h HBX7.out hb6
                  | exact rdy_h HBX7.out (below_al hb4 _)
                  | exact rdy_h HBX7.out hb4
                  | exact rdy_h HBX7.out (below_al (below_al hb0.drew _) _)
                  | exact rdy_h HBX7.out (below_al hb0.drew _)
                  | exact rdy_h HBX7.out hb0.drew)
                (first
                  | (refine step_app rfl _ _ rfl w7.heap.size _ [] (l.take k) rfl (own_none (World.alloc_heap_new w7 _) (Nat.le_refl _)) X1 k c k rfl htk hn1 (hse1 _ (below_al hb0 _).drew) (Nat.zero_add _) hk63 hkby (below_al hb0 _).drew.size ?_; intro A4 c4 w4 hown4 hg4 hs4 hbb4; have hb4 := (below_al hb0 _).drew.trans hbb4)
                  | (refine step_app rfl _ _ rfl w7.heap.size _ [] (l.take k) rfl (own_none (heap_first w7 _ _) (Nat.le_refl _)) X1 k c k rfl htk hn1 (hse1 _ (below_al (below_al hb0 _) _).drew) (Nat.zero_add _) hk63 hkby (below_al (below_al hb0 _) _).drew.size ?_; intro A4 c4 w4 hown4 hg4 hs4 hbb4; have hb4 := (below_al (below_al hb0 _) _).drew.trans hbb4)
                  | (refine step_app rfl _ _ rfl w7.heap.size _ [] (l.take k) rfl (own_none (heap_second w7 _ _) (Nat.le_succ _)) X1 k c k rfl htk hn1 (hse1 _ (below_al (below_al hb0 _) _).drew) (Nat.zero_add _) hk63 hkby (below_al (below_al hb0 _) _).drew.size ?_; intro A4 c4 w4 hown4 hg4 hs4 hbb4; have hb4 := (below_al (below_al hb0 _) _).drew.trans hbb4)
                  | (refine step_app rfl _ _ rfl w7.heap.size _ (l.take k) [h] rfl (hown4.alloc _) _ 1 _ (k + 1) rfl rfl (fun e => by cases e) (seen_lit (World.alloc_heap_new w4 _) rfl) htk1 hk163 hk1by (below_al hb4 _).size ?_; intro A6 c6 w6' hown6 hg6 hs6 hbb6; have hb6 := (below_al hb4 _).trans hbb6)
                  | (refine step_app rfl _ _ rfl w7.heap.size _ (l.take k) [h] rfl hown4 _ 1 _ (k + 1) rfl rfl (fun e => by cases e) (one_kept (heap_second w7 _ _) hg4 (fun e => Nat.succ_ne_self _ (Option.some.inj e))) htk1 hk163 hk1by hb4.size ?_; intro A6 c6 w6' hown6 hg6 hs6 hbb6; have hb6 := hb4.trans hbb6)
                  | (refine step_app rfl _ _ rfl w7.heap.size _ (l.take k) [h] rfl hown4 _ 1 _ (k + 1) rfl rfl (fun e => by cases e) (one_kept (heap_first w7 _ _) hg4 (fun e => Nat.succ_ne_self _ (Option.some.inj e).symm)) htk1 hk163 hk1by hb4.size ?_; intro A6 c6 w6' hown6 hg6 hs6 hbb6; have hb6 := hb4.trans hbb6)
                  | (refine step_app rfl _ _ rfl w7.heap.size _ (l.take k ++ [h]) (l.drop k) rfl hown6 X2 (l.length - k) (c - k) (l.length + 1) rfl hdk hn2 (hse2 _ hb6) hdk1 hm63 hby2 hb6.size ?_; intro A8 c8 w8 hown8 hg8 hs8 hbb8; have hb8 := hb6.trans hbb8)
                  | fail)
              all_goals
                have HB8 := Lib.hid (Below.onto HB7.out hb8)
                have HS8 := Lib.hid (HS7.out.below hb8)
                have HM8 := Lib.hid hs8
                rename_i hHeld
                clear hHeld hown4 hg4 hs4 hbb4 hb4 hown6 hg6 hs6 hbb6 hb6 hown8 hg8 hs8 hbb8 hb8 hb0 hse1 hse2 hX1 hX2 hn1 hn2
                go_wp2_with fail
                have hc := values_any A c l.length l nm.data.toList w8 rfl HSL.out hnl2 HS8.out
                rw [HVS.out] at hc
                refine hc.mono ?_
                rintro e w9 ⟨v9, rfl, hb9, hr9⟩
                have HS9 := Lib.hid (HS8.out.below hb9); have HM9 := Lib.hid (HM8.out.below hb9); have HB9 := Lib.hid (Below.onto HB8.out hb9); have HR9 := Lib.hid hr9
                clear hc hb9 hr9
                go_wp2_with fail
                refine (lower_any nm w9 (by unfold maxLen; omega)).mono ?_
                rintro e w10 ⟨rfl, hb10⟩
                have HS10 := Lib.hid (HS9.out.below hb10); have HM10 := Lib.hid (HM9.out.below hb10); have HB10 := Lib.hid (Below.onto HB9.out hb10); have HR10 := Lib.hid (owns_below HR9.out hb10)
                clear hb10
                go_wp2_with fail
                have hc := values_any A8 c8 (l.length + 1) (l.take k ++ [h] ++ l.drop k) (Oct.lower nm.data.toList) w10 HML.out HSMM.out hlow HM10.out
                rw [HVM.out] at hc
                refine hc.mono ?_
                rintro e w11 ⟨v11, rfl, hb11, hr11⟩
                have HS11 := Lib.hid (HS10.out.below hb11); have HM11 := Lib.hid (HM10.out.below hb11); have HB11 := Lib.hid (Below.onto HB10.out hb11); have HR11 := Lib.hid (owns_below HR10.out hb11); have HR11b := Lib.hid hr11
                clear hc hb11 hr11
                go_wp2_with fail
                refine (texts_same _ _ _ _ _ _ HR11.out HR11b.out).mono ?_
                rintro e w12 ⟨rfl, hb12⟩
                have HS12 := Lib.hid (HS11.out.below hb12); have HM12 := Lib.hid (HM11.out.below hb12); have HB12 := Lib.hid (Below.onto HB11.out hb12)
                clear hb12
                go_wp2_with fail
                have hc := parts_any A c l.length l nm.data.toList w12 rfl HSL.out hnl2 HS12.out
                rw [HPT.out] at hc
                refine hc.mono ?_
                rintro e w13 ⟨v13, rfl, hb13, hr13⟩
                have HM13 := Lib.hid (HM12.out.below hb13); have HB13 := Lib.hid (Below.onto HB12.out hb13); have HR13 := Lib.hid hr13
                clear hc hb13 hr13
                go_wp2_with fail
                have hc := parts_any A8 c8 (l.length + 1) (l.take k ++ [h] ++ l.drop k) nm.data.toList w13 HML.out HSMM.out hnl2 HM13.out
                rw [HPM.out] at hc
                refine hc.mono ?_
                rintro e w14 ⟨v14, rfl, hb14, hr14⟩
                have HB14 := Lib.hid (Below.onto HB13.out hb14); have HR14 := Lib.hid (owns_below HR13.out hb14); have HR14b := Lib.hid hr14
                clear hc hb14 hr14
                go_wp2_with fail
                refine (texts_same _ _ _ _ _ _ HR14.out HR14b.out).mono ?_
                rintro e w15 ⟨rfl, hb15⟩
                have HB15 := Lib.hid (Below.onto HB14.out hb15)
                clear hb15
                go_wp2_with fail
                go_ret
                exact ⟨rfl, HB15.out⟩
        · have hnz : (1000 : Int) < (nm.size : Int) := by omega
          clear hn hl100
          go_wp2_with fail
          go_ret
          exact ⟨rfl, HB6.out⟩
      · have hl100z : (100 : Int) < (l.length : Int) := by omega
        clear hl100
        go_wp2_with fail
        go_ret
        exact ⟨rfl, HB6.out⟩
end Go.Proofs.Ytopakamglhhncaa
