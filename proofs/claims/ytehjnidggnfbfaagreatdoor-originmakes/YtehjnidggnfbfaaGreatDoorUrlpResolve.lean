/- The contract of urlp's resolve. -/
import Derived.Test.YtehjnidggnfbfaaGreatDoorUrlpWalk
import Derived.Test.YtehjnidggnfbfaaGreatDoorUrlpPort
import Derived.Test.YtehjnidggnfbfaaGreatDoorOctAll
import Derived.WalkMore
import Derived.Deep.LoopGhost
namespace Go.Proofs.YtehjnidggnfbfaaGreatDoor
open Go.RowKit

theorem join_lib2 (c : UInt8) (ps : List (List UInt8)) : Lib.join ps [c] = Oct.join c ps := by
  induction ps with
  | nil => rfl
  | cons p r ih =>
    cases r with
    | nil => rw [Lib.join_one]; rfl
    | cons q r =>
      rw [Lib.join_cons]
      rw [Lib.join_cons] at ih
      show _ = p ++ c :: Oct.join c (q :: r)
      rw [← ih]
      simp [Lib.joinTail]
theorem join_count2 (c : UInt8) : ∀ ps : List (List UInt8), ps.length ≤ (Oct.join c ps).length + 1
  | [] => by simp
  | [p] => by simp
  | p :: q :: r => by
    have := join_count2 c (q :: r)
    simp only [Oct.join, List.length_append, List.length_cons] at this ⊢
    omega
/-- strings.Join with a byte between, of texts that lie somewhere. -/
theorem join_with (c : UInt8) (g o cap : Nat) (ps : List (List UInt8)) (w : World) (hcells : ∀ i (h : i < ps.length), w.cell? ⟨g, o + i, none⟩ = some (Oct.strV ps[i])) (hg : g < w.heap.size) (hcap : ps.length ≤ cap) (hlen : (Oct.join c ps).length ≤ 1048576) :
    Calls Tryz.prog 32 #[.slice (some ⟨g, o, none⟩) ps.length cap, .string ⟨#[c]⟩] w fun e w' => e = .returned (.string ⟨(Oct.join c ps).toArray⟩) ∧ Below w.heap.size w w' := by
  have hm : (ps.map fun p => (⟨p.toArray⟩ : ByteArray)).map (·.data.toList) = ps := by
    rw [List.map_map]
    exact List.map_id' ps
  have hjo : Lib.join ((ps.map fun p => (⟨p.toArray⟩ : ByteArray)).map (·.data.toList)) (⟨#[c]⟩ : ByteArray).data.toList = Oct.join c ps := by rw [hm]; exact join_lib2 c ps
  have hpl : ps.length ≤ (Oct.join c ps).length + 1 := join_count2 c ps
  have h := Tryz.strings_Join g o cap (ps.map fun p => (⟨p.toArray⟩ : ByteArray)) ⟨#[c]⟩ w (fun j x hx => by
    rw [List.getElem?_map] at hx
    by_cases hj : j < ps.length
    · rw [List.getElem?_eq_getElem hj] at hx
      simp only [Option.map_some, Option.some.injEq] at hx
      rw [hcells j hj, ← hx]; rfl
    · rw [List.getElem?_eq_none (by omega)] at hx; cases hx) hg (by simp; omega) (by simpa using hcap) (by rw [hjo]; omega)
  rw [hjo, List.length_map] at h
  exact h
theorem owns_pop {w : World} {base g cap : Nat} {ks : List (List UInt8)} (h : w.ownsRow base 9 1 (.slice (some ⟨g, 0, none⟩) ks.length cap) ks.length (ks.map Oct.strV)) :
    w.ownsRow base 9 1 (.slice (some ⟨g, 0, none⟩) (ks.length - 1) cap) ks.dropLast.length (ks.dropLast.map Oct.strV) := by
  obtain ⟨_, ⟨h1, _⟩ | ⟨g', cap', cur, hv, hb, hg, h3, h4, h5, h6⟩⟩ := h
  · cases h1
  · injection hv with e1 e2 e3
    injection e1 with e1
    injection e1 with e1
    subst e1; subst e3
    refine ⟨by simp, .inr ⟨g, cap, cur, by rw [List.length_dropLast], hb, hg, by rw [List.length_dropLast]; omega, h4, h5, ?_⟩⟩
    rw [List.length_dropLast]
    have : cur.toList.take ((ks.length - 1) * 1) = (cur.toList.take (ks.length * 1)).take (ks.length - 1) := by
      rw [List.take_take]; congr 1; omega
    rw [this, h6, ← List.map_take, List.dropLast_eq_take]

/-- What a round of resolve keeps. -/
structure RvInv (w1 wr : World) (ps fin ks : List (List UInt8)) (k : Nat) (v : Value) : Prop where
  bel : Below w1.heap.size w1 wr
  own : wr.ownsRow w1.heap.size 9 1 v ks.length (ks.map Oct.strV)
  le : ks.length ≤ k
  go : Urp.walk ks (ps.drop k) = fin
theorem RvInv.keep {w1 wr : World} {ps fin ks : List (List UInt8)} {k : Nat} {v : Value} (h : RvInv w1 wr ps fin ks k v) (hk : k < ps.length) (hs : Urp.stepC (decide (k + 1 = ps.length)) ks ps[k] = ks) : RvInv w1 wr ps fin ks (k + 1) v :=
  ⟨h.bel, h.own, by have := h.le; omega, by rw [← h.go, Urp.walk_at ps ks k hk, hs]⟩

theorem rv_push {w1 wr w2 : World} {ps fin ks ks' : List (List UInt8)} {k : Nat} {v' vp : Value} {o : Obj} {x : List UInt8} (hbel : Below w1.heap.size w1 wr) (hk : k < ps.length) (hgo : Urp.walk ks (ps.drop k) = fin)
    (hst : Urp.stepC (decide (k + 1 = ps.length)) ks ps[k] = ks' ++ [x]) (hle : ks'.length ≤ k) (hownp : wr.ownsRow w1.heap.size 9 1 vp ks'.length (ks'.map Oct.strV))
    (hown' : w2.ownsRow w1.heap.size 9 1 v' (ks'.length + 1) (ks'.map Oct.strV ++ [.string (bA x)])) (hg : (wr.alloc o).grownBy w2 vp.ownBlock) : RvInv w1 w2 ps fin (ks' ++ [x]) (k + 1) v' :=
  ⟨(hbel.alloc hbel.size _).grown hg (by simp; have := hbel.size; omega) (fun g hg => (hownp.lt g hg).1), by simpa [Oct.strV] using hown', by simp; omega, by rw [← hgo, Urp.walk_at ps ks k hk, hst]⟩
theorem rv_pop {w1 wr : World} {ps fin ks : List (List UInt8)} {k : Nat} {vp : Value} (hbel : Below w1.heap.size w1 wr) (hk : k < ps.length) (hgo : Urp.walk ks (ps.drop k) = fin)
    (hst : Urp.stepC (decide (k + 1 = ps.length)) ks ps[k] = ks.dropLast) (hle : ks.length ≤ k) (hownp : wr.ownsRow w1.heap.size 9 1 vp ks.dropLast.length (ks.dropLast.map Oct.strV)) : RvInv w1 wr ps fin ks.dropLast (k + 1) vp :=
  ⟨hbel, hownp, by simp; omega, by rw [← hgo, Urp.walk_at ps ks k hk, hst]⟩
/-- The shape of what has been kept, and of it without the last one. -/
theorem owns_pops {w : World} {base : Nat} {v : Value} {ks : List (List UInt8)} (h : w.ownsRow base 9 1 v ks.length (ks.map Oct.strV)) :
    (v = .slice none 0 0 ∧ ks = [] ∧ w.ownsRow base 9 1 (.slice none 0 0) ks.dropLast.length (ks.dropLast.map Oct.strV)) ∨
    (∃ g cap, v = .slice (some ⟨g, 0, none⟩) 0 cap ∧ ks = [] ∧ w.ownsRow base 9 1 (.slice (some ⟨g, 0, none⟩) 0 cap) ks.dropLast.length (ks.dropLast.map Oct.strV)) ∨
    (∃ g cap m, v = .slice (some ⟨g, 0, none⟩) (m + 1) cap ∧ ks.length = m + 1 ∧ m + 1 ≤ cap ∧ w.ownsRow base 9 1 (.slice (some ⟨g, 0, none⟩) m cap) ks.dropLast.length (ks.dropLast.map Oct.strV)) := by
  rcases owns_view2 h with ⟨rfl, rfl⟩ | ⟨g, cap, rfl, hc, _⟩
  · exact .inl ⟨rfl, rfl, World.ownsRow_nil _ _ _ _⟩
  · have hp := owns_pop h
    rcases Nat.eq_zero_or_pos ks.length with h0 | h0
    · obtain rfl := List.length_eq_zero_iff.1 h0
      exact .inr (.inl ⟨g, cap, rfl, rfl, hp⟩)
    · obtain ⟨m, hm⟩ : ∃ m, ks.length = m + 1 := ⟨ks.length - 1, by omega⟩
      rw [hm] at hp hc ⊢
      exact .inr (.inr ⟨g, cap, m, rfl, rfl, hc, hp⟩)
theorem one_cell (w : World) (v : Value) (t : TypeId) : ∀ (j : Nat) (u : Value), [v][j]? = some u → (w.alloc (.cells #[v] t)).cell? ((⟨w.heap.size, 0, none⟩ : Addr).add j) = some u := by
  intro j u hj
  match j, hj with
  | 0, hj => simp at hj; subst hj; simp [Addr.add]
theorem one_ok (l : List UInt8) : ∀ u ∈ [Value.string (bA l)], u.oneCell' = true := by
  intro u hu
  rw [List.mem_singleton] at hu
  rw [hu]; rfl
theorem pop_slice (g cap n m : Nat) (hm : m ≤ cap) : ∃ vp, vp = Value.slice (some ⟨g, 0, none⟩) m cap ∧ ∀ W : World, (Instr.slice 33 (.slice (some ⟨g, 0, none⟩) n cap) none (some (.int .i64 (m : Int))) none).run Tryz.prog W = .ok vp W := by
  refine ⟨_, rfl, fun W => ?_⟩
  have h1 : (m : Int) ≤ (cap : Int) := by omega
  simp [go_sem, h1]
theorem dec_t {a b : Nat} (h : a = b) : decide (a = b) = true := decide_eq_true h
theorem dec_f {a b : Nat} (h : ¬ a = b) : decide (a = b) = false := decide_eq_false h

set_option maxHeartbeats 4000000 in
set_option maxRecDepth 100000 in
theorem resolve_any (p : List UInt8) (w : World) (hp : p.length ≤ 4000) : Calls Tryz.prog 71 #[.string (bA p)] w fun e w' => e = .returned (.string (bA (Urp.pathOf p))) ∧ Below w.heap.size w w' := by
  have hsp : Calls Tryz.prog 34 #[.string (bA p), .int .u8 47] w (RetTexts w (Urp.segs p)) := split_any (bA p) 47 w (by rw [bA_size]; omega)
  have hjl := Urp.join_path_len p
  have hne := Urp.walk_segs_ne p
  have hsl : (Urp.segs p).length ≤ 4001 := by have := Oct.split_len (fun x => x == 47) p; unfold Urp.segs; omega
  have hs0 : 0 < (Urp.segs p).length := Oct.split_pos _ p
  unfold Urp.pathOf
  obtain ⟨ps, hps⟩ : ∃ ps, Urp.segs p = ps := ⟨_, rfl⟩
  rw [hps] at hsp hjl hne hsl hs0 ⊢
  have HSP := Lib.hid hsp
  have HJL := Lib.hid hjl
  have HNE := Lib.hid hne
  clear hps hsp hjl hne
  obtain ⟨i0, hi, hz0, hz1, hz2⟩ := info_parts info_string
  have HI := Lib.hid hi; have HZ0 := Lib.hid hz0; have HZ1 := Lib.hid hz1; have HZ2 := Lib.hid hz2
  clear hi hz0 hz1 hz2
  go_enter Tryz.func71, Tryz.ntmps71
  go_wp2_with fail
  go_step3
  go_wp2_with fail
  refine HSP.out.mono ?_
  rintro e w1 ⟨v1, rfl, hb1, hown1⟩
  rcases owns_view2 hown1 with ⟨rfl, h0⟩ | ⟨g, cap, rfl, hcap, hg, _, hcells⟩
  · exfalso; rw [h0] at hs0; simp at hs0
  have HCE := Lib.hid hcells
  clear hown1 hcells
  go_wp2_with fail
  go_step3
  go_wp2_with fail
  go_loopw [4, 11] (fun v i wr => ∃ (k : Nat) (ks : List (List UInt8)), k ≤ ps.length ∧ i = .int .i64 k ∧ RvInv w1 wr ps (Urp.walk [] ps) ks k v) (fun _ i _ => ps.length - (intOf i).toNat)
  case atStart => exact ⟨0, [], by omega, rfl, Below.refl _ _, World.ownsRow_nil _ _ _ _, by simp, rfl⟩
  case round =>
    obtain ⟨k, ks, hk, rfl, hin⟩ := hrel
    by_cases hlt : k < ps.length
    · obtain ⟨hbel, hown, hle, hgo⟩ := hin
      have hsz := hbel.size
      have hce : wr.cell? ⟨g, k, none⟩ = some (.string (bA ps[k])) := by
        rw [hbel.cell (p := ⟨g, k, none⟩) hg]; exact HCE.out k hlt
      obtain ⟨x, hx⟩ : ∃ x, ps[k] = x := ⟨_, rfl⟩
      rw [hx] at hce
      have HX := Lib.hid hx
      have HGO := Lib.hid hgo
      clear hx hgo
      by_cases hd2 : x = [46, 46]
      · have hd2' : (x == [46, 46]) = true := beq_iff_eq.2 hd2
        have hmx : max (0 : Int) (-1) = 0 := by decide
        have hmy : ∀ m : Nat, max (0 : Int) (m : Int) = m := by intro m; omega
        obtain ⟨kd, hkd⟩ : ∃ kd, ks.dropLast = kd := ⟨_, rfl⟩
        have hkl : kd.length ≤ k := by rw [← hkd, List.length_dropLast]; omega
        by_cases hl : k + 1 = ps.length
        · have hl' : ¬ (k : Int) < (ps.length : Int) - 1 := by omega
          have hst : Urp.stepC (decide (k + 1 = ps.length)) ks ps[k] = kd ++ [[]] := by rw [HX.out, dec_t hl, hd2, ← hkd]; rfl
          have HST := Lib.hid hst
          have hps := owns_pops hown
          rw [hkd] at hps
          clear hst hkd hd2
          rcases hps with ⟨rfl, _, hp⟩ | ⟨g2, cap2, rfl, _, hp⟩ | ⟨g2, cap2, m, rfl, hm, hc2, hp⟩
          · clear hown
            go_wp2_with (at_builtin; refine wpList_append_own _ rfl _ _ 33 rfl w1.heap.size 9 i0 (.string ⟨#[]⟩) 1 16 Tryz.underlying33 HI.out HZ0.out HZ1.out HZ2.out rfl (by decide) _ _ _ rfl (hp.alloc _) ⟨wr.heap.size, 0, none⟩ 1 1 [.string (bA ([] : List UInt8))] rfl rfl ?_ ?_ ?_ ?_ ?_ ?_)
            all_goals first
              | exact one_cell _ _ _
              | exact one_ok _
              | rfl
              | (unfold maxLen; omega)
              | omega
              | (simp; done)
              | (simp; omega)
              | (intro v' w2 hown' hgrow _
                 have hD := rv_push (ks := ks) (ks' := kd) (x := ([] : List UInt8)) hbel hlt HGO.out HST.out hkl hp hown' hgrow
                 clear hown' hgrow
                 go_wp2_with fail
                 go_roundw
                 case rel => exact ⟨k + 1, _, by omega, by go_num, hD⟩
                 case measure => simp [intOf]; omega)
          · clear hown
            obtain ⟨vp, hvp, hpo⟩ := pop_slice g2 cap2 0 0 (Nat.zero_le _)
            rw [← hvp] at hp
            have hpo2 : ∀ W : World, (Instr.slice 33 (.slice (some ⟨g2, 0, none⟩) 0 cap2) none (some (.int .i64 0)) none).run Tryz.prog W = .ok vp W := hpo
            clear hvp hpo
            go_wp2_with (at_builtin; refine wpList_append_own _ rfl _ _ 33 rfl w1.heap.size 9 i0 (.string ⟨#[]⟩) 1 16 Tryz.underlying33 HI.out HZ0.out HZ1.out HZ2.out rfl (by decide) _ _ _ rfl (hp.alloc _) ⟨wr.heap.size, 0, none⟩ 1 1 [.string (bA ([] : List UInt8))] rfl rfl ?_ ?_ ?_ ?_ ?_ ?_)
            all_goals first
              | exact one_cell _ _ _
              | exact one_ok _
              | rfl
              | (unfold maxLen; omega)
              | omega
              | (simp; done)
              | (simp; omega)
              | (intro v' w2 hown' hgrow _
                 have hD := rv_push (ks := ks) (ks' := kd) (x := ([] : List UInt8)) hbel hlt HGO.out HST.out hkl hp hown' hgrow
                 clear hown' hgrow
                 go_wp2_with fail
                 go_roundw
                 case rel => exact ⟨k + 1, _, by omega, by go_num, hD⟩
                 case measure => simp [intOf]; omega)
          · clear hown
            obtain ⟨vp, hvp, hpo⟩ := pop_slice g2 cap2 (m + 1) m (by omega)
            rw [← hvp] at hp
            clear hvp
            go_wp2_with (at_builtin; refine wpList_append_own _ rfl _ _ 33 rfl w1.heap.size 9 i0 (.string ⟨#[]⟩) 1 16 Tryz.underlying33 HI.out HZ0.out HZ1.out HZ2.out rfl (by decide) _ _ _ rfl (hp.alloc _) ⟨wr.heap.size, 0, none⟩ 1 1 [.string (bA ([] : List UInt8))] rfl rfl ?_ ?_ ?_ ?_ ?_ ?_)
            all_goals first
              | exact one_cell _ _ _
              | exact one_ok _
              | rfl
              | (unfold maxLen; omega)
              | omega
              | (simp; done)
              | (simp; omega)
              | (intro v' w2 hown' hgrow _
                 have hD := rv_push (ks := ks) (ks' := kd) (x := ([] : List UInt8)) hbel hlt HGO.out HST.out hkl hp hown' hgrow
                 clear hown' hgrow
                 go_wp2_with fail
                 go_roundw
                 case rel => exact ⟨k + 1, _, by omega, by go_num, hD⟩
                 case measure => simp [intOf]; omega)
        · have hl' : (k : Int) < (ps.length : Int) - 1 := by omega
          have hst : Urp.stepC (decide (k + 1 = ps.length)) ks ps[k] = ks.dropLast := by rw [HX.out, dec_f hl, hd2]; rfl
          have HST := Lib.hid hst
          clear hst hkl hkd
          rcases owns_pops hown with ⟨rfl, _, hp⟩ | ⟨g2, cap2, rfl, _, hp⟩ | ⟨g2, cap2, m, rfl, hm, hc2, hp⟩
          all_goals
            clear hd2 hown
            have hD := rv_pop hbel hlt HGO.out HST.out hle hp
            go_wp2_with fail
            go_roundw
            case rel => exact ⟨k + 1, _, by omega, by go_num, hD⟩
            case measure => simp [intOf]; omega
      · have hd2' : (x == [46, 46]) = false := beq_eq_false_iff_ne.2 hd2
        by_cases hd1 : x = [46]
        · have hd1' : (x == [46]) = true := beq_iff_eq.2 hd1
          by_cases hl : k + 1 = ps.length
          · have hl' : ¬ (k : Int) < (ps.length : Int) - 1 := by omega
            have hst : Urp.stepC (decide (k + 1 = ps.length)) ks ps[k] = ks ++ [[]] := by rw [HX.out, dec_t hl, hd1]; rfl
            have HST := Lib.hid hst
            clear hst hd1 hd2
            go_wp2_with (at_builtin; refine wpList_append_own _ rfl _ _ 33 rfl w1.heap.size 9 i0 (.string ⟨#[]⟩) 1 16 Tryz.underlying33 HI.out HZ0.out HZ1.out HZ2.out rfl (by decide) _ _ _ rfl (hown.alloc _) ⟨wr.heap.size, 0, none⟩ 1 1 [.string (bA ([] : List UInt8))] rfl rfl ?_ ?_ ?_ ?_ ?_ ?_)
            all_goals first
              | exact one_cell _ _ _
              | exact one_ok _
              | rfl
              | (unfold maxLen; omega)
              | omega
              | (simp; done)
              | (simp; omega)
              | (intro v' w2 hown' hgrow _
                 have hD := rv_push (ks := ks) (ks' := ks) (x := ([] : List UInt8)) hbel hlt HGO.out HST.out hle hown hown' hgrow
                 clear hown' hgrow
                 go_wp2_with fail
                 go_roundw
                 case rel => exact ⟨k + 1, _, by omega, by go_num, hD⟩
                 case measure => simp [intOf]; omega)
          · have hl' : (k : Int) < (ps.length : Int) - 1 := by omega
            have hst : Urp.stepC (decide (k + 1 = ps.length)) ks ps[k] = ks := by rw [HX.out, dec_f hl, hd1]; rfl
            have hD := RvInv.keep ⟨hbel, hown, hle, HGO.out⟩ hlt hst
            clear hst hd1 hd2
            go_wp2_with fail
            go_roundw
            case rel => exact ⟨k + 1, _, by omega, by go_num, hD⟩
            case measure => simp [intOf]; omega
        · have hd1' : (x == [46]) = false := beq_eq_false_iff_ne.2 hd1
          have hst : Urp.stepC (decide (k + 1 = ps.length)) ks ps[k] = ks ++ [x] := by rw [HX.out]; exact Urp.step_x _ ks x hd2 hd1
          have HST := Lib.hid hst
          clear hst hd1 hd2
          go_wp2_with (at_builtin; refine wpList_append_own _ rfl _ _ 33 rfl w1.heap.size 9 i0 (.string ⟨#[]⟩) 1 16 Tryz.underlying33 HI.out HZ0.out HZ1.out HZ2.out rfl (by decide) _ _ _ rfl (hown.alloc _) ⟨wr.heap.size, 0, none⟩ 1 1 [.string (bA x)] rfl rfl ?_ ?_ ?_ ?_ ?_ ?_)
          all_goals first
            | exact one_cell _ _ _
            | exact one_ok _
            | rfl
            | (unfold maxLen; omega)
            | omega
            | (simp; done)
            | (simp; omega)
            | (intro v' w2 hown' hgrow _
               have hD := rv_push (ks := ks) (ks' := ks) (x := x) hbel hlt HGO.out HST.out hle hown hown' hgrow
               clear hown' hgrow
               go_wp2_with fail
               go_roundw
               case rel => exact ⟨k + 1, _, by omega, by go_num, hD⟩
               case measure => simp [intOf]; omega)
    · obtain rfl : k = ps.length := by omega
      obtain ⟨hbel, hown, hle, hgo⟩ := hin
      rw [Urp.walk_end ps ks ps.length (Nat.le_refl _)] at hgo
      have HNE' : ks ≠ [] := by rw [hgo]; exact HNE.out
      have hjl : (Oct.join 47 ks).length ≤ p.length := by rw [hgo]; exact HJL.out
      have HGO := Lib.hid hgo
      rcases owns_view2 hown with ⟨rfl, h0⟩ | ⟨g2, cap2, rfl, hcap2, hg2, _, hcells2⟩
      · exact absurd h0 HNE'
      have hcall := join_with 47 g2 0 cap2 ks wr (fun i h => by rw [Nat.zero_add]; exact hcells2 i h) hg2 hcap2 (by omega)
      have HJ := Lib.hid hcall
      clear hcells2 hcall hown hgo HNE'
      go_wp2_with fail
      refine HJ.out.mono ?_
      rintro e w2 ⟨rfl, hb2⟩
      go_wp2_with fail
      rw [Exit.noGoto_ret]
      go_ret
      exact ⟨by rw [← HGO.out]; rfl, below_on (below_on hb1 hbel) hb2⟩
end Go.Proofs.YtehjnidggnfbfaaGreatDoor
