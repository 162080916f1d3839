/- The walk of CoopPlusOnly. -/
import Derived.Test.YtgddmihojladfaaGreatDoorCoApp
namespace Go.Proofs.YtgddmihojladfaaGreatDoor
open Go.RowKit Go.Deep

/-- What stands while the calls of one statement are made: a list of headers, and policies in blocks. -/
structure RdyP (w0 : World) (A : Option Addr) (l : List Hd.Hdr) (Ls : List (Nat × TypeId × Co.Pol)) (W : World) : Prop where
  b : Below w0.heap.size w0 W
  seen : SeenH W A l
  boxes : ∀ t ∈ Ls, CBox W t.1 t.2.1 (plC t.2.2)
theorem RdyP.on {w0 : World} {A : Option Addr} {l : List Hd.Hdr} {Ls : List (Nat × TypeId × Co.Pol)} {W W' : World} (h : RdyP w0 A l Ls W) (hb : Below W.heap.size W W') : RdyP w0 A l Ls W' :=
  ⟨Below.onto h.b hb, h.seen.below hb, fun t ht => (h.boxes t ht).keep hb⟩
theorem RdyP.box {w0 : World} {A : Option Addr} {l : List Hd.Hdr} {Ls : List (Nat × TypeId × Co.Pol)} {W : World} (h : RdyP w0 A l Ls W) (t : TypeId) (p : Co.Pol) : RdyP w0 A l ((W.heap.size, t, p) :: Ls) (W.alloc (.cells (plC p) t)) := by
  have hb : Below W.heap.size W (W.alloc (.cells (plC p) t)) := (Below.refl _ W).alloc (Nat.le_refl _) _
  refine ⟨Below.onto h.b hb, h.seen.below hb, fun t' ht => ?_⟩
  rcases List.mem_cons.1 ht with rfl | ht
  · exact CBox.new _ _ _
  · exact (h.boxes t' ht).keep hb
/-- 'append(a, b...)' of lists of headers, a one's own, b lying somewhere or nil. -/
theorem wp_app {ops : Array Oper} {rest : List Oper} {o : Oper} {a : Act} {w : World} {Q : Exit → Act → World → Prop} (hgd : o.guard = none) (s x : Operand)
    (ho : o.op = .call { callee := .builtin .append, args := #[s, x], argTypes := #[23, 23] }) (base : Nat) (v : Value) (la lb : List Hd.Hdr) (hs : a.eval s = v) (hown : OwnH w base v la)
    (A : Option Addr) (n c m : Nat) (hx : a.eval x = .slice A n c) (hn : lb.length = n) (hnl : A = none → n = 0 ∧ c = 0) (hA : SeenH w A lb) (hm : la.length + n = m) (h63 : m ≤ maxLen) (hbytes : m * 32 ≤ 140737488355328) (hb : base ≤ w.heap.size)
    (h : ∀ A' c' w', OwnH w' base (.slice A' m c') (la ++ lb) → SeenH w' A' (la ++ lb) → Below base w w' → wpList Tryz.prog ops Q rest (a.put o.dst (.slice A' m c')) w') :
    wpList Tryz.prog ops Q (o :: rest) a w := by
  obtain ⟨i0, hi, hz0, hz1, hz2⟩ := info_parts info_hdr
  subst hn; subst hm
  have key : ∀ v' w', w'.ownsRow base 35 2 v' (la.length + lb.length) (rowH la ++ rowH lb) → w.grownBy w' v.ownBlock → wpList Tryz.prog ops Q rest (a.put o.dst v') w' := by
    intro v' w' r1 r2
    have hown' : OwnH w' base v' (la ++ lb) := by
      unfold OwnH
      rw [rowH_app, ← List.length_append] at r1
      exact r1
    obtain ⟨A', c', rfl, hs', _⟩ := hown'.slice
    rw [List.length_append] at hown' ⊢
    exact h A' c' w' hown' hs' ((Below.refl base w).grown r2 hb (fun k hk => (hown.lt k hk).1))
  rcases news_heads (l := lb) (c := c) rfl hnl hA with ⟨e, h0, h1⟩ | ⟨ad, c', e, hc⟩
  · refine wpList_append_own_none hgd s x 23 ho base 35 i0 2 Tryz.underlying23 hi v _ _ hs hown (hx.trans e) ?_
    exact key v w (by rw [h0, h1, Nat.add_zero, List.append_nil]; exact hown) ⟨rfl, rfl, rfl, Nat.le_refl _, fun _ _ _ => rfl⟩
  · refine wpList_append_own _ hgd s x 23 ho base 35 i0 _ 2 32 Tryz.underlying23 hi hz0 hz1 hz2 rfl (by decide) v _ _ hs hown ad lb.length c' (rowH lb) (hx.trans e) (rowH_len lb) hc (rowH_one lb) h63 hbytes hb ?_
    intro v' w' r1 r2 _
    exact key v' w' r1 r2
theorem bare_succ {l : List Hd.Hdr} {k : Nat} (h : k < l.length) : Co.bare (l.take (k + 1)) = Co.bare (l.take k) ++ if Hd.foldB l[k].name Co.nE then [] else [l[k]] := by
  unfold Co.bare
  rw [List.take_succ_eq_append_getElem h, List.filter_append]
  congr 1
  cases hb : Hd.foldB l[k].name Co.nE <;> simp [hb]
theorem bare_le (l : List Hd.Hdr) : (Co.bare l).length ≤ l.length := List.length_filter_le _ _
theorem small_bare {l : List Hd.Hdr} (h : SmallH l) : SmallH (Co.bare l) := ⟨Nat.le_trans (bare_le l) h.len, fun x hx => h.each x (List.mem_filter.1 hx).1⟩
theorem small_with {l : List Hd.Hdr} {v : List UInt8} (h : SmallH l) (hl : l.length ≤ 100) (hv : v.length ≤ 4000) : SmallH (Co.bare l ++ [⟨Co.nE, v⟩]) := ⟨by have := bare_le l; simp; omega, fun x hx => by
  rcases List.mem_append.1 hx with hx | hx
  · exact (small_bare h).each x hx
  · rw [List.mem_singleton.1 hx]; exact ⟨show Co.nE.length ≤ 10000 by decide, by show v.length ≤ 5000; omega⟩⟩
set_option maxHeartbeats 8000000 in
set_option maxRecDepth 100000 in
theorem walk_CoopPlusOnly (A : Option Addr) (c : Nat) (l : List Hd.Hdr) (vb : ByteArray) (w : World) (hW : WideHs w A c l) (hvb : vb.size ≤ maxLen) :
    Calls Tryz.prog 8 #[.slice A l.length c, .string vb] w fun e w' => e = .returned (.bool true) ∧ Below w.heap.size w w' := by
  unfold maxLen at hvb
  have hS := hW.seen
  have HS := Lib.hid hS
  have hlow := fun W (h : SeenH W A l) => low_any A c l.length l W rfl h
  obtain ⟨b, hb⟩ : ∃ b, lowB l = b := ⟨_, rfl⟩
  rw [hb] at hlow
  have HLOW := Lib.hid hlow
  clear hS hW hlow
  cases b with
  | false =>
    clear hb
    go_enter Tryz.func8, Tryz.ntmps8
    go_wp2_with fail
    refine (awake8_any _).mono ?_
    rintro e w1 ⟨rfl, hb1⟩
    go_wp2_with fail
    refine (HLOW.out _ (HS.out.below hb1)).mono ?_
    rintro e w2 ⟨rfl, rfl⟩
    go_wp2_with fail
    go_ret
    exact ⟨rfl, hb1⟩
  | true =>
    by_cases h4 : vb.size ≤ 4000
    · have h4z : ¬ ((4000 : Int) < (vb.size : Int)) := by omega
      have hsm := low_small hb
      have hll := low_len hb
      have smb := small_bare hsm
      have smw := small_with (v := vb.data.toList) hsm hll (show vb.data.toList.length ≤ 4000 from h4)
      have hbl : (Co.bare l).length ≤ 100 := by have := bare_le l; omega
      have hwl : (Co.bare l ++ [(⟨Co.nE, vb.data.toList⟩ : Hd.Hdr)]).length = (Co.bare l).length + 1 := by simp
      have c1 := fun A c W (h : SeenH W A (Co.bare l)) => coop_any A c (Co.bare l).length (Co.bare l) true W rfl smb h
      have c2 := fun A c W (h : SeenH W A (Co.bare l ++ [⟨Co.nE, vb.data.toList⟩])) => coop_any A c ((Co.bare l).length + 1) (Co.bare l ++ [⟨Co.nE, vb.data.toList⟩]) true W hwl smw h
      have c3 := fun A c W (h : SeenH W A (Co.bare l ++ [⟨Co.nE, vb.data.toList⟩])) => coep_any A c ((Co.bare l).length + 1) (Co.bare l ++ [⟨Co.nE, vb.data.toList⟩]) true W hwl smw h
      have hpl := Co.plus_only l vb.data.toList
      obtain ⟨⟨x1, x2, x3, x4⟩, hX⟩ : ∃ X, Co.coopL (Co.bare l) true = X := ⟨_, rfl⟩
      obtain ⟨⟨z1, z2, z3, z4⟩, hZ⟩ : ∃ Z, Co.coopL (Co.bare l ++ [⟨Co.nE, vb.data.toList⟩]) true = Z := ⟨_, rfl⟩
      obtain ⟨⟨y1, y2, y3, y4⟩, hY⟩ : ∃ Y, Co.coepL (Co.bare l ++ [⟨Co.nE, vb.data.toList⟩]) true = Y := ⟨_, rfl⟩
      rw [hX] at c1 hpl
      rw [hZ] at c2 hpl
      rw [hY] at c3 hpl
      unfold plV plC at c1 c2 c3
      dsimp only at c1 c2 c3 hpl
      obtain ⟨hp1, hp2, rfl⟩ := hpl
      have C1 := Lib.hid c1; have C2 := Lib.hid c2; have C3 := Lib.hid c3
      have HP1 := Lib.hid hp1; have HP2 := Lib.hid hp2
      have HL := Lib.hid hsm; have HLL := Lib.hid hll
      obtain ⟨i0, hi, hz0, hz1, hz2⟩ := info_parts info_hdr
      have HI := Lib.hid hi; have HZ0 := Lib.hid hz0; have HZ1 := Lib.hid hz1; have HZ2 := Lib.hid hz2
      clear c1 c2 c3 hp1 hp2 hX hY hZ hb hsm hll smb smw hwl h4 hvb hi hz0 hz1 hz2
      go_enter Tryz.func8, Tryz.ntmps8
      go_wp2_with fail
      refine (awake8_any _).mono ?_
      rintro e w1 ⟨rfl, hb1⟩
      go_wp2_with fail
      refine (HLOW.out _ (HS.out.below hb1)).mono ?_
      rintro e w2 ⟨rfl, hw21⟩
      subst hw21
      have HB1 := Lib.hid hb1
      clear hb1 HLOW
      have hll : l.length ≤ 1000 := by have := HLL.out; omega
      go_wp2
      go_loopw [7, 8] (fun vv i wr => ∃ k : Nat, k ≤ l.length ∧ i = .int .i64 k ∧ Hid (OwnH wr w.heap.size vv (Co.bare (l.take k))) ∧ Hid (Below w.heap.size w wr)) (fun _ i _ => l.length - (intOf i).toNat)
      case atStart => exact ⟨0, by omega, rfl, Lib.hid (own_nil _ _), HB1⟩
      case round =>
        obtain ⟨k, hk, rfl, hrow, hbel⟩ := hrel
        by_cases hlt : k < l.length
        · obtain ⟨g, o, rfl, hg, hc⟩ := HS.out.below hbel.out (by omega)
          have hce := hc k hlt
          have hsm := HL.out.each l[k] (List.getElem_mem hlt)
          have hps := bare_succ hlt
          obtain ⟨x, hx⟩ : ∃ x, l[k] = x := ⟨_, rfl⟩
          rw [hx] at hce hsm hps
          have c0 := hce.1; have c1 := hce.2
          have hpl := bare_le (l.take k)
          rw [List.length_take] at hpl
          have hpl2 : (Co.bare (l.take k)).length ≤ 1000 := by have := HLL.out; omega
          have hltz : (k : Int) < (l.length : Int) := by omega
          obtain ⟨b, hb⟩ : ∃ b, Hd.foldB x.name Co.nE = b := ⟨_, rfl⟩
          rw [hb] at hps
          have hcall := fun W => fold_val hsm.1 (by decide) W hb
          have HC := Lib.hid hcall
          clear hb hcall hc hx hsm hpl
          obtain ⟨P, hP⟩ : ∃ P, Co.bare (l.take k) = P := ⟨_, rfl⟩
          rw [hP] at hps hrow hpl2
          clear hP
          go_wp2_with fail
          refine (HC.out _).mono ?_
          rintro e w3 ⟨rfl, hb3⟩
          have hw3 : Below w.heap.size w w3 := Below.onto hbel.out hb3
          have hr3 : OwnH w3 w.heap.size _ P := OwnH.below hrow.out hb3
          have hce3 : Cells2 w3 g (o + k * 2) x := hce.below hg hb3
          clear hb3 hrow hbel c0 c1 hce
          cases b with
          | true =>
            have HPS : Hid (Co.bare (l.take (k + 1)) = P) := Lib.hid (by simpa using hps)
            have HW := Lib.hid hw3; have HR := Lib.hid hr3
            clear hps hw3 hr3 hce3
            go_wp2_with fail
            exact ⟨⟨k + 1, by omega, by go_num, by rw [HPS.out]; exact HR, HW⟩, by simp [intOf]; omega⟩
          | false =>
            have HPS : Hid (Co.bare (l.take (k + 1)) = P ++ [x]) := Lib.hid (by simpa using hps)
            have d0 := hce3.1; have d1 := hce3.2
            have hws : w.heap.size ≤ w3.heap.size := hw3.size
            have HW := Lib.hid hw3; have HR := Lib.hid hr3
            clear hps hw3 hr3 hce3
            go_wp2_with (at_builtin; refine wpList_append_own _ rfl _ _ 23 rfl w.heap.size 35 i0 (.agg #[.string ⟨#[]⟩, .string ⟨#[]⟩]) 2 32 Tryz.underlying23 HI.out HZ0.out HZ1.out HZ2.out rfl (by decide) _ _ _ rfl (HR.out.alloc _) ⟨w3.heap.size, 0, none⟩ 1 1 [.string (bA x.name), .string (bA x.value)] rfl rfl (cells_new _ _ _) (by simp [Value.oneCell']) (by unfold maxLen; omega) (by omega) (by simp; omega) ?_; intro v' w4 hown' hgrow _)
            have hb4 := hrow_step HW.out HR.out hgrow
            have hown4 : OwnH w4 w.heap.size v' (P ++ [x]) := by unfold OwnH; rw [rowH_snoc, List.length_append]; exact hown'
            exact ⟨⟨k + 1, by omega, by go_num, by rw [HPS.out]; exact Lib.hid hown4, Lib.hid hb4⟩, by simp [intOf]; omega⟩
        · obtain rfl : k = l.length := by omega
          have hrow2 := hrow.out
          rw [List.take_of_length_le (Nat.le_refl _)] at hrow2
          obtain ⟨A2, c2, rfl, hs2, _⟩ := hrow2.slice
          have hnl2 : A2 = none → (Co.bare l).length = 0 ∧ c2 = 0 := fun e => by
            subst e
            obtain ⟨_, ⟨h1, h2⟩ | ⟨g', cap', cur, h1, _⟩⟩ := hrow2
            · injection h1 with _ h5 h6
              exact ⟨h5, h6⟩
            · injection h1 with h5
              cases h5
          obtain ⟨PB, hPB⟩ : ∃ PB, Co.bare l = PB := ⟨_, rfl⟩
          rw [hPB] at hs2 hnl2 hbl C1 C2 C3 ⊢
          have hb0 : Below wr.heap.size wr wr := Below.refl _ _
          have HS2 := Lib.hid hs2
          clear hrow hrow2 hPB hs2
          have hl1 : PB.length ≤ maxLen := by unfold maxLen; omega
          have hl2 : PB.length + 1 ≤ maxLen := by unfold maxLen; omega
          go_wp2_with (at_builtin; first
            | (refine wp_app rfl _ _ rfl wr.heap.size _ [] PB rfl (own_none (World.alloc_heap_new wr _) (Nat.le_refl _)) A2 PB.length c2 PB.length rfl rfl hnl2 (HS2.out.below ((Below.refl _ _).alloc (Nat.le_refl _) _)) (Nat.zero_add _) hl1 (by omega) (by simp) ?_; intro A3 c3 w3 hown3 hs3 hbb3)
            | (refine wp_app rfl _ _ rfl wr.heap.size _ PB [⟨Co.nE, vb.data.toList⟩] rfl (hown3.alloc _) _ 1 _ (PB.length + 1) rfl rfl (fun e => by cases e) (seen_block (World.alloc_heap_new w3 _) rfl) rfl hl2 (by omega) (by have := hbb3.size; simp at this ⊢; omega) ?_; intro A4 c4 w4 hown4 hs4 hbb4))
          have hb4 : Below wr.heap.size wr w4 := by
            have h3 : Below wr.heap.size wr w3 := ((Below.refl wr.heap.size wr).alloc (Nat.le_refl _) _).trans hbb3
            exact (h3.alloc h3.size _).trans hbb4
          have HB4 := Lib.hid (Below.onto hbel.out hb4)
          have HS4 := Lib.hid (HS2.out.below hb4)
          have HM4 := Lib.hid hs4
          clear hown3 hs3 hbb3 hown4 hs4 hbb4 hb4 hbel hb0 HS2 hnl2
          refine (C1.out _ _ _ HS4.out).mono ?_
          rintro e w5 ⟨rfl, hb5⟩
          have r5 := (RdyP.on ⟨HB4.out, HM4.out, fun t ht => by simp at ht⟩ hb5 : RdyP w A4 (PB ++ [⟨Co.nE, vb.data.toList⟩]) [] w5).box 28 ⟨x1, x2, x3, x4⟩
          clear hb5 C1 HB4 HS4 HM4
          unfold plC at r5
          go_wp2_with fail
          refine (C2.out _ _ _ r5.seen).mono ?_
          rintro e w6 ⟨rfl, hb6⟩
          have r6 := (r5.on hb6).box 28 ⟨z1, x2, z3, z4⟩
          clear r5 hb6 C2
          unfold plC at r6
          go_wp2_with fail
          refine (C3.out _ _ _ r6.seen).mono ?_
          rintro e w7 ⟨rfl, hb7⟩
          have r7 := (r6.on hb7).box 30 ⟨y1, y2, y3, y4⟩
          clear r6 hb7 C3
          have k1 := r7.boxes _ (.head _)
          have k2 := r7.boxes _ (.tail _ (.head _))
          have k3 := r7.boxes _ (.tail _ (.tail _ (.head _)))
          dsimp only at k1 k2 k3
          have a0 := k1.c 0; have a1 := k1.c 1
          have b0 := k2.c 0; have b1 := k2.c 1
          have d0 := k3.c 0; have d1 := k3.c 1
          have HB := Lib.hid r7.b
          unfold plC at a0 a1 b0 b1 d0 d1 HB
          clear k1 k2 k3 r7
          have i1 := fun W => isolates_any y1 W
          obtain ⟨bi, hbi⟩ : ∃ bi, Co.isoB y1 = bi := ⟨_, rfl⟩
          rw [hbi] at i1
          have hp1 := HP1.out
          rw [hbi] at hp1
          have hp2 := HP2.out
          have hp2b : (x1 != 3) = true := by simpa using hp2
          have I1 := Lib.hid i1
          clear i1 hbi HP1 HP2
          by_cases h2 : x1 = 2
          · subst h2
            cases bi with
            | true =>
              obtain rfl : z1 = 3 := by rw [hp1, if_pos ⟨rfl, rfl⟩]
              clear hp1 hp2 hp2b
              go_wp2_with fail
              refine (I1.out _).mono ?_
              rintro e w8 ⟨rfl, rfl⟩
              go_wp2_with fail
              all_goals
                go_ret
                exact ⟨by simp, HB.out⟩
            | false =>
              obtain rfl : z1 = 2 := by rw [hp1, if_neg (fun h => Bool.noConfusion h.2)]
              clear hp1 hp2 hp2b
              go_wp2_with fail
              refine (I1.out _).mono ?_
              rintro e w8 ⟨rfl, rfl⟩
              go_wp2_with fail
              all_goals
                go_ret
                exact ⟨by simp, HB.out⟩
          · obtain rfl : z1 = x1 := by rw [hp1, if_neg (fun h => h2 h.1)]
            have h2b : (z1 == 2) = false := by simpa using h2
            clear hp1 hp2
            go_wp2_with fail
            all_goals first
              | (exfalso; simp_all; done)
              | (go_ret; exact ⟨by simp, HB.out⟩)
    · have h4z : (4000 : Int) < (vb.size : Int) := by omega
      clear h4
      go_enter Tryz.func8, Tryz.ntmps8
      go_wp2_with fail
      refine (awake8_any _).mono ?_
      rintro e w1 ⟨rfl, hb1⟩
      go_wp2_with fail
      refine (HLOW.out _ (HS.out.below hb1)).mono ?_
      rintro e w2 ⟨rfl, rfl⟩
      go_wp2_with fail
      go_ret
      exact ⟨rfl, hb1⟩
end Go.Proofs.YtgddmihojladfaaGreatDoor
