/- The contracts of the document's Text and Inner. -/
import Derived.Test.YtbeckddgelcbhaaGreatDoorUrlpRef4
import Derived.Test.YtbeckddgelcbhaaGreatDoorUrlpText
import Derived.Test.YtbeckddgelcbhaaGreatDoorHostRtext
namespace Go.Proofs.YtbeckddgelcbhaaGreatDoor
open Go.RowKit

set_option maxHeartbeats 4000000 in
theorem rutext_any (u : Urp.URL) (w : World) (hS : SmallU u) (hT : Tab w) : Calls Tryz.prog 8 #[urlV u] w fun e w' => e = .returned (.string (bA (utextL u))) ∧ Below w.heap.size w w' := by
  obtain ⟨s1, s2, a0, a1, p0, p1, s3, s4, s5⟩ := hS
  have hb0 : Below w.heap.size w (w.alloc (.cells (uCells u) 26)) := (Below.refl _ w).alloc (Nat.le_refl _) _
  have hR0 : TxReady w w.heap.size u (w.alloc (.cells (uCells u) 26)) := ⟨hb0, hT.below hb0, UBox.new w u⟩
  unfold urlV
  unfold uCells at hR0 ⊢
  cases hn : Urp.netB u.scheme with
  | false =>
    have hte : utextL u = u.scheme ++ [58] ++ u.rest := by unfold utextL; rw [hn]; rfl
    rw [hte]
    have HN := Lib.hid hn
    have HR := Lib.hid hR0
    clear hn hte hR0 hb0
    go_enter Tryz.func8, Tryz.ntmps8
    go_wp2_with fail
    refine (rnetV_any _ _ _ _ _ _ _ _ _ _).mono ?_
    rintro e w1 ⟨rfl, hb1⟩
    have r1 := TxReady.below hb1 HR.out
    have en : Urp.netB (bA u.scheme).data.toList = Urp.netB u.scheme := rfl
    rw [en, HN.out]
    clear hb1 en
    have c0 := r1.box.c0; have c8 := r1.box.c8
    have hB := r1.bel
    clear r1
    go_wp2_with fail
    go_ret
    refine ⟨Oct.ret_str ?_, hB⟩
    show bA u.scheme ++ bA [58] ++ bA u.rest = _
    rw [bA_app, bA_app]
  | true =>
    have hte : utextL u = u.scheme ++ [58, 47, 47] ++ textL u.host ++ portT u.port ++ u.path ++ queryT u := by unfold utextL; rw [hn]; rfl
    rw [hte]
    have HN := Lib.hid hn
    have HR := Lib.hid hR0
    obtain ⟨ht, hht⟩ : ∃ t, textL u.host = t := ⟨_, rfl⟩
    rw [hht]
    have HTX : Hid (∀ W : World, Tab W → Calls Tryz.prog 15 #[.agg #[.string (bA u.host.name), .bool u.host.v4, .int .u32 u.host.addr]] W fun e w' => e = .returned (.string (bA ht)) ∧ Below W.heap.size W w') := Lib.hid (fun W hW => by
      rw [← hht]; exact rtext_any (bA u.host.name) u.host.v4 u.host.addr W hW a0 a1)
    have htl : ht.length ≤ 4000 := by rw [← hht]; exact textL_len u.host s2 a0 a1
    have hz1 : ∀ W : World, (Op.stringOp .add (bA u.scheme) ⟨#[58, 47, 47]⟩).run Tryz.prog W = .ok (.string (bA u.scheme ++ ⟨#[58, 47, 47]⟩)) W := fun W => run_string_add_sum W _ _ (by
      have e1 : (bA u.scheme).size = u.scheme.length := rfl
      have e2 : (⟨#[58, 47, 47]⟩ : ByteArray).size = 3 := rfl
      omega)
    have hz2 : ∀ W : World, (Op.stringOp .add (bA u.scheme ++ ⟨#[58, 47, 47]⟩) (bA ht)).run Tryz.prog W = .ok (.string (bA u.scheme ++ ⟨#[58, 47, 47]⟩ ++ bA ht)) W := fun W => run_string_add_sum W _ _ (by
      have e1 : (bA u.scheme).size = u.scheme.length := rfl
      have e2 : (⟨#[58, 47, 47]⟩ : ByteArray).size = 3 := rfl
      have e3 : (bA ht).size = ht.length := rfl
      rw [ByteArray.size_append]
      omega)
    have hil := Lib.itoa_length_le u.port p0 p1
    clear hn hte hR0 hb0 hht
    have key : ∀ (P Q : List UInt8), portT u.port = P → queryT u = Q → Calls Tryz.prog 8 #[.agg #[.string (bA u.scheme), .string (bA u.host.name), .bool u.host.v4, .int .u32 u.host.addr, .int .i64 u.port, .string (bA u.path), .bool u.hasq, .string (bA u.query), .string (bA u.rest)]] w fun e w' => e = .returned (.string (bA (u.scheme ++ [58, 47, 47] ++ ht ++ P ++ u.path ++ Q))) ∧ Below w.heap.size w w' := by
      intro P Q hP hQ
      unfold portT at hP
      unfold queryT at hQ
      by_cases hp : 0 ≤ u.port
      · rw [if_pos hp] at hP
        rcases Bool.eq_false_or_eq_true u.hasq with hq | hq
        ·
          rw [hq, if_pos rfl] at hQ
          subst hP; subst hQ
          have HQ := Lib.hid hq
          clear hq
          go_enter Tryz.func8, Tryz.ntmps8
          go_wp2_with fail
          refine (rnetV_any _ _ _ _ _ _ _ _ _ _).mono ?_
          rintro e w1 ⟨rfl, hb1⟩
          have hR := TxReady.below hb1 HR.out
          have en : Urp.netB (bA u.scheme).data.toList = Urp.netB u.scheme := rfl
          rw [en, HN.out]
          clear hb1 en
          go_wp2_with fail
          go_region_held3 (fun w' => w'.cell? ⟨w.heap.size, 0, none⟩ = some (.string (bA u.scheme)) ∧ w'.cell? ⟨w.heap.size, 1, none⟩ = some (.string (bA u.host.name)) ∧ w'.cell? ⟨w.heap.size, 2, none⟩ = some (.bool u.host.v4) ∧ w'.cell? ⟨w.heap.size, 3, none⟩ = some (.int .u32 u.host.addr) ∧ TxReady w w.heap.size u w')
            (first
              | exact hR.all
              | exact hR.drew.all
              | exact hR2.all)
            (first
              | (go_at_call 15; refine (HTX.out _ hR.drew.tab).mono ?_; rintro e w2 ⟨rfl, hb2⟩; have hR2 := TxReady.below hb2 hR.drew))
          have k4 := hR2.box.c4
          go_wp2_with fail
          refine (itoa_all u.port _ p0 p1 hR2.tab).mono ?_
          rintro e w3 ⟨rfl, hb3⟩
          have r3 := TxReady.below hb3 hR2
          have hB := r3.bel
          have k5 := r3.box.c5; have k6 := r3.box.c6; have k7 := r3.box.c7
          rw [HQ.out] at k6
          go_wp2_with fail
          go_ret
          refine ⟨Oct.ret_str ?_, hB⟩
          show bA u.scheme ++ bA [58, 47, 47] ++ bA ht ++ bA [58] ++ bA (Lib.itoa u.port) ++ bA u.path ++ bA [63] ++ bA u.query = _
          simp only [bA_app, List.append_assoc]; rfl
        ·
          rw [hq, if_neg (by simp)] at hQ
          subst hP; subst hQ
          have HQ := Lib.hid hq
          clear hq
          go_enter Tryz.func8, Tryz.ntmps8
          go_wp2_with fail
          refine (rnetV_any _ _ _ _ _ _ _ _ _ _).mono ?_
          rintro e w1 ⟨rfl, hb1⟩
          have hR := TxReady.below hb1 HR.out
          have en : Urp.netB (bA u.scheme).data.toList = Urp.netB u.scheme := rfl
          rw [en, HN.out]
          clear hb1 en
          go_wp2_with fail
          go_region_held3 (fun w' => w'.cell? ⟨w.heap.size, 0, none⟩ = some (.string (bA u.scheme)) ∧ w'.cell? ⟨w.heap.size, 1, none⟩ = some (.string (bA u.host.name)) ∧ w'.cell? ⟨w.heap.size, 2, none⟩ = some (.bool u.host.v4) ∧ w'.cell? ⟨w.heap.size, 3, none⟩ = some (.int .u32 u.host.addr) ∧ TxReady w w.heap.size u w')
            (first
              | exact hR.all
              | exact hR.drew.all
              | exact hR2.all)
            (first
              | (go_at_call 15; refine (HTX.out _ hR.drew.tab).mono ?_; rintro e w2 ⟨rfl, hb2⟩; have hR2 := TxReady.below hb2 hR.drew))
          have k4 := hR2.box.c4
          go_wp2_with fail
          refine (itoa_all u.port _ p0 p1 hR2.tab).mono ?_
          rintro e w3 ⟨rfl, hb3⟩
          have r3 := TxReady.below hb3 hR2
          have hB := r3.bel
          have k5 := r3.box.c5; have k6 := r3.box.c6; have k7 := r3.box.c7
          rw [HQ.out] at k6
          go_wp2_with fail
          go_ret
          refine ⟨Oct.ret_str ?_, hB⟩
          show bA u.scheme ++ bA [58, 47, 47] ++ bA ht ++ bA [58] ++ bA (Lib.itoa u.port) ++ bA u.path = _
          simp only [bA_app, List.append_nil, List.append_assoc]; rfl
      · rw [if_neg hp] at hP
        have hp' : u.port < 0 := by omega
        rcases Bool.eq_false_or_eq_true u.hasq with hq | hq
        ·
          rw [hq, if_pos rfl] at hQ
          subst hP; subst hQ
          have HQ := Lib.hid hq
          clear hq
          go_enter Tryz.func8, Tryz.ntmps8
          go_wp2_with fail
          refine (rnetV_any _ _ _ _ _ _ _ _ _ _).mono ?_
          rintro e w1 ⟨rfl, hb1⟩
          have hR := TxReady.below hb1 HR.out
          have en : Urp.netB (bA u.scheme).data.toList = Urp.netB u.scheme := rfl
          rw [en, HN.out]
          clear hb1 en
          go_wp2_with fail
          go_region_held3 (fun w' => w'.cell? ⟨w.heap.size, 0, none⟩ = some (.string (bA u.scheme)) ∧ w'.cell? ⟨w.heap.size, 1, none⟩ = some (.string (bA u.host.name)) ∧ w'.cell? ⟨w.heap.size, 2, none⟩ = some (.bool u.host.v4) ∧ w'.cell? ⟨w.heap.size, 3, none⟩ = some (.int .u32 u.host.addr) ∧ TxReady w w.heap.size u w')
            (first
              | exact hR.all
              | exact hR.drew.all
              | exact hR2.all)
            (first
              | (go_at_call 15; refine (HTX.out _ hR.drew.tab).mono ?_; rintro e w2 ⟨rfl, hb2⟩; have hR2 := TxReady.below hb2 hR.drew))
          have k4 := hR2.box.c4
          have hB := hR2.bel
          have k5 := hR2.box.c5; have k6 := hR2.box.c6; have k7 := hR2.box.c7
          rw [HQ.out] at k6
          go_wp2_with fail
          go_ret
          refine ⟨Oct.ret_str ?_, hB⟩
          show bA u.scheme ++ bA [58, 47, 47] ++ bA ht ++ bA u.path ++ bA [63] ++ bA u.query = _
          simp only [bA_app, List.append_nil, List.append_assoc]; rfl
        ·
          rw [hq, if_neg (by simp)] at hQ
          subst hP; subst hQ
          have HQ := Lib.hid hq
          clear hq
          go_enter Tryz.func8, Tryz.ntmps8
          go_wp2_with fail
          refine (rnetV_any _ _ _ _ _ _ _ _ _ _).mono ?_
          rintro e w1 ⟨rfl, hb1⟩
          have hR := TxReady.below hb1 HR.out
          have en : Urp.netB (bA u.scheme).data.toList = Urp.netB u.scheme := rfl
          rw [en, HN.out]
          clear hb1 en
          go_wp2_with fail
          go_region_held3 (fun w' => w'.cell? ⟨w.heap.size, 0, none⟩ = some (.string (bA u.scheme)) ∧ w'.cell? ⟨w.heap.size, 1, none⟩ = some (.string (bA u.host.name)) ∧ w'.cell? ⟨w.heap.size, 2, none⟩ = some (.bool u.host.v4) ∧ w'.cell? ⟨w.heap.size, 3, none⟩ = some (.int .u32 u.host.addr) ∧ TxReady w w.heap.size u w')
            (first
              | exact hR.all
              | exact hR.drew.all
              | exact hR2.all)
            (first
              | (go_at_call 15; refine (HTX.out _ hR.drew.tab).mono ?_; rintro e w2 ⟨rfl, hb2⟩; have hR2 := TxReady.below hb2 hR.drew))
          have k4 := hR2.box.c4
          have hB := hR2.bel
          have k5 := hR2.box.c5; have k6 := hR2.box.c6; have k7 := hR2.box.c7
          rw [HQ.out] at k6
          go_wp2_with fail
          go_ret
          refine ⟨Oct.ret_str ?_, hB⟩
          show bA u.scheme ++ bA [58, 47, 47] ++ bA ht ++ bA u.path = _
          simp only [bA_app, List.append_nil]
    exact key _ _ rfl rfl
set_option maxHeartbeats 1000000 in
theorem rinner_of (u : Urp.URL) (w : World) (hP : RParsesAt u.rest) : Calls Tryz.prog 6 #[urlV u] w fun e w' => e = .returned (inV (Urp.innerU u)) ∧ Below w.heap.size w w' := by
  have hb0 : Below w.heap.size w ((w.alloc (.cells (uCells u) 26)).alloc (.cells (uCells Urp.zeroU) 26)) := ((Below.refl _ w).alloc (Nat.le_refl _) _).alloc (by simp) _
  have q0 : UBox ((w.alloc (.cells (uCells u) 26)).alloc (.cells (uCells Urp.zeroU) 26)) (w.heap.size + 1) Urp.zeroU := by
    have := UBox.new (w.alloc (.cells (uCells u) 26)) Urp.zeroU
    simpa using this
  by_cases hs : u.scheme = Urp.sBlob
  · have hs' : (u.scheme == [98, 108, 111, 98]) = true := beq_iff_eq.2 hs
    have hin : Urp.innerU u = Urp.netU u.rest := by unfold Urp.innerU; rw [if_pos hs]
    rw [hin]
    obtain ⟨o, ho⟩ : ∃ o, Urp.netU u.rest = o := ⟨_, rfl⟩
    rw [ho]
    have HO := Lib.hid ho
    have HP := Lib.hid hP
    clear hs hin hP ho
    have HB := Lib.hid hb0
    unfold urlV
    unfold uCells at q0 hb0 ⊢
    go_enter Tryz.func6, Tryz.ntmps6
    go_wp2_with fail
    refine (HP.out _).mono ?_
    rintro e w1 ⟨rfl, hb1⟩
    have q1 := UBox.keep q0 hb1
    have hbw1 := below_on hb0 hb1
    clear hb0 q0 hb1
    unfold resV urlV uCells
    obtain ⟨x, hx⟩ : ∃ x, getU (Urp.parse u.rest) = x := ⟨_, rfl⟩
    obtain ⟨e, he⟩ : ∃ e, errU (Urp.parse u.rest) = e := ⟨_, rfl⟩
    rw [hx, he]
    have HX := Lib.hid hx
    have hez : Urp.netB x.scheme = true → (e != 0) = false := by
      intro hn
      rw [← he]
      cases hp : Urp.parse u.rest with
      | ok y => rfl
      | error e2 =>
        rw [hp] at hx
        rw [← hx] at hn
        cases hn
    have HEZ := Lib.hid hez
    clear hx he hez
    go_wp2_with fail
    refine (rnetV_any _ _ _ _ _ _ _ _ _ _).mono ?_
    rintro e2 w2 ⟨rfl, hb2⟩
    have hq : ∀ o : Obj, UBox (w1.alloc o) (w.heap.size + 1) Urp.zeroU := fun o => q1.alloc o
    have q2 := (hq _).keep hb2
    have qx := (UBox.new w1 x).keep hb2
    have hbw2 := below_on (hbw1.alloc hbw1.size _) hb2
    clear hb2 hq q1
    have c0 := qx.c0; have c1 := qx.c1; have c2 := qx.c2; have c3 := qx.c3; have c4 := qx.c4; have c5 := qx.c5; have c6 := qx.c6; have c7 := qx.c7; have c8 := qx.c8
    have d0 := q2.c0; have d1 := q2.c1; have d2 := q2.c2; have d3 := q2.c3; have d4 := q2.c4; have d5 := q2.c5; have d6 := q2.c6; have d7 := q2.c7; have d8 := q2.c8
    have f := q2.fr
    cases hn : Urp.netB (bA x.scheme).data.toList with
    | false =>
      have HN := Lib.hid hn
      clear hn
      rcases Bool.eq_false_or_eq_true (e != 0) with hez | hez
      all_goals
        go_wp2_with fail
        refine bodyPost_ret (results_url rfl _ _ rfl (q2.set Urp.zeroU)) rfl ⟨?_, below_set9 hbw2 (by omega) Urp.zeroU⟩
        rw [← HO.out, netU_no (by rw [HX.out]; exact HN.out)]; rfl
    | true =>
      have HN := Lib.hid hn
      have hez := HEZ.out hn
      clear hn
      go_wp2_with fail
      refine bodyPost_ret (results_url rfl _ _ rfl (q2.set x)) rfl ⟨?_, below_set9 hbw2 (by omega) x⟩
      rw [← HO.out, netU_yes (by rw [HX.out]; exact HN.out), HX.out]; rfl
  · have hs' : (u.scheme == [98, 108, 111, 98]) = false := beq_eq_false_iff_ne.2 hs
    have hin : Urp.innerU u = none := by unfold Urp.innerU; rw [if_neg hs]
    rw [hin]
    have HB := Lib.hid hb0
    have HQ := Lib.hid q0
    clear hs hin hb0 q0
    unfold urlV uCells
    go_enter Tryz.func6, Tryz.ntmps6
    go_wp2_with fail
    exact bodyPost_ret (results_url rfl _ _ rfl HQ.out) rfl ⟨rfl, HB.out⟩

theorem rinner_any (u : Urp.URL) (w : World) (hl : u.rest.length ≤ 4000) : Calls Tryz.prog 6 #[urlV u] w fun e w' => e = .returned (inV (Urp.innerU u)) ∧ Below w.heap.size w w' :=
  rinner_of u w (fun W => ruparse_any u.rest W hl)
theorem rnet_any (u : Urp.URL) (w : World) : Calls Tryz.prog 10 #[urlV u] w fun e w' => e = .returned (.bool (Urp.netB u.scheme)) ∧ Below w.heap.size w w' :=
  rnetV_any (bA u.scheme) (bA u.host.name) u.host.v4 u.host.addr u.port (bA u.path) u.hasq (bA u.query) (bA u.rest) w
end Go.Proofs.YtbeckddgelcbhaaGreatDoor
