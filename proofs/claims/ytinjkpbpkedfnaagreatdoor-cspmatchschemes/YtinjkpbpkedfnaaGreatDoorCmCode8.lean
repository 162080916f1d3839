/- The contract of the program's anyForEach. -/
import Derived.Test.YtinjkpbpkedfnaaGreatDoorCmCode7
namespace Go.Proofs.YtinjkpbpkedfnaaGreatDoor
open Go.RowKit

/-- What stands while expressions are read, and tried: the arguments' own things. -/
structure RdyEach (w0 : World) (C : Nat) (me : Orig) (A : Option Addr) (l : List (List UInt8)) (A2 : Option Addr) (os : List Orig) (W : World) : Prop where
  bel : Below w0.heap.size w0 W
  y : OBox W C me
  t : SeenT W A l
  l : SeenOs W A2 os
  tab : Tab W
  tab8 : Tab8 W
theorem RdyEach.below {w0 : World} {C : Nat} {me : Orig} {A : Option Addr} {l : List (List UInt8)} {A2 : Option Addr} {os : List Orig} {W W' : World} (h : RdyEach w0 C me A l A2 os W) (hb : Below W.heap.size W W') : RdyEach w0 C me A l A2 os W' :=
  ⟨Below.onto h.bel hb, h.y.keep hb, h.t.below hb, h.l.below hb, tab_below h.tab hb, h.tab8.below hb⟩
theorem below_al {w W : World} (h : Below w.heap.size w W) (o : Obj) : Below w.heap.size w (W.alloc o) := h.alloc h.size o
theorem alB (W : World) (o : Obj) : Below W.heap.size W (W.alloc o) := (Below.refl _ W).alloc (Nat.le_refl _) o
set_option maxHeartbeats 8000000 in
set_option maxRecDepth 20000 in
theorem cmEach_any (A : Option Addr) (c : Nat) (l : List (List UInt8)) (A2 : Option Addr) (c2 : Nat) (os : List Orig) (me : Orig) (w : World) (hT : Tab w) (h8 : Tab8 w) (hm : FitM me) (hF : ∀ o ∈ os, FitM o) (hos : os.length ≤ 10000) (hl : l.length ≤ 10000) (hle : ∀ t ∈ l, t.length ≤ 10000) (hA : SeenT w A l) (hA2 : SeenOs w A2 os) :
    Calls Tryz.prog 46 #[.slice A l.length c, .slice A2 os.length c2, origV me] w fun e w' => e = .returned (.bool (os.all fun o => Cm.anyB l o me)) ∧ Below w.heap.size w w' := by
  have hb0 : Below w.heap.size w (w.alloc (.cells (oCells me) 31)) := alB _ _
  have h0 : RdyEach w w.heap.size me A l A2 os (w.alloc (.cells (oCells me) 31)) := ⟨hb0, OBox.new w me, hA.below hb0, hA2.below hb0, tab_below hT hb0, h8.below hb0⟩
  have HX := Lib.hid h0
  have HP := Lib.hid (fun t (h : t ∈ l) W hW hW8 => cmParse_any t W hW hW8 (hle t h))
  have HM := Lib.hid (fun t (h : t ∈ l) o (ho : o ∈ os) W hW hW8 => cmMatch_any (Cm.parse t) o me W hW hW8 (fit_parse (hle t h)) (hF o ho) hm)
  have hany : ∀ o, Cm.anyB l o me = (l.map Cm.parse).any fun s => Cm.matchB s o me := fun o => by unfold Cm.anyB; rw [List.any_map]; rfl
  have HAN := Lib.hid hany
  have HMEM : Hid (∀ s ∈ l.map Cm.parse, ∃ t, t ∈ l ∧ Cm.parse t = s) := Lib.hid (fun s h => by obtain ⟨t, h1, h2⟩ := List.mem_map.1 h; exact ⟨t, h1, h2⟩)
  have hlen : (l.map Cm.parse).length = l.length := List.length_map ..
  have HLN := Lib.hid hlen
  obtain ⟨R, hR⟩ : ∃ r, (os.all fun o => Cm.anyB l o me) = r := ⟨_, rfl⟩
  have HR := Lib.hid hR
  rw [hR]
  clear hb0 h0 hany hlen hR hT h8 hm hF hle hA hA2
  unfold origV at *
  go_enter Tryz.func46, Tryz.ntmps46
  obtain ⟨w1, hw1⟩ : ∃ W, (w.alloc (.cells (oCells me) 31)) = W := ⟨_, rfl⟩
  have HX1 : Hid (RdyEach w w.heap.size me A l A2 os w1) := Lib.hid (by rw [← hw1]; exact HX.out)
  go_wp2_with fail
  clear hw1 HX
  obtain ⟨C, hC⟩ : ∃ C, w.heap.size = C := ⟨_, rfl⟩
  simp only [hC] at HX1 ⊢
  clear hC
  go_step3
  go_wp2
  go_loopw [7, 16] (fun ov i wr => ∃ k : Nat, k ≤ l.length ∧ i = .int .i64 k ∧ Hid (OwnS wr w1.heap.size ov ((l.map Cm.parse).take k)) ∧ Hid (Below w1.heap.size w1 wr)) (fun _ i _ => l.length - (intOf i).toNat)
  case atStart => exact ⟨0, by omega, rfl, Lib.hid (OwnS.nil _ _), Lib.hid (Below.refl _ _)⟩
  case round =>
    obtain ⟨k, hk, rfl, hown, hbel⟩ := hrel
    have hrd := HX1.out.below hbel.out
    by_cases hlt : k < l.length
    · obtain ⟨g, q, rfl, hg, hc⟩ := hrd.t (by omega)
      have hce := hc k hlt
      have hp := HP.out l[k] (List.getElem_mem hlt) wr hrd.tab hrd.tab8
      have hnext : (l.map Cm.parse).take (k + 1) = (l.map Cm.parse).take k ++ [Cm.parse l[k]] := by
        rw [List.take_succ_eq_append_getElem (by rw [HLN.out]; exact hlt), List.getElem_map]
      obtain ⟨t, ht⟩ : ∃ t, l[k] = t := ⟨_, rfl⟩
      rw [ht] at hce hp hnext
      obtain ⟨s, hs⟩ : ∃ s, Cm.parse t = s := ⟨_, rfl⟩
      rw [hs] at hp hnext
      obtain ⟨L, hL⟩ : ∃ L, (l.map Cm.parse).take k = L := ⟨_, rfl⟩
      have hLl : L.length = k := by rw [← hL, List.length_take, HLN.out]; omega
      rw [hL] at hown hnext
      unfold srcV srcC at hp
      have HPP := Lib.hid hp; have HN := Lib.hid hnext
      obtain ⟨A3, c3, rfl⟩ := hown.out.slice
      rw [hLl] at hown
      rw [hLl]
      clear hc hp hnext ht hs hL hrd
      go_wp2_with fail
      refine HPP.out.mono ?_
      rintro e w2 ⟨rfl, hb2⟩
      have HB2 := Lib.hid (hbel.out.trans (hb2.mono hbel.out.size))
      have HO2 := Lib.hid (hown.out.below hb2)
      clear hb2 HPP hce
      have HB3 := Lib.hid (HB2.out.alloc HB2.out.size (.cells (srcC s) 24))
      go_wp2_with (at_builtin; refine wp_appS rfl _ _ rfl w1.heap.size _ L s rfl (World.ownsRow.alloc HO2.out _) w2.heap.size 1 rfl (CBox.new w2 _ _) (k + 1) (by omega) (by unfold maxLen; omega) (by omega) HB3.out.size ?_; intro A4 c4 w4 hown4 hb4)
      have HB4 := Lib.hid (HB3.out.trans hb4)
      exact ⟨⟨k + 1, by omega, by go_num, by rw [HN.out]; exact Lib.hid hown4, HB4⟩, by simp [intOf]; omega⟩
    · obtain rfl : k = l.length := by omega
      obtain ⟨ls, hls⟩ : ∃ ls, l.map Cm.parse = ls := ⟨_, rfl⟩
      rw [List.take_of_length_le (by rw [HLN.out]; exact Nat.le_refl _)] at hown
      rw [hls] at hown HLN
      have HA2 : Hid (∀ o, Cm.anyB l o me = ls.any fun s => Cm.matchB s o me) := Lib.hid (by rw [← hls]; exact HAN.out)
      have HM2 : Hid (∀ s, s ∈ ls → ∀ o, o ∈ os → ∀ W, Tab W → Tab8 W → Calls Tryz.prog 15 #[srcV s, .agg (oCells o), .agg (oCells me)] W fun e w' => e = .returned (.bool (Cm.matchB s o me)) ∧ Below W.heap.size W w') := Lib.hid (fun s hs o ho W h1 h2 => by
        rw [← hls] at hs
        obtain ⟨t, ht, rfl⟩ := HMEM.out s hs
        exact HM.out t ht o ho W h1 h2)
      have HX2 := Lib.hid hrd
      have hall : ∀ o, Cm.anyB l o me = ls.any fun s => Cm.matchB s o me := HA2.out
      obtain ⟨A3, c3, rfl⟩ := hown.out.slice
      have HSS := Lib.hid hown.out.seen
      have hlsl : ls.length ≤ 10000 := by rw [HLN.out]; exact hl
      clear HP HM HMEM HAN hls hown hrd hall hbel HX1 hlt hk
      obtain ⟨w9, rfl⟩ : ∃ W, W = wr := ⟨_, rfl⟩
      go_wp2_with fail
      go_step3
      go_wp2
      go_loopw [28] (fun i wq => ∃ k : Nat, k ≤ os.length ∧ i = .int .i64 k ∧ Hid (((os.take k).all fun o => Cm.anyB l o me) = true) ∧ Hid (Below w9.heap.size w9 wq)) (fun i _ => os.length - (intOf i).toNat)
      case atStart => exact ⟨0, by omega, rfl, Lib.hid rfl, Lib.hid (Below.refl _ _)⟩
      case round =>
        obtain ⟨k, hk, rfl, hno, hbel⟩ := hrel
        obtain ⟨wq, rfl⟩ : ∃ W, W = wr := ⟨_, rfl⟩
        have hrd := HX2.out.below hbel.out
        by_cases hlt : k < os.length
        · obtain ⟨g, q, rfl, hg, hc⟩ := hrd.l (by omega)
          clear hc
          have hmem : os[k] ∈ os := List.getElem_mem hlt
          have hmiss : (ls.any fun s => Cm.matchB s os[k] me) = false → R = false := fun h => by
            rw [← HR.out]
            exact List.all_eq_false.2 ⟨_, hmem, by rw [HA2.out, h]; simp⟩
          have hnext : (ls.any fun s => Cm.matchB s os[k] me) = true → ((os.take (k + 1)).all fun o => Cm.anyB l o me) = true := fun h => by
            rw [List.take_succ_eq_append_getElem hlt, List.all_append, hno.out]
            simp [HA2.out, h]
          have hmo := fun s hs => HM2.out s hs os[k] hmem
          have hz := hrd.l.at k hlt rfl
          obtain ⟨o, ho⟩ : ∃ o, os[k] = o := ⟨_, rfl⟩
          rw [ho] at hmiss hnext hmo hz
          obtain ⟨z0, z1, z2, z3, z4, z5, z6⟩ := hz
          unfold srcV srcC oCells at hmo
          have HMO := Lib.hid hmo; have HMI := Lib.hid hmiss; have HNX := Lib.hid hnext
          have HOB := Lib.hid (OBox.new wq o)
          have HQ := Lib.hid hrd; have HBQ := Lib.hid (alB wq (.cells (oCells o) 31))
          unfold oCells at HOB HBQ
          clear hmem hmiss hnext hmo ho hrd
          go_wp2_with fail
          obtain ⟨w3, hw3⟩ : ∃ W, wq.alloc (.cells #[.bool o.op, .int .i64 o.id, .string (bA o.scheme), .string (bA o.host.name), .bool o.host.v4, .int .u32 o.host.addr, .int .i64 o.port] 31) = W := ⟨_, rfl⟩
          have HOB3 : Hid (OBox w3 wq.heap.size o) := Lib.hid (by rw [← hw3]; exact HOB.out)
          have HBQ3 : Hid (Below wq.heap.size wq w3) := Lib.hid (by rw [← hw3]; exact HBQ.out)
          rw [hw3]
          clear hw3 HOB HBQ z0 z1 z2 z3 z4 z5 z6
          obtain ⟨O, hO⟩ : ∃ O, wq.heap.size = O := ⟨_, rfl⟩
          rw [hO] at HOB3
          simp only [hO]
          have HB3 := Lib.hid (Below.onto hbel.out HBQ3.out)
          clear hO HBQ3 hbel
          go_loopw [34] (fun i wx => ∃ j : Nat, j ≤ ls.length ∧ i = .int .i64 j ∧ Hid (((ls.take j).any fun s => Cm.matchB s o me) = false) ∧ Hid (Below w3.heap.size w3 wx)) (fun i _ => ls.length - (intOf i).toNat)
          case atStart => exact ⟨0, by omega, rfl, Lib.hid rfl, Lib.hid (Below.refl _ _)⟩
          case round =>
            obtain ⟨j, hj, rfl, hnj, hbx⟩ := hrel
            obtain ⟨wx, rfl⟩ : ∃ W, W = wr := ⟨_, rfl⟩
            have hbx2 := Below.onto HB3.out hbx.out
            have hrx := HX2.out.below hbx2
            have hox := HOB3.out.keep hbx.out
            by_cases hjl : j < ls.length
            · have hss := HSS.out.below hbx2
              obtain ⟨gs, e, hgs, hc⟩ := hss (by omega)
              clear hc
              cases e
              have hsm : ls[j] ∈ ls := List.getElem_mem hjl
              have hsa := hss.at j hjl rfl
              have hmm := HMO.out ls[j] hsm
              have hfound : Cm.matchB ls[j] o me = true → (ls.any fun s => Cm.matchB s o me) = true := fun h => List.any_eq_true.2 ⟨_, hsm, h⟩
              have hgo : Cm.matchB ls[j] o me = false → ((ls.take (j + 1)).any fun s => Cm.matchB s o me) = false := fun h => by
                rw [List.take_succ_eq_append_getElem hjl, List.any_append, hnj.out]; simp [h]
              obtain ⟨s, hs⟩ : ∃ s, ls[j] = s := ⟨_, rfl⟩
              rw [hs] at hsa hmm hfound hgo
              obtain ⟨m, hm⟩ : ∃ b, Cm.matchB s o me = b := ⟨_, rfl⟩
              rw [hm] at hmm hfound hgo
              obtain ⟨a0, a1, a2, a3⟩ := hsa
              have xa := fun o => (hox.keep (alB wx o)).all
              have ya := fun o => (hrx.y.keep (alB wx o)).all
              have x0 := fun o => (xa o).1; have x1 := fun o => (xa o).2.1; have x2 := fun o => (xa o).2.2.1; have x3 := fun o => (xa o).2.2.2.1; have x4 := fun o => (xa o).2.2.2.2.1; have x5 := fun o => (xa o).2.2.2.2.2.1; have x6 := fun o => (xa o).2.2.2.2.2.2
              have y0 := fun o => (ya o).1; have y1 := fun o => (ya o).2.1; have y2 := fun o => (ya o).2.2.1; have y3 := fun o => (ya o).2.2.2.1; have y4 := fun o => (ya o).2.2.2.2.1; have y5 := fun o => (ya o).2.2.2.2.2.1; have y6 := fun o => (ya o).2.2.2.2.2.2
              clear xa ya
              have HMM := Lib.hid hmm; have HF := Lib.hid hfound; have HG := Lib.hid hgo
              have HRX := Lib.hid (hrx.below (alB wx (.cells (srcC s) 24)))
              have HBX := Lib.hid (below_al hbx.out (.cells (srcC s) 24)); have HBY := Lib.hid (below_al hbx2 (.cells (srcC s) 24))
              unfold srcC at HRX HBX HBY
              clear hss hsm hmm hfound hgo hs hm hbx2 hrx hox
              go_wp2_with fail
              refine (HMM.out _ HRX.out.tab HRX.out.tab8).mono ?_
              rintro e w5 ⟨rfl, hb5⟩
              cases m with
              | true =>
                have HN := Lib.hid (HNX.out (HF.out rfl))
                have HB5 := Lib.hid (Below.onto HBY.out hb5)
                clear hb5 x0 x1 x2 x3 x4 x5 x6 y0 y1 y2 y3 y4 y5 y6 a0 a1 a2 a3
                go_wp2_with fail
                exact ⟨⟨k + 1, by omega, by go_num, HN, HB5⟩, by simp [intOf]; omega⟩
              | false =>
                have HN := Lib.hid (HG.out rfl)
                have HB5 := Lib.hid (Below.onto HBX.out hb5)
                clear hb5 x0 x1 x2 x3 x4 x5 x6 y0 y1 y2 y3 y4 y5 y6 a0 a1 a2 a3
                go_wp2_with fail
                exact ⟨⟨j + 1, by omega, by go_num, HN, HB5⟩, by simp [intOf]; omega⟩
            · obtain rfl : j = ls.length := by omega
              have hn := hnj.out
              rw [List.take_of_length_le (Nat.le_refl _)] at hn
              have HN := Lib.hid (HMI.out hn)
              have HBE := Lib.hid (Below.onto HX2.out.bel hbx2)
              clear hn hnj hbx2 hrx hox
              go_wp2_with fail
              rw [Exit.noGoto_ret]
              go_ret
              exact ⟨by rw [HN.out]; rfl, HBE.out⟩
        · obtain rfl : k = os.length := by omega
          have hn := hno.out
          rw [List.take_of_length_le (Nat.le_refl _), HR.out] at hn
          have HN := Lib.hid hn
          have HBE := Lib.hid (Below.onto HX2.out.bel hbel.out)
          clear hn hno hrd
          go_wp2_with fail
          rw [Exit.noGoto_ret]
          go_ret
          exact ⟨by rw [HN.out]; rfl, HBE.out⟩
end Go.Proofs.YtinjkpbpkedfnaaGreatDoor
