/- The contract of the document's Params. -/
import Derived.Test.YtgddmihojladfaaGreatDoorSfRef9
import Derived.Test.YtgddmihojladfaaGreatDoorSfRefV
namespace Go.Proofs.YtgddmihojladfaaGreatDoor
open Go.RowKit Go.Shelf Go.Maps Go.Deep

structure RInv (w : World) (s : List UInt8) (k : Nat) (sv v : Value) (wr : World) (acc : List Sf.Par) (rest : List UInt8) : Prop where
  sv : sv = .string (bA rest)
  k : rest.length = k
  len : acc.length + rest.length ≤ s.length
  row : wr.ownsRow w.heap.size 72 4 v acc.length (parsRow acc)
  below : Below w.heap.size w wr
  eq : Sf.parsF (rest.length + 1) acc rest = Sf.pars s
theorem put_len (l : List Sf.Par) (p : Sf.Par) : (Sf.put l p).length ≤ l.length + 1 := by
  unfold Sf.put
  split <;> simp
theorem RInv.next {w wr w2 w3 : World} {s t r : List UInt8} {k : Nat} {sv v v3 : Value} {acc : List Sf.Par} {p : Sf.Par} (h : RInv w s k sv v wr acc (59 :: t)) (hp : Sf.one t = some (p, r)) (hb : Below wr.heap.size wr w2) (hb3 : Below w2.heap.size w2 w3) (hw : w3.ownsRow w2.heap.size 72 4 v3 (Sf.put acc p).length (parsRow (Sf.put acc p))) :
    RInv w s r.length (.string (bA r)) v3 w3 (Sf.put acc p) r := by
  have hl := Sf.one_len hp
  have hpl := put_len acc p
  have hlen := h.len
  have hbw := onto h.below hb
  exact ⟨rfl, rfl, by simp at hlen; omega, owns_base4 hw hbw.size, onto hbw hb3, by rw [← h.eq, pars_step hp]⟩
theorem one_plain {t k r : List UInt8} (hk : Sf.keyOf (Sf.blk t) = some (k, r)) (hr : r.headD 0 ≠ 61) : Sf.one t = some (⟨k, 6, 1, []⟩, r) := by
  unfold Sf.one; rw [hk]; simp only; rw [if_neg hr]
theorem one_val {t k u : List UInt8} (hk : Sf.keyOf (Sf.blk t) = some (k, 61 :: u)) : Sf.one t = match Sf.value u with | none => none | some (v, r') => some (⟨k, v.kind, v.n, v.text⟩, r') := by
  unfold Sf.one; rw [hk]; rfl
theorem one_none {t : List UInt8} (hk : Sf.keyOf (Sf.blk t) = none) : Sf.one t = none := by unfold Sf.one; rw [hk]

set_option maxHeartbeats 4000000 in
set_option maxRecDepth 100000 in
theorem rparams_any (s : List UInt8) (w : World) (hs : s.length ≤ 1000000) : Calls Tryz.prog 73 #[.string (bA s)] w (RetL w (Sf.pars s)) := by
  have hst : RInv w s s.length (.string (bA s)) (.slice none 0 0) w [] s := ⟨rfl, rfl, by simp, World.ownsRow_nil _ _ _ _, Below.refl _ _, rfl⟩
  have HS := Lib.hid hst
  obtain ⟨o, ho⟩ : ∃ o, Sf.pars s = o := ⟨_, rfl⟩
  rw [ho]
  have HO := Lib.hid ho
  clear ho hst
  go_enter Tryz.func73, Tryz.ntmps73
  go_wp2_with fail
  go_loopg [0, 5] s.length (fun k sv v wr => ∃ acc rest, RInv w s k sv v wr acc rest)
  case atStart => exact ⟨_, _, HS.out⟩
  case round =>
    obtain ⟨acc, rest, hI⟩ := hrel
    obtain ⟨va, vc, rfl⟩ := slice4 hI.row
    have hsv := hI.sv
    subst hsv
    have hlen := hI.len
    have HV := Lib.hid hI
    clear hI HS
    cases rest with
    | nil =>
      have hn : o = some (acc, []) := by rw [← HO.out, ← HV.out.eq]; exact pars_stop _ (by simp)
      subst hn
      clear HO
      go_wp2_with fail
      go_ret3
      exact ⟨HV.out.below, .inl ⟨acc, [], _, rfl, rfl, HV.out.row⟩⟩
    | cons c t =>
      have hl2 := hlen
      simp only [List.length_cons] at hl2
      have htl : t.length ≤ 1000000 := by omega
      by_cases hc : c = 59
      · subst hc
        have h0 : ((((bA (59 :: t))[0]'(Nat.succ_pos _)).toNat : Int) == 59) = true := rfl
        have HX := Lib.hid (tail_bA 59 t)
        have hbl := blk_len t
        have H1 := Lib.hid (sblank_any t wr)
        have H2 := Lib.hid (rkey_any (Sf.blk t) wr (by omega))
        go_wp2_with fail
        rw [HX.out]
        refine H1.out.mono ?_
        rintro e w1 ⟨rfl, rfl⟩
        clear H1 h0
        go_wp2_with fail
        refine H2.out.mono ?_
        rintro e w2 ⟨rfl, q, hq⟩
        have HB : Hid (Below wr.heap.size wr w2) := by rw [Hid, hq]; exact below_drew wr q
        clear H2 HX hq
        cases hk : Sf.keyOf (Sf.blk t) with
        | none =>
          have hn : o = none := by rw [← HO.out, ← HV.out.eq]; exact pars_none (one_none hk)
          subst hn
          unfold keyV
          clear hk
          go_wp2_with fail
          go_ret3
          exact ⟨onto HV.out.below HB.out, .inr ⟨rfl, rfl⟩⟩
        | some x =>
          obtain ⟨k, r⟩ := x
          have HK := Lib.hid hk
          clear hk
          unfold keyV
          cases r with
          | nil =>
            have HP := Lib.hid (one_plain HK.out (by simp))
            have hB2 := below_al HB.out (.cells (pC ⟨k, 6, 1, []⟩) 72)
            have H3 := Lib.hid (rwith_any va vc acc ⟨k, 6, 1, []⟩ _ ((SeenP.own HV.out.row).below hB2) (by omega))
            have HB2 := Lib.hid hB2
            clear hB2
            go_wp2_with fail
            refine H3.out.mono ?_
            rintro e w3 ⟨v3, rfl, hb3, hw3⟩
            have HN := Lib.hid (HV.out.next HP.out HB2.out hb3 hw3)
            have hrl := Sf.one_len HP.out
            obtain ⟨va3, vc3, rfl⟩ := slice4 hw3
            clear hb3 hw3 H3 HB2
            go_wp2_with fail
            go_roundg ([] : List UInt8).length
            case measure => have := HV.out.k; simp only [List.length_cons] at this; simp; omega
            case rel => exact ⟨_, _, HN.out⟩
          | cons d u =>
            have hrl0 := keyOf_len HK.out
            by_cases hd : d = 61
            · subst hd
              have h1 : ((((bA (61 :: u))[0]'(Nat.succ_pos _)).toNat : Int) == 61) = true := rfl
              have HX2 := Lib.hid (tail_bA 61 u)
              have H3 := Lib.hid (rvalue_all u (w2.alloc (.cells (pC ⟨[], 6, 1, []⟩) 72)) (by simp at hrl0; omega))
              have HO1 := Lib.hid (one_val HK.out)
              have HBP := Lib.hid (CBox.new w2 72 (pC ⟨[], 6, 1, []⟩))
              have HB2 := Lib.hid (below_al HB.out (.cells (pC ⟨[], 6, 1, []⟩) 72))
              go_wp2_with fail
              rw [HX2.out]
              refine H3.out.mono ?_
              rintro e w3 ⟨rfl, hb3⟩
              have HBP3 := Lib.hid (HBP.out.keep hb3)
              have HB3 := Lib.hid (onto HB2.out hb3)
              clear hb3 H3 HX2 HBP HB2 h1
              cases hv : Sf.value u with
              | none =>
                have hn : o = none := by rw [← HO.out, ← HV.out.eq]; exact pars_none (by rw [show parOf (Sf.blk t) = Sf.one t from rfl, HO1.out, hv])
                subst hn
                unfold rvalV zPar
                clear hv
                go_wp2_with fail
                go_ret3
                exact ⟨onto HV.out.below (below_al HB3.out _), .inr ⟨rfl, rfl⟩⟩
              | some x =>
                obtain ⟨x, r'⟩ := x
                have hp : Sf.one t = some (⟨k, x.kind, x.n, x.text⟩, r') := by rw [HO1.out, hv]
                have HP := Lib.hid hp
                have hlt := HBP3.out.lt
                have hne : ¬ w3.heap.size = w2.heap.size := by omega
                have hne' : ¬ w2.heap.size = w3.heap.size := by omega
                obtain ⟨c0, c1, c2, c3, f0, f1, f2, f3⟩ := HBP3.out.all4
                unfold rvalV parV pC
                clear hv hp
                have hgS : w3.grownBy ((set4 w3 w2.heap.size (.string (bA x.key)) (.int .i64 x.kind) (.int .i64 x.n) (.string (bA x.text))).setCell ⟨w2.heap.size, 0, none⟩ (.string (bA k))) (some w2.heap.size) := g_set (g_set4 (g_refl _ _) _ _ _ _ (.inr rfl)) _ (.inr rfl)
                have hB6 := below_al (HB3.out.grown hgS HB3.out.size (fun j hj => by cases hj; exact HB.out.size)) (.cells #[.string (bA x.key), .int .i64 x.kind, .int .i64 x.n, .string (bA x.text)] 72)
                have H6 := Lib.hid (rwith_any va vc acc ⟨k, x.kind, x.n, x.text⟩ _ ((SeenP.own HV.out.row).below hB6) (by omega))
                have HB6 := Lib.hid hB6
                clear hgS hB6
                go_wp2_with fail
                refine H6.out.mono ?_
                rintro e w7 ⟨v7, rfl, hb7, hw7⟩
                have HN := Lib.hid (HV.out.next HP.out HB6.out hb7 hw7)
                have hrl := Sf.one_len HP.out
                obtain ⟨va7, vc7, rfl⟩ := slice4 hw7
                clear hb7 hw7 H6 HB6 c0 c1 c2 c3 f0 f1 f2 f3
                go_wp2_with fail
                go_roundg r'.length
                case measure => have := HV.out.k; simp only [List.length_cons] at this; omega
                case rel => exact ⟨_, _, HN.out⟩
            · have h1 : ((((bA (d :: u))[0]'(Nat.succ_pos _)).toNat : Int) == 61) = false := by rw [head_bA]; exact byte_off hd
              have HP := Lib.hid (one_plain HK.out (by simpa using hd))
              have hB2 := below_al HB.out (.cells (pC ⟨k, 6, 1, []⟩) 72)
              have H3 := Lib.hid (rwith_any va vc acc ⟨k, 6, 1, []⟩ _ ((SeenP.own HV.out.row).below hB2) (by omega))
              have HB2 := Lib.hid hB2
              clear hB2 hd
              go_wp2_with fail
              refine H3.out.mono ?_
              rintro e w3 ⟨v3, rfl, hb3, hw3⟩
              have HN := Lib.hid (HV.out.next HP.out HB2.out hb3 hw3)
              have hrl := Sf.one_len HP.out
              obtain ⟨va3, vc3, rfl⟩ := slice4 hw3
              clear hb3 hw3 H3 HB2
              go_wp2_with fail
              go_roundg (d :: u).length
              case measure => have := HV.out.k; simp only [List.length_cons] at this hrl ⊢; omega
              case rel => exact ⟨_, _, HN.out⟩
      · have h0 : ((((bA (c :: t))[0]'(Nat.succ_pos _)).toNat : Int) == 59) = false := by rw [head_bA]; exact byte_off hc
        have hn : o = some (acc, c :: t) := by rw [← HO.out, ← HV.out.eq]; exact pars_stop _ (by simpa using hc)
        subst hn
        clear HO
        go_wp2_with fail
        go_ret3
        exact ⟨HV.out.below, .inl ⟨acc, _, _, rfl, rfl, HV.out.row⟩⟩
end Go.Proofs.YtgddmihojladfaaGreatDoor
