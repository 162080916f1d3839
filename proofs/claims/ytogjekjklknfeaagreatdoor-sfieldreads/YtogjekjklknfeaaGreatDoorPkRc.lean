/- Texts of one layer, joined. -/
import Derived.Test.YtogjekjklknfeaaGreatDoorPkSame
import Derived.Test.YtogjekjklknfeaaGreatDoorPkRb

/- The contract of the document's With. -/

namespace Go.Proofs.YtogjekjklknfeaaGreatDoor
open Go.RowKit Go.Shelf Go.Maps Go.Deep

def hasK (l : List Sf.Par) (p : Sf.Par) : Bool := l.any fun q => q.key == p.key
def repL (l : List Sf.Par) (p : Sf.Par) (j : Nat) : List Sf.Par := (l.take j).map (Sf.rep p)
structure WInv (w : World) (l : List Sf.Par) (p : Sf.Par) (j : Nat) (v : Value) (wr : World) : Prop where
  row : wr.ownsRow (w.heap.size + 1) 53 4 v j (parsRow (repL l p j))
  box : CBox wr w.heap.size 53 (pC p)
  below : Below w.heap.size w wr
  sz : w.heap.size + 1 ≤ wr.heap.size
theorem repL_next {l : List Sf.Par} {p q : Sf.Par} {j : Nat} (h : j < l.length) (hq : Sf.rep p l[j] = q) : repL l p (j + 1) = repL l p j ++ [q] := by
  unfold repL
  rw [List.take_succ_eq_append_getElem h, List.map_append, List.map_singleton, hq]
theorem hasK_next {l : List Sf.Par} {p : Sf.Par} {j : Nat} (h : j < l.length) : hasK (l.take (j + 1)) p = (hasK (l.take j) p || l[j].key == p.key) := by
  unfold hasK
  rw [List.take_succ_eq_append_getElem h, List.any_append]; simp
theorem put_yes {l : List Sf.Par} {p : Sf.Par} (h : hasK l p = true) : Sf.put l p = repL l p l.length := by
  unfold Sf.put repL
  rw [if_pos (by exact h), List.take_length]; rfl
theorem hasK_keys (l : List Sf.Par) (p : Sf.Par) : hasK l p = true ↔ p.key ∈ Sf.keys l := by
  unfold hasK Sf.keys
  simp
theorem put_no {l : List Sf.Par} {p : Sf.Par} (h : hasK l p = false) : Sf.put l p = repL l p l.length ++ [p] := by
  have hn : p.key ∉ Sf.keys l := by rw [← hasK_keys, h]; simp
  unfold repL
  rw [Sf.put_new hn, List.take_length, Sf.rep_none hn]
theorem WInv.app {w wr w7 : World} {l : List Sf.Par} {p q : Sf.Par} {j : Nat} {v v7 : Value} (h : WInv w l p j v wr) (o : Obj) (hown : w7.ownsRow (w.heap.size + 1) 53 4 v7 (j + 1) (parsRow (repL l p j) ++ [.string (bA q.key), .int .i64 q.kind, .int .i64 q.n, .string (bA q.text)])) (hg : (wr.alloc o).grownBy w7 v.ownBlock) :
    w7.ownsRow (w.heap.size + 1) 53 4 v7 (j + 1) (parsRow (repL l p j ++ [q])) ∧ CBox w7 w.heap.size 53 (pC p) ∧ Below w.heap.size w w7 ∧ w.heap.size + 1 ≤ w7.heap.size := by
  have hsz := h.sz
  have hs7 := hg.size
  simp at hs7
  refine ⟨by rw [parsRow_snoc]; exact hown, (h.box.alloc o).kept hg (own_ne4 h.row (by omega)), (below_al h.below o).grown hg (by simp; omega) (fun k hk => by have := (h.row.lt k hk).1; omega), by omega⟩

theorem WInv.drew {w wr : World} {l : List Sf.Par} {p : Sf.Par} {j : Nat} {v : Value} (h : WInv w l p j v wr) (q : Nat) : WInv w l p j v (wr.drewN q) := ⟨h.row, h.box, ⟨h.below.os, h.below.tape, h.below.output, h.below.size, h.below.block⟩, h.sz⟩
set_option maxHeartbeats 4000000 in
set_option maxRecDepth 100000 in
theorem rwith_any (A : Option Addr) (cp : Nat) (l : List Sf.Par) (p : Sf.Par) (w : World) (hA : SeenP w A l) (hl : l.length ≤ 1000000) :
    Calls Tryz.prog 134 #[.slice A l.length cp, parV p] w fun e w' => ∃ v, e = .returned v ∧ Below w.heap.size w w' ∧ w'.ownsRow w.heap.size 53 4 v (Sf.put l p).length (parsRow (Sf.put l p)) := by
  obtain ⟨i0, hi, hz0, hz1, hz2⟩ := info_parts info_par
  have HI := Lib.hid hi; have HZ0 := Lib.hid hz0; have HZ1 := Lib.hid hz1; have HZ2 := Lib.hid hz2
  have hst : WInv w l p 0 (.slice none 0 0) (w.alloc (.cells (pC p) 53)) := ⟨World.ownsRow_nil _ _ _ _, CBox.new _ _ _, (Below.refl _ _).alloc (Nat.le_refl _) _, by simp⟩
  have HS := Lib.hid hst
  have HA := Lib.hid hA
  have HB0 := Lib.hid (CBox.new w 53 (pC p))
  clear hi hz0 hz1 hz2 hst hA
  unfold parV pC
  go_enter Tryz.func134, Tryz.ntmps134
  go_wp2_with fail
  go_loopg [5, 6, 7] l.length (fun k v dn i wr => ∃ j, l.length - j = k ∧ j ≤ l.length ∧ i = .int .i64 ((j : Nat) : Int) ∧ dn = .bool (hasK (l.take j) p) ∧ WInv w l p j v wr)
  case atStart => exact ⟨0, rfl, Nat.zero_le _, rfl, rfl, HS.out⟩
  case round =>
    obtain ⟨j, hk, hj, rfl, rfl, hI⟩ := hrel
    obtain ⟨va, vc, rfl⟩ := slice4 hI.row
    have HV := Lib.hid hI
    have hsz := hI.sz
    clear hI HS
    by_cases hjl : j < l.length
    · obtain ⟨g, of, rfl, hab, hcell⟩ := HA.out.below HV.out.below (by omega)
      obtain ⟨a0, a1, a2, a3⟩ := hcell j hjl
      obtain ⟨c0, c1, c2, c3, _, _, _, _⟩ := HV.out.box.all4
      obtain ⟨q, hq⟩ : ∃ q, l[j] = q := ⟨_, rfl⟩
      rw [hq] at a0 a1 a2 a3
      have HQ := Lib.hid hq
      clear hq hcell
      go_wp2_with fail
      go_quiet (fail)
      have HV5 := Lib.hid (HV.out.drew nq)
      obtain ⟨w5, hw5⟩ : ∃ w5, wr.drewN nq = w5 := ⟨_, rfl⟩
      have hab5 : g < w5.heap.size := by rw [← hw5]; exact hab
      have hsz5 : w.heap.size + 1 ≤ w5.heap.size := by rw [← hw5]; exact hsz
      have b0 : w5.cell? ⟨g, of + j * 4, none⟩ = some (.string (bA q.key)) := by rw [← hw5]; exact a0
      have b1 : w5.cell? ⟨g, of + j * 4 + 1, none⟩ = some (.int .i64 q.kind) := by rw [← hw5]; exact a1
      have b2 : w5.cell? ⟨g, of + j * 4 + 2, none⟩ = some (.int .i64 q.n) := by rw [← hw5]; exact a2
      have b3 : w5.cell? ⟨g, of + j * 4 + 3, none⟩ = some (.string (bA q.text)) := by rw [← hw5]; exact a3
      rw [hw5] at HV5 ⊢
      have HK := Lib.hid (hasK_next (p := p) hjl)
      rw [HQ.out] at HK
      clear a0 a1 a2 a3 c0 c1 c2 c3 hab hsz hw5 HV
      obtain ⟨c0, c1, c2, c3, _, _, _, _⟩ := HV5.out.box.all4
      cases hb : (q.key == p.key) with
      | true =>
        have HRP : Hid (Sf.rep p q = p) := Lib.hid (by unfold Sf.rep; rw [if_pos hb])
        rw [hb] at HK
        clear hb b0 b1 b2 b3
        go_wp2_with (at_builtin; refine wpList_append_own _ rfl _ _ 33 rfl (w.heap.size + 1) 53 i0 (.agg zP) 4 48 Tryz.underlying33 HI.out HZ0.out HZ1.out HZ2.out rfl (by decide) _ _ _ rfl (HV5.out.row.alloc _) ⟨w5.heap.size, 0, none⟩ 1 1 [.string (bA p.key), .int .i64 p.kind, .int .i64 p.n, .string (bA p.text)] rfl rfl (cells_new _ #[.string (bA p.key), .int .i64 p.kind, .int .i64 p.n, .string (bA p.text)] _) ?_ ?_ ?_ ?_ ?_)
        · intro u hu; simp at hu; rcases hu with rfl | rfl | rfl | rfl <;> rfl
        · unfold maxLen; omega
        · omega
        · simp; omega
        intro v' w7 hown7 hg7 _
        obtain ⟨r1, r2, r3, r4⟩ := HV5.out.app (q := p) _ hown7 hg7
        obtain ⟨va7, vc7, rfl⟩ := slice4 hown7
        have HR : Hid (WInv w l p (j + 1) (.slice va7 (j + 1) vc7) w7) := Lib.hid ⟨by rw [repL_next hjl (by rw [HQ.out]), HRP.out]; exact r1, r2, r3, r4⟩
        clear hown7 hg7 r1 r2 r3 r4
        go_wp2_with fail
        go_roundg (l.length - (j + 1))
        case measure => omega
        case rel => exact ⟨j + 1, rfl, by omega, by go_num, by rw [HK.out, Bool.or_true], HR.out⟩
      | false =>
        have HRP : Hid (Sf.rep p q = q) := Lib.hid (by unfold Sf.rep; rw [if_neg (by rw [hb]; simp)])
        rw [hb] at HK
        clear hb c0 c1 c2 c3
        go_wp2_with (at_builtin; refine wpList_append_own _ rfl _ _ 33 rfl (w.heap.size + 1) 53 i0 (.agg zP) 4 48 Tryz.underlying33 HI.out HZ0.out HZ1.out HZ2.out rfl (by decide) _ _ _ rfl (HV5.out.row.alloc _) ⟨w5.heap.size, 0, none⟩ 1 1 [.string (bA q.key), .int .i64 q.kind, .int .i64 q.n, .string (bA q.text)] rfl rfl (cells_new _ #[.string (bA q.key), .int .i64 q.kind, .int .i64 q.n, .string (bA q.text)] _) ?_ ?_ ?_ ?_ ?_)
        · intro u hu; simp at hu; rcases hu with rfl | rfl | rfl | rfl <;> rfl
        · unfold maxLen; omega
        · omega
        · simp; omega
        intro v' w7 hown7 hg7 _
        obtain ⟨r1, r2, r3, r4⟩ := HV5.out.app (q := q) _ hown7 hg7
        obtain ⟨va7, vc7, rfl⟩ := slice4 hown7
        have HR : Hid (WInv w l p (j + 1) (.slice va7 (j + 1) vc7) w7) := Lib.hid ⟨by rw [repL_next hjl (by rw [HQ.out]), HRP.out]; exact r1, r2, r3, r4⟩
        clear hown7 hg7 r1 r2 r3 r4
        go_wp2_with fail
        go_roundg (l.length - (j + 1))
        case measure => omega
        case rel => exact ⟨j + 1, rfl, by omega, by go_num, by rw [HK.out, Bool.or_false], HR.out⟩
    · have hjj : j = l.length := by omega
      subst hjj
      rw [List.take_length]
      cases hb : hasK l p with
      | true =>
        have hp := put_yes hb
        have hpl : (repL l p l.length).length = l.length := by unfold repL; simp
        have HP := Lib.hid hp
        have HPL := Lib.hid hpl
        clear hb hp hpl
        go_wp2_with fail
        go_ret
        refine ⟨_, rfl, HV.out.below, ?_⟩
        rw [HP.out, HPL.out]
        exact owns_base4 HV.out.row (by omega)
      | false =>
        have hp := put_no hb
        have hpl : (repL l p l.length ++ [p]).length = l.length + 1 := by unfold repL; simp
        have HP := Lib.hid hp
        have HPL := Lib.hid hpl
        have HV5 := HV
        obtain ⟨w5, rfl⟩ : ∃ w5, wr = w5 := ⟨_, rfl⟩
        obtain ⟨c0, c1, c2, c3, _, _, _, _⟩ := HV5.out.box.all4
        clear hb hp hpl
        go_wp2_with (at_builtin; refine wpList_append_own _ rfl _ _ 33 rfl (w.heap.size + 1) 53 i0 (.agg zP) 4 48 Tryz.underlying33 HI.out HZ0.out HZ1.out HZ2.out rfl (by decide) _ _ _ rfl (HV5.out.row.alloc _) ⟨wr.heap.size, 0, none⟩ 1 1 [.string (bA p.key), .int .i64 p.kind, .int .i64 p.n, .string (bA p.text)] rfl rfl (cells_new _ #[.string (bA p.key), .int .i64 p.kind, .int .i64 p.n, .string (bA p.text)] _) ?_ ?_ ?_ ?_ ?_)
        · intro u hu; simp at hu; rcases hu with rfl | rfl | rfl | rfl <;> rfl
        · unfold maxLen; omega
        · omega
        · simp; omega
        intro v' w7 hown7 hg7 _
        obtain ⟨r1, r2, r3, r4⟩ := HV5.out.app (q := p) _ hown7 hg7
        obtain ⟨va7, vc7, rfl⟩ := slice4 hown7
        have HR := Lib.hid r1
        have HB := Lib.hid r3
        clear hown7 hg7 r1 r2 r3 r4
        go_wp2_with fail
        go_ret
        refine ⟨_, rfl, HB.out, ?_⟩
        rw [HP.out, HPL.out]
        exact owns_base4 HR.out (by omega)
end Go.Proofs.YtogjekjklknfeaaGreatDoor

/- The contract of the document's Params. -/
namespace Go.Proofs.YtogjekjklknfeaaGreatDoor
open Go.RowKit Go.Shelf Go.Maps Go.Deep

structure RInv (w : World) (s : List UInt8) (k : Nat) (sv v : Value) (wr : World) (acc : List Sf.Par) (rest : List UInt8) : Prop where
  sv : sv = .string (bA rest)
  k : rest.length = k
  len : acc.length + rest.length ≤ s.length
  row : wr.ownsRow w.heap.size 53 4 v acc.length (parsRow acc)
  below : Below w.heap.size w wr
  eq : Sf.parsF (rest.length + 1) acc rest = Sf.pars s
theorem put_len (l : List Sf.Par) (p : Sf.Par) : (Sf.put l p).length ≤ l.length + 1 := by
  unfold Sf.put
  split <;> simp
theorem RInv.next {w wr w2 w3 : World} {s t r : List UInt8} {k : Nat} {sv v v3 : Value} {acc : List Sf.Par} {p : Sf.Par} (h : RInv w s k sv v wr acc (59 :: t)) (hp : Sf.one t = some (p, r)) (hb : Below wr.heap.size wr w2) (hb3 : Below w2.heap.size w2 w3) (hw : w3.ownsRow w2.heap.size 53 4 v3 (Sf.put acc p).length (parsRow (Sf.put acc p))) :
    RInv w s r.length (.string (bA r)) v3 w3 (Sf.put acc p) r := by
  have hl := Sf.one_len hp
  have hpl := put_len acc p
  have hlen := h.len
  have hbw := onto h.below hb
  exact ⟨rfl, rfl, by simp at hlen; omega, owns_base4 hw hbw.size, onto hbw hb3, by rw [← h.eq, pars_step hp]⟩
theorem one_plain {t k r : List UInt8} (hk : Sf.keyOf (Sf.blk t) = some (k, r)) (hr : r.headD 0 ≠ 61) : Sf.one t = some (⟨k, 6, 1, []⟩, r) := by
  unfold Sf.one; rw [hk]; simp only; rw [if_neg hr]
theorem one_val {t k u : List UInt8} (hk : Sf.keyOf (Sf.blk t) = some (k, 61 :: u)) : Sf.one t = match Sf.value u with | none => none | some (v, r') => some (⟨k, v.kind, v.n, v.text⟩, r') := by
  unfold Sf.one; rw [hk]; rfl
theorem one_none {t : List UInt8} (hk : Sf.keyOf (Sf.blk t) = none) : Sf.one t = none := by unfold Sf.one; rw [hk]

set_option maxHeartbeats 4000000 in
set_option maxRecDepth 100000 in
theorem rparams_any (s : List UInt8) (w : World) (hs : s.length ≤ 1000000) : Calls Tryz.prog 99 #[.string (bA s)] w (RetL w (Sf.pars s)) := by
  have hst : RInv w s s.length (.string (bA s)) (.slice none 0 0) w [] s := ⟨rfl, rfl, by simp, World.ownsRow_nil _ _ _ _, Below.refl _ _, rfl⟩
  have HS := Lib.hid hst
  obtain ⟨o, ho⟩ : ∃ o, Sf.pars s = o := ⟨_, rfl⟩
  rw [ho]
  have HO := Lib.hid ho
  clear ho hst
  go_enter Tryz.func99, Tryz.ntmps99
  go_wp2_with fail
  go_loopg [0, 5] s.length (fun k sv v wr => ∃ acc rest, RInv w s k sv v wr acc rest)
  case atStart => exact ⟨_, _, HS.out⟩
  case round =>
    obtain ⟨acc, rest, hI⟩ := hrel
    obtain ⟨va, vc, rfl⟩ := slice4 hI.row
    have hsv := hI.sv
    subst hsv
    have hlen := hI.len
    have HV := Lib.hid hI
    clear hI HS
    cases rest with
    | nil =>
      have hn : o = some (acc, []) := by rw [← HO.out, ← HV.out.eq]; exact pars_stop _ (by simp)
      subst hn
      clear HO
      go_wp2_with fail
      go_ret3
      exact ⟨HV.out.below, .inl ⟨acc, [], _, rfl, rfl, HV.out.row⟩⟩
    | cons c t =>
      have hl2 := hlen
      simp only [List.length_cons] at hl2
      have htl : t.length ≤ 1000000 := by omega
      by_cases hc : c = 59
      · subst hc
        have h0 : ((((bA (59 :: t))[0]'(Nat.succ_pos _)).toNat : Int) == 59) = true := rfl
        have HX := Lib.hid (tail_bA 59 t)
        have hbl := blk_len t
        have H1 := Lib.hid (rblank_any t wr)
        have H2 := Lib.hid (rkey_any (Sf.blk t) wr (by omega))
        go_wp2_with fail
        rw [HX.out]
        refine H1.out.mono ?_
        rintro e w1 ⟨rfl, rfl⟩
        clear H1 h0
        go_wp2_with fail
        refine H2.out.mono ?_
        rintro e w2 ⟨rfl, q, hq⟩
        have HB : Hid (Below wr.heap.size wr w2) := by rw [Hid, hq]; exact below_drew wr q
        clear H2 HX hq
        cases hk : Sf.keyOf (Sf.blk t) with
        | none =>
          have hn : o = none := by rw [← HO.out, ← HV.out.eq]; exact pars_none (one_none hk)
          subst hn
          unfold keyV
          clear hk
          go_wp2_with fail
          go_ret3
          exact ⟨onto HV.out.below HB.out, .inr ⟨rfl, rfl⟩⟩
        | some x =>
          obtain ⟨k, r⟩ := x
          have HK := Lib.hid hk
          clear hk
          unfold keyV
          cases r with
          | nil =>
            have HP := Lib.hid (one_plain HK.out (by simp))
            have hB2 := below_al HB.out (.cells (pC ⟨k, 6, 1, []⟩) 53)
            have H3 := Lib.hid (rwith_any va vc acc ⟨k, 6, 1, []⟩ _ ((SeenP.own HV.out.row).below hB2) (by omega))
            have HB2 := Lib.hid hB2
            clear hB2
            go_wp2_with fail
            refine H3.out.mono ?_
            rintro e w3 ⟨v3, rfl, hb3, hw3⟩
            have HN := Lib.hid (HV.out.next HP.out HB2.out hb3 hw3)
            have hrl := Sf.one_len HP.out
            obtain ⟨va3, vc3, rfl⟩ := slice4 hw3
            clear hb3 hw3 H3 HB2
            go_wp2_with fail
            go_roundg ([] : List UInt8).length
            case measure => have := HV.out.k; simp only [List.length_cons] at this; simp; omega
            case rel => exact ⟨_, _, HN.out⟩
          | cons d u =>
            have hrl0 := keyOf_len HK.out
            by_cases hd : d = 61
            · subst hd
              have h1 : ((((bA (61 :: u))[0]'(Nat.succ_pos _)).toNat : Int) == 61) = true := rfl
              have HX2 := Lib.hid (tail_bA 61 u)
              have H3 := Lib.hid (rvalue_all u (w2.alloc (.cells (pC ⟨[], 6, 1, []⟩) 53)) (by simp at hrl0; omega))
              have HO1 := Lib.hid (one_val HK.out)
              have HBP := Lib.hid (CBox.new w2 53 (pC ⟨[], 6, 1, []⟩))
              have HB2 := Lib.hid (below_al HB.out (.cells (pC ⟨[], 6, 1, []⟩) 53))
              go_wp2_with fail
              rw [HX2.out]
              refine H3.out.mono ?_
              rintro e w3 ⟨rfl, hb3⟩
              have HBP3 := Lib.hid (HBP.out.keep hb3)
              have HB3 := Lib.hid (onto HB2.out hb3)
              clear hb3 H3 HX2 HBP HB2 h1
              cases hv : Sf.value u with
              | none =>
                have hn : o = none := by rw [← HO.out, ← HV.out.eq]; exact pars_none (by rw [show parOf (Sf.blk t) = Sf.one t from rfl, HO1.out, hv])
                subst hn
                unfold rvalV zPar
                clear hv
                go_wp2_with fail
                go_ret3
                exact ⟨onto HV.out.below (below_al HB3.out _), .inr ⟨rfl, rfl⟩⟩
              | some x =>
                obtain ⟨x, r'⟩ := x
                have hp : Sf.one t = some (⟨k, x.kind, x.n, x.text⟩, r') := by rw [HO1.out, hv]
                have HP := Lib.hid hp
                have hlt := HBP3.out.lt
                have hne : ¬ w3.heap.size = w2.heap.size := by omega
                have hne' : ¬ w2.heap.size = w3.heap.size := by omega
                obtain ⟨c0, c1, c2, c3, f0, f1, f2, f3⟩ := HBP3.out.all4
                unfold rvalV parV pC
                clear hv hp
                have hgS : w3.grownBy ((set4 w3 w2.heap.size (.string (bA x.key)) (.int .i64 x.kind) (.int .i64 x.n) (.string (bA x.text))).setCell ⟨w2.heap.size, 0, none⟩ (.string (bA k))) (some w2.heap.size) := g_set (g_set4 (g_refl _ _) _ _ _ _ (.inr rfl)) _ (.inr rfl)
                have hB6 := below_al (HB3.out.grown hgS HB3.out.size (fun j hj => by cases hj; exact HB.out.size)) (.cells #[.string (bA x.key), .int .i64 x.kind, .int .i64 x.n, .string (bA x.text)] 53)
                have H6 := Lib.hid (rwith_any va vc acc ⟨k, x.kind, x.n, x.text⟩ _ ((SeenP.own HV.out.row).below hB6) (by omega))
                have HB6 := Lib.hid hB6
                clear hgS hB6
                go_wp2_with fail
                refine H6.out.mono ?_
                rintro e w7 ⟨v7, rfl, hb7, hw7⟩
                have HN := Lib.hid (HV.out.next HP.out HB6.out hb7 hw7)
                have hrl := Sf.one_len HP.out
                obtain ⟨va7, vc7, rfl⟩ := slice4 hw7
                clear hb7 hw7 H6 HB6 c0 c1 c2 c3 f0 f1 f2 f3
                go_wp2_with fail
                go_roundg r'.length
                case measure => have := HV.out.k; simp only [List.length_cons] at this; omega
                case rel => exact ⟨_, _, HN.out⟩
            · have h1 : ((((bA (d :: u))[0]'(Nat.succ_pos _)).toNat : Int) == 61) = false := by rw [head_bA]; exact byte_off hd
              have HP := Lib.hid (one_plain HK.out (by simpa using hd))
              have hB2 := below_al HB.out (.cells (pC ⟨k, 6, 1, []⟩) 53)
              have H3 := Lib.hid (rwith_any va vc acc ⟨k, 6, 1, []⟩ _ ((SeenP.own HV.out.row).below hB2) (by omega))
              have HB2 := Lib.hid hB2
              clear hB2 hd
              go_wp2_with fail
              refine H3.out.mono ?_
              rintro e w3 ⟨v3, rfl, hb3, hw3⟩
              have HN := Lib.hid (HV.out.next HP.out HB2.out hb3 hw3)
              have hrl := Sf.one_len HP.out
              obtain ⟨va3, vc3, rfl⟩ := slice4 hw3
              clear hb3 hw3 H3 HB2
              go_wp2_with fail
              go_roundg (d :: u).length
              case measure => have := HV.out.k; simp only [List.length_cons] at this hrl ⊢; omega
              case rel => exact ⟨_, _, HN.out⟩
      · have h0 : ((((bA (c :: t))[0]'(Nat.succ_pos _)).toNat : Int) == 59) = false := by rw [head_bA]; exact byte_off hc
        have hn : o = some (acc, c :: t) := by rw [← HO.out, ← HV.out.eq]; exact pars_stop _ (by simpa using hc)
        subst hn
        clear HO
        go_wp2_with fail
        go_ret3
        exact ⟨HV.out.below, .inl ⟨acc, _, _, rfl, rfl, HV.out.row⟩⟩
end Go.Proofs.YtogjekjklknfeaaGreatDoor

/- The contracts of the document's Next and Parse. -/

namespace Go.Proofs.YtogjekjklknfeaaGreatDoor
open Go.RowKit Go.Shelf Go.Maps Go.Deep

set_option maxHeartbeats 2000000 in
set_option maxRecDepth 20000 in
theorem rnext_any (s : List UInt8) (w : World) (hs : s.length ≤ 1000000) : Calls Tryz.prog 101 #[.string (bA s)] w (RetI w (Sf.next s)) := by
  have hb := Lib.hid (CBox.new w 35 zI)
  have H1 := Lib.hid (rvalue_all s (w.alloc (.cells zI 35)) hs)
  obtain ⟨o, ho⟩ : ∃ o, Sf.next s = o := ⟨_, rfl⟩
  rw [ho]
  have HO := Lib.hid ho
  clear ho
  go_enter Tryz.func101, Tryz.ntmps101
  go_wp2_with fail
  refine H1.out.mono ?_
  rintro e w1 ⟨rfl, hb1⟩
  have hB1 := Lib.hid (onto (below_one w (.cells zI 35)) hb1)
  have hI1 := Lib.hid (hb.out.keep hb1)
  have hlt := hI1.out.lt
  have hne : ¬ w1.heap.size = w.heap.size := by omega
  have hne' : ¬ w.heap.size = w1.heap.size := by omega
  clear hb hb1 H1
  cases hv : Sf.value s with
  | none =>
    have hO : o = none := by rw [← HO.out]; unfold Sf.next; rw [hv]
    subst hO
    obtain ⟨c0, c1, c2, c3, f0, f1, f2, f3⟩ := hI1.out.all4
    clear hv HO
    unfold rvalV zPar
    go_wp2_with fail
    have hgA : w1.grownBy (set4 w1 w.heap.size (.int .i64 0) (.int .i64 0) (.string (bA [])) (.slice none 0 0)) (some w.heap.size) := g_set4 (g_refl _ _) _ _ _ _ (.inr rfl)
    refine bodyPost_ret (results_ret3 (k := 0) (n := 0) (t := []) rfl _ _ rfl ((hI1.out.set4 _ _ _ _).alloc _)) rfl ?_
    exact ⟨below_al (hB1.out.grown hgA hB1.out.size (fun k hk => by cases hk; exact Nat.le_refl _)) _, .inr ⟨rfl, rfl⟩⟩
  | some x =>
    obtain ⟨p, r⟩ := x
    have hrl := value_len hv
    have H2 := Lib.hid (rparams_any r (w1.alloc (.cells (pC p) 53)) (by omega))
    have HO2 : Hid ((match Sf.pars r with | none => none | some (l, r') => some (⟨p.kind, p.n, p.text, l⟩, r')) = o) := by
      rw [Hid, ← HO.out]; unfold Sf.next; rw [hv]; rfl
    have HBX := Lib.hid (CBox.new w1 53 (pC p))
    have HI2 := Lib.hid (hI1.out.alloc (.cells (pC p) 53))
    have HB2 := Lib.hid (below_al hB1.out (.cells (pC p) 53))
    clear hv HO hI1 hB1
    unfold rvalV parV pC
    go_wp2_with fail
    refine H2.out.mono ?_
    rintro e w3 ⟨hb3, ⟨l, r', v, hl, rfl, hw⟩ | ⟨hl, rfl⟩⟩
    · have HBX3 := Lib.hid (HBX.out.keep hb3)
      have HI3 := Lib.hid (HI2.out.keep hb3)
      have HB3 := Lib.hid (onto HB2.out hb3)
      have HW := Lib.hid (owns_base4 hw (show w.heap.size + 1 ≤ _ by simp; omega))
      obtain ⟨va, vc, rfl⟩ := slice4 hw
      have hO : o = some (⟨p.kind, p.n, p.text, l⟩, r') := by rw [← HO2.out, hl]
      subst hO
      have hlt3 := HI3.out.lt
      have hltx := HBX3.out.lt
      have hn2 : ¬ w3.heap.size = w.heap.size := by omega
      have hn2' : ¬ w.heap.size = w3.heap.size := by omega
      obtain ⟨c0, c1, c2, c3, f0, f1, f2, f3⟩ := HI3.out.all4
      obtain ⟨d0, d1, d2, d3, e0, e1, e2, e3⟩ := HBX3.out.all4
      clear hl hw hb3 H2 HBX HI2 HB2 HO2
      go_wp2_with fail
      have hgA : w3.grownBy (set4 w3 w.heap.size (.int .i64 p.kind) (.int .i64 p.n) (.string (bA p.text)) (.slice va l.length vc)) (some w.heap.size) := g_set4 (g_refl _ _) _ _ _ _ (.inr rfl)
      refine bodyPost_ret (results_ret3 rfl _ _ rfl (HI3.out.set4 _ _ _ _)) rfl ?_
      exact ⟨HB3.out.grown hgA HB3.out.size (fun k hk => by cases hk; exact Nat.le_refl _), .inl ⟨_, r', _, rfl, rfl, owns_base4 (HW.out.kept hgA (not_own4 HW.out (by omega))) (by omega)⟩⟩
    · have HI3 := Lib.hid (HI2.out.keep hb3)
      have HB3 := Lib.hid (onto HB2.out hb3)
      have hO : o = none := by rw [← HO2.out, hl]
      subst hO
      have hlt3 := HI3.out.lt
      have hn2 : ¬ w3.heap.size = w.heap.size := by omega
      have hn2' : ¬ w.heap.size = w3.heap.size := by omega
      obtain ⟨c0, c1, c2, c3, f0, f1, f2, f3⟩ := HI3.out.all4
      clear hl hb3 H2 HBX HI2 HB2 HO2
      go_wp2_with fail
      have hgA : w3.grownBy (set4 w3 w.heap.size (.int .i64 0) (.int .i64 0) (.string (bA [])) (.slice none 0 0)) (some w.heap.size) := g_set4 (g_refl _ _) _ _ _ _ (.inr rfl)
      refine bodyPost_ret (results_ret3 (k := 0) (n := 0) (t := []) rfl _ _ rfl (HI3.out.set4 _ _ _ _)) rfl ?_
      exact ⟨HB3.out.grown hgA HB3.out.size (fun k hk => by cases hk; exact Nat.le_refl _), .inr ⟨rfl, rfl⟩⟩
end Go.Proofs.YtogjekjklknfeaaGreatDoor
