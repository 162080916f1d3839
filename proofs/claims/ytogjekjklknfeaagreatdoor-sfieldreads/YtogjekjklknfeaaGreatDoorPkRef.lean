/- Texts of one layer, joined. -/
import Derived.Test.YtogjekjklknfeaaGreatDoorPkMem
import Derived.Test.YtogjekjklknfeaaGreatDoorPkRc
import Derived.Test.YtogjekjklknfeaaGreatDoorPkCol
import Derived.Test.YtogjekjklknfeaaGreatDoorPkSdm

/- The contracts of the document's tabs, inner, member, keyed and either (lists and dictionaries). -/
namespace Go.Proofs.YtogjekjklknfeaaGreatDoor
open Go.RowKit Go.Shelf Go.Maps Go.Deep

theorem tabs_yes {c : UInt8} (r : List UInt8) (h : c = 32 ∨ c = 9) : Sf.tabs (c :: r) = Sf.tabs r := by
  unfold Sf.tabs
  rw [List.dropWhile_cons_of_pos (by rcases h with rfl | rfl <;> rfl)]
theorem tabs_no {c : UInt8} (r : List UInt8) (h1 : c ≠ 32) (h2 : c ≠ 9) : Sf.tabs (c :: r) = c :: r := by
  unfold Sf.tabs
  rw [List.dropWhile_cons_of_neg (by simp [h1, h2])]
set_option maxHeartbeats 1000000 in
theorem rtabs_any (s : List UInt8) (w : World) : Calls Tryz.prog 48 #[.string (bA s)] w fun e w' => e = .returned (.string (bA (Sf.tabs s))) ∧ w = w' := by
  obtain ⟨B, hB⟩ : ∃ B, Sf.tabs s = B := ⟨_, rfl⟩
  rw [hB]
  have HB := Lib.hid hB
  clear hB
  go_enter Tryz.func48, Tryz.ntmps48
  go_wp2_with fail
  go_loop [0] (fun v => ∃ r : List UInt8, v = .string (bA r) ∧ Hid (Sf.tabs r = B)) (fun v => (Byt.sOf v).size)
  case atStart => exact ⟨s, rfl, HB⟩
  case round =>
    obtain ⟨r, rfl, hr⟩ := hrel
    clear HB
    cases r with
    | nil =>
      have : B = [] := hr.out.symm
      subst this
      go_wp2_with fail
      go_ret
      exact ⟨rfl, rfl⟩
    | cons c r =>
      have HX := Lib.hid (tail_bA c r)
      by_cases hc : c = 32
      · have h0 : ((((bA (c :: r))[0]'(Nat.succ_pos _)).toNat : Int) == 32) = true := by rw [head_bA, hc]; rfl
        have h2 : Sf.tabs r = B := by rw [← hr.out, tabs_yes r (.inl hc)]
        have H2 := Lib.hid h2
        clear hr h2 hc
        go_wp2_with fail
        go_round
        case rel => exact ⟨r, by rw [HX.out], H2⟩
        case measure =>
          show ((bA (c :: r)).extract 1 (r.length + 1)).size < (bA (c :: r)).size
          rw [HX.out]; exact Nat.lt_succ_self _
      · have h0 : ((((bA (c :: r))[0]'(Nat.succ_pos _)).toNat : Int) == 32) = false := by rw [head_bA]; exact byte_off hc
        by_cases h9 : c = 9
        · have h1 : ((((bA (c :: r))[0]'(Nat.succ_pos _)).toNat : Int) == 9) = true := by rw [head_bA, h9]; rfl
          have h2 : Sf.tabs r = B := by rw [← hr.out, tabs_yes r (.inr h9)]
          have H2 := Lib.hid h2
          clear hr h2 hc h9
          go_wp2_with fail
          go_round
          case rel => exact ⟨r, by rw [HX.out], H2⟩
          case measure =>
            show ((bA (c :: r)).extract 1 (r.length + 1)).size < (bA (c :: r)).size
            rw [HX.out]; exact Nat.lt_succ_self _
        · have h1 : ((((bA (c :: r))[0]'(Nat.succ_pos _)).toNat : Int) == 9) = false := by rw [head_bA]; exact byte_off h9
          have : B = c :: r := by rw [← hr.out, tabs_no r hc h9]
          subst this
          clear hr hc h9
          go_wp2_with fail
          go_ret
          exact ⟨rfl, rfl⟩

def innM (acc : List Sf.Itm) : Sf.Mem := ⟨[], true, Sf.zItm, acc, []⟩
structure InnI (w : World) (s : List UInt8) (k : Nat) (wr : World) (acc : List Sf.Itm) (rest : List UInt8) (v : Value) (xs : List Value) : Prop where
  k : rest.length = k
  len : acc.length + rest.length ≤ s.length
  res : CBox wr w.heap.size 40 zM
  box : CBox wr (w.heap.size + 1) 40 (mC (innM acc) (.slice none 0 0) v (.slice none 0 0))
  row : wr.ownsRow (w.heap.size + 2) 35 4 v acc.length xs
  rowI : RowI wr acc xs
  below : Below w.heap.size w wr
  sz : w.heap.size + 2 ≤ wr.heap.size
  eq : Sf.innF (rest.length + 1) acc rest = Sf.inn s
theorem cells_new2 (w : World) (o : Obj) (cs : Array Value) (t : TypeId) : ∀ j u, cs.toList[j]? = some u → ((w.alloc o).alloc (.cells cs t)).cell? ((⟨w.heap.size + 1, 0, none⟩ : Addr).add j) = some u := by
  have := cells_new (w.alloc o) cs t
  rw [World.size_alloc] at this
  exact this
theorem InnI.below5 {w wr w5 : World} {s : List UInt8} {k : Nat} {acc : List Sf.Itm} {rest : List UInt8} {v : Value} {xs : List Value} (h : InnI w s k wr acc rest v xs) (hb : Below wr.heap.size wr w5) : InnI w s k w5 acc rest v xs :=
  ⟨h.k, h.len, h.res.keep hb, h.box.keep hb, owns_keptT h.row (.below hb), h.rowI.below hb, onto h.below hb, Nat.le_trans h.sz hb.size, h.eq⟩
theorem InnI.snoc {w w5 w7 : World} {s : List UInt8} {k n : Nat} {acc : List Sf.Itm} {rest r : List UInt8} {va v v7 : Value} {xs : List Value} {x : Sf.Itm} {o : Obj} (h : InnI w s k w5 acc rest va xs) (hn : acc.length = n) (he : Sf.innF (r.length + 1) (acc ++ [x]) r = Sf.inn s) (hl : acc.length + 1 + r.length ≤ s.length) (hv : PV w5 v x.params)
    (hown : w7.ownsRow (w.heap.size + 2) 35 4 v7 (n + 1) (xs ++ itC x v)) (hg : (w5.alloc o).grownBy w7 va.ownBlock) : InnI w s r.length (w7.setCell ⟨w.heap.size + 1, 6, none⟩ v7) (acc ++ [x]) r v7 (xs ++ itC x v) := by
  subst hn
  have hsz := h.sz
  have hs7 := hg.size
  simp at hs7
  have hne : ∀ b, b < w.heap.size + 2 → some b ≠ va.ownBlock := fun b hb => own_ne4 h.row hb
  have hbox7 := (h.box.alloc o).kept hg (hne _ (by omega))
  have hg8 : w7.grownBy (w7.setCell ⟨w.heap.size + 1, 6, none⟩ v7) (some (w.heap.size + 1)) := g_set (g_refl _ _) _ (.inr rfl)
  have hk7 : KeptT 53 w5 w7 := (KeptT.alloc _ _ o).trans (.row (by decide) (h.row.alloc o) hg)
  have hk8 : ∀ e, e ≠ 40 → KeptT e w7 (w7.setCell ⟨w.heap.size + 1, 6, none⟩ v7) := fun e he => .box he hbox7 hg8
  refine ⟨rfl, by rw [List.length_append]; simp only [List.length_singleton]; omega, ((h.res.alloc o).kept hg (hne _ (by omega))).other (by omega), ?_, ?_, ?_, below_box ((below_al h.below o).grown hg (by simp; omega) (fun k hk => by have := (h.row.lt k hk).1; omega)) hg8 (by omega), by simp [World.setCell]; omega, he⟩
  · exact hbox7.set (i := 6) v7
  · rw [List.length_append]; exact owns_keptT hown (hk8 _ (by decide))
  · exact ((h.rowI.kept hk7).snoc (hv.kept hk7)).kept (hk8 _ (by decide))
/-- Eight cells that are set in a block, and what is told then. -/
theorem ret_box {w w5 : World} {ok no : Value} {o : Option (Sf.Mem × List UInt8)} {m : Sf.Mem} {v1 v2 v3 : Value} {r : List UInt8} (hb : Below w.heap.size w w5) (hres : CBox w5 w.heap.size 40 zM) (hm : MV w5 m v1 v2 v3) (ho : o = some (m, r)) :
    RetM ok no w o (.returned (.tuple #[.agg (mC m v1 v2 v3), .string (bA r), ok])) (set8 w5 w.heap.size (.string (bA m.key)) (.bool m.inner) (.int .i64 m.item.kind) (.int .i64 m.item.n) (.string (bA m.item.text)) v1 v2 v3) := by
  have hg : w5.grownBy (set8 w5 w.heap.size (.string (bA m.key)) (.bool m.inner) (.int .i64 m.item.kind) (.int .i64 m.item.n) (.string (bA m.item.text)) v1 v2 v3) (some w.heap.size) := g_set8 (g_refl _ _) _ _ _ _ _ _ _ _ (.inr rfl)
  exact ⟨below_box hb hg (Nat.le_refl _), .inl ⟨m, r, v1, v2, v3, ho, rfl, hm.boxed hres hg⟩⟩
theorem ret_bad {w w5 : World} {ok no : Value} {m : Sf.Mem} {v1 v2 v3 : Value} {x : ByteArray} (hb : Below w.heap.size w w5) (h1 : IsSl v1) (h2 : IsSl v2) (h3 : IsSl v3) :
    RetM ok no w none (.returned (.tuple #[.agg (mC m v1 v2 v3), .string x, no])) (set8 w5 w.heap.size (.string (bA m.key)) (.bool m.inner) (.int .i64 m.item.kind) (.int .i64 m.item.n) (.string (bA m.item.text)) v1 v2 v3) := by
  have hg : w5.grownBy (set8 w5 w.heap.size (.string (bA m.key)) (.bool m.inner) (.int .i64 m.item.kind) (.int .i64 m.item.n) (.string (bA m.item.text)) v1 v2 v3) (some w.heap.size) := g_set8 (g_refl _ _) _ _ _ _ _ _ _ _ (.inr rfl)
  exact ⟨below_box hb hg (Nat.le_refl _), .inr ⟨rfl, m, v1, v2, v3, x, h1, h2, h3, rfl⟩⟩
theorem MV.set7 {w w' : World} {m : Sf.Mem} {v1 v2 v3 : Value} (h : MV w m v1 v2 v3) {B : Nat} {cs : Array Value} (hb : CBox w B 40 cs) (hg : w.grownBy w' (some B)) : MV w' m v1 v2 v3 := h.boxed hb hg
set_option maxHeartbeats 4000000 in
set_option maxRecDepth 100000 in
theorem rinner_any (s : List UInt8) (w : World) (hs : s.length ≤ 1000000) : Calls Tryz.prog 100 #[.string (bA s)] w (RetM (.bool true) (.bool false) w (Sf.inn s)) := by
  obtain ⟨i0, hi, hz0, hz1, hz2⟩ := info_parts info_itm
  have HI := Lib.hid hi; have HZ0 := Lib.hid hz0; have HZ1 := Lib.hid hz1; have HZ2 := Lib.hid hz2
  obtain ⟨o, ho⟩ : ∃ o, Sf.inn s = o := ⟨_, rfl⟩
  have hsz : (w.alloc (.cells zM 40)).heap.size = w.heap.size + 1 := by simp
  have hst : InnI w s s.length ((w.alloc (.cells zM 40)).alloc (.cells (mC (innM []) (.slice none 0 0) (.slice none 0 0) (.slice none 0 0)) 40)) [] s (.slice none 0 0) [] :=
    ⟨rfl, by simp, (CBox.new w _ _).alloc _, by rw [← hsz]; exact CBox.new _ _ _, World.ownsRow_nil _ _ _ _, rfl, below_al (below_one _ _) _, by simp, rfl⟩
  rw [ho]
  have HO := Lib.hid ho
  have HS := Lib.hid hst
  clear hi hz0 hz1 hz2 ho hsz hst
  go_enter Tryz.func100, Tryz.ntmps100
  go_wp2_with fail
  go_loopg [0] s.length (fun k sv wr => ∃ acc rest v xs, sv = .string (bA rest) ∧ InnI w s k wr acc rest v xs)
  case atStart => exact ⟨_, _, _, _, rfl, HS.out⟩
  case round =>
    obtain ⟨acc, rest, v, xs, rfl, hI⟩ := hrel
    obtain ⟨va, vc, rfl⟩ := slice4 hI.row
    have hlen := hI.len
    have hsz := hI.sz
    have HV := Lib.hid hI
    have hkk := hI.k
    have hbl := Sf.blk_short rest
    clear hI HS
    have H1 := Lib.hid (rblank_any rest wr)
    obtain ⟨⟨e0, e1, e2, e3, e4, e5, e6, e7⟩, f0, f1, f2, f3, f4, f5, f6, f7⟩ := HV.out.res.all8
    go_wp2_with fail
    refine H1.out.mono ?_
    rintro e w1 ⟨rfl, rfl⟩
    clear H1
    cases hb : Sf.blk rest with
    | nil =>
      have hn : o = none := by rw [← HO.out, ← HV.out.eq]; exact Sf.inn_end hb
      subst hn
      clear hb
      go_wp2_with fail
      refine bodyPost_ret (results_mem (m := ⟨[], false, Sf.zItm, [], []⟩) rfl _ _ rfl (HV.out.res.set8 _ _ _ _ _ _ _ _)) rfl ?_
      exact ret_bad (m := ⟨[], false, Sf.zItm, [], []⟩) HV.out.below (.mk _ _ _) (.mk _ _ _) (.mk _ _ _)
    | cons c t =>
      have hbl2 := hbl
      rw [hb, List.length_cons] at hbl2
      by_cases hc : c = 41
      · subst hc
        have h0 : ((((bA (41 :: t))[0]'(Nat.succ_pos _)).toNat : Int) == 41) = true := rfl
        have HX := Lib.hid (tail_bA 41 t)
        have H2 := Lib.hid (rparams_any t wr (by omega))
        have HSH : Hid ((match Sf.pars t with | none => none | some (l, r) => some (⟨[], true, Sf.zItm, acc, l⟩, r)) = o) := by rw [Hid, ← HO.out, ← HV.out.eq, Sf.inn_shut hb]; cases Sf.pars t <;> rfl
        clear hb
        go_wp2_with fail
        rw [HX.out]
        refine H2.out.mono ?_
        rintro e w3 ⟨hb3, ⟨l, r, v, hl, rfl, hw⟩ | ⟨hl, rfl⟩⟩
        · obtain ⟨pa, pc, rfl⟩ := slice4 hw
          have hO : o = some (⟨[], true, Sf.zItm, acc, l⟩, r) := by rw [← HSH.out, hl]
          subst hO
          have hres := HV.out.res.keep hb3
          have hbox := HV.out.box.keep hb3
          have HRES := Lib.hid hres; have HBOX := Lib.hid hbox
          have HB3 := Lib.hid (onto HV.out.below hb3)
          have HIV : Hid (IV w3 (.slice va acc.length vc) acc) := Lib.hid ((show IV wr (.slice va acc.length vc) acc from ⟨xs, owns_base4 HV.out.row (by omega), HV.out.rowI⟩).below hb3)
          have HPV : Hid (PV w3 (.slice pa l.length pc) l) := Lib.hid (PV.of hw)
          clear e0 e1 e2 e3 e4 e5 e6 e7 f0 f1 f2 f3 f4 f5 f6 f7
          obtain ⟨⟨e0, e1, e2, e3, e4, e5, e6, e7⟩, f0, f1, f2, f3, f4, f5, f6, f7⟩ := hres.all8
          unfold mC innM at hbox
          obtain ⟨⟨c0, c1, c2, c3, c4, c5, c6, c7⟩, j0, j1, j2, j3, j4, j5, j6, j7⟩ := hbox.all8
          simp only [Sf.zItm] at c2 c3 c4
          clear hl hw hb3 hres hbox H2 HSH
          go_wp2_with fail
          have hg7 : w3.grownBy (w3.setCell ⟨w.heap.size + 1, 7, none⟩ (.slice pa l.length pc)) (some (w.heap.size + 1)) := g_set (g_refl _ _) _ (.inr rfl)
          have hres5 := HRES.out.other (C := w.heap.size + 1) (i := 7) (v := .slice pa l.length pc) (by omega)
          refine bodyPost_ret (results_mem (m := ⟨[], true, Sf.zItm, acc, l⟩) rfl _ _ rfl (hres5.set8 _ _ _ _ _ _ _ _)) rfl ?_
          exact ret_box (m := ⟨[], true, Sf.zItm, acc, l⟩) (below_box HB3.out hg7 (by omega)) hres5 (MV.boxed ⟨PV.nil _, HIV.out, HPV.out⟩ HBOX.out hg7) rfl
        · have hO : o = none := by rw [← HSH.out, hl]
          subst hO
          have hres := HV.out.res.keep hb3
          have hbox := HV.out.box.keep hb3
          have HRES := Lib.hid hres; have HBOX := Lib.hid hbox
          have HB3 := Lib.hid (onto HV.out.below hb3)
          clear e0 e1 e2 e3 e4 e5 e6 e7 f0 f1 f2 f3 f4 f5 f6 f7
          obtain ⟨⟨e0, e1, e2, e3, e4, e5, e6, e7⟩, f0, f1, f2, f3, f4, f5, f6, f7⟩ := hres.all8
          unfold mC innM at hbox
          obtain ⟨⟨c0, c1, c2, c3, c4, c5, c6, c7⟩, j0, j1, j2, j3, j4, j5, j6, j7⟩ := hbox.all8
          simp only [Sf.zItm] at c2 c3 c4
          clear hl hb3 hres hbox H2 HSH
          go_wp2_with fail
          have hg7 : w3.grownBy (w3.setCell ⟨w.heap.size + 1, 7, none⟩ (.slice none 0 0)) (some (w.heap.size + 1)) := g_set (g_refl _ _) _ (.inr rfl)
          have hres5 := HRES.out.other (C := w.heap.size + 1) (i := 7) (v := .slice none 0 0) (by omega)
          refine bodyPost_ret (results_mem (m := ⟨[], true, Sf.zItm, acc, []⟩) rfl _ _ rfl (hres5.set8 _ _ _ _ _ _ _ _)) rfl ?_
          exact ret_bad (m := ⟨[], true, Sf.zItm, acc, []⟩) (below_box HB3.out hg7 (by omega)) (.mk _ _ _) (.mk _ _ _) (.mk _ _ _)
      · have h0 : ((((bA (c :: t))[0]'(Nat.succ_pos _)).toNat : Int) == 41) = false := by rw [head_bA]; exact byte_off hc
        have hbox := HV.out.box
        unfold mC innM at hbox
        obtain ⟨⟨c0, c1, c2, c3, c4, c5, c6, c7⟩, j0, j1, j2, j3, j4, j5, j6, j7⟩ := hbox.all8
        have HBL := Lib.hid hb; have HC := Lib.hid hc
        have H2 := Lib.hid (rnext_any (c :: t) wr (by simp only [List.length_cons]; omega))
        clear hb hc hbox c0 c1 c2 c3 c4 c5 c7
        by_cases htight : acc ≠ [] ∧ (c :: t).length = rest.length
        · obtain ⟨ha, hl⟩ := htight
          have hn : o = none := by rw [← HO.out, ← HV.out.eq]; exact Sf.inn_tight HBL.out HC.out ha hl
          subst hn
          obtain ⟨na, hna⟩ : ∃ na, acc.length = na + 1 := ⟨acc.length - 1, by have := List.length_pos_iff.2 ha; omega⟩
          rw [hna] at c6
          have q2 : ((t.length : Int) + 1 == (rest.length : Int)) = true := by simp at hl ⊢; omega
          clear ha hl
          go_wp2_with fail
          refine bodyPost_ret (results_mem (m := ⟨[], false, Sf.zItm, [], []⟩) rfl _ _ rfl (HV.out.res.set8 _ _ _ _ _ _ _ _)) rfl ?_
          exact ret_bad (m := ⟨[], false, Sf.zItm, [], []⟩) HV.out.below (.mk _ _ _) (.mk _ _ _) (.mk _ _ _)
        · have HTI : Hid (acc = [] ∨ (c :: t).length ≠ rest.length) := Lib.hid (by
            by_cases ha : acc = []
            · exact .inl ha
            · exact .inr (fun e => htight ⟨ha, e⟩))
          obtain ⟨na, hna⟩ : ∃ na, acc.length = na := ⟨_, rfl⟩
          have q2 : 0 < na → ((t.length : Int) + 1 == (rest.length : Int)) = false := fun h => by
            rcases HTI.out with h1 | h1
            · rw [h1] at hna; simp at hna; omega
            · simp at h1 ⊢; omega
          rw [hna] at c6
          have HNA := Lib.hid hna
          clear htight hna
          rcases na with _ | na
          · clear q2
            go_wp2_with fail
            refine H2.out.mono ?_
            rintro e w3 ⟨hb3, ⟨x, r, v, hx, rfl, hw⟩ | ⟨hx, rfl⟩⟩
            · obtain ⟨pa, pc, rfl⟩ := slice4 hw
              have hrl := Sf.next_short hx
              have hs3 := hb3.size
              have hb5 : Below wr.heap.size wr (w3.alloc (.cells #[.int .i64 x.kind, .int .i64 x.n, .string (bA x.text), .slice pa x.params.length pc] 35)) := below_al hb3 _
              have HPV : Hid (PV (w3.alloc (.cells #[.int .i64 x.kind, .int .i64 x.n, .string (bA x.text), .slice pa x.params.length pc] 35)) (.slice pa x.params.length pc) x.params) := Lib.hid ((PV.of hw).kept (KeptT.alloc _ _ _))
              have HST : Hid (Sf.innF (r.length + 1) (acc ++ [x]) r = Sf.inn s) := Lib.hid (by rw [← HV.out.eq, Sf.inn_step HBL.out HC.out HTI.out hx])
              have HV5 := Lib.hid (HV.out.below5 hb5)
              have hrow5 := HV5.out.row
              rw [HNA.out] at hrow5
              have HROW := Lib.hid hrow5
              have g6 : w3.cell? ⟨w.heap.size + 1, 6, none⟩ = some (.slice va 0 vc) := (hb3.cell (p := ⟨w.heap.size + 1, 6, none⟩) (by show w.heap.size + 1 < wr.heap.size; omega)).trans c6
              have hn0 : ¬ w3.heap.size = w.heap.size + 1 := by omega
              have hlt1 : w.heap.size + 1 < w3.heap.size := by omega
              have hn0' : ¬ w.heap.size + 1 = w3.heap.size := by omega
              have hnl : 0 ≤ 1000000 := by have := HNA.out; omega
              have hsz5 := Nat.le_trans hsz hb5.size
              clear hx hw hb3 hb5 H2 c6 e0 e1 e2 e3 e4 e5 e6 e7 f0 f1 f2 f3 f4 f5 f6 f7 j0 j1 j2 j3 j4 j5 j6 j7 hrow5
              unfold itmV iC
              go_wp2_with (at_builtin; refine wpList_append_own _ rfl _ _ 38 rfl (w.heap.size + 2) 35 i0 (.agg zI) 4 56 Tryz.underlying38 HI.out HZ0.out HZ1.out HZ2.out rfl (by decide) _ _ _ rfl (HROW.out.alloc _) ⟨w3.heap.size + 1, 0, none⟩ 1 1 (itC x (.slice pa x.params.length pc)) rfl rfl (cells_new2 w3 _ #[.int .i64 x.kind, .int .i64 x.n, .string (bA x.text), .slice pa x.params.length pc] _) ?_ ?_ ?_ ?_ ?_)
              · intro u hu; simp [itC] at hu; rcases hu with rfl | rfl | rfl | rfl <;> rfl
              · unfold maxLen; omega
              · omega
              · simp; omega
              intro v' w7 hown7 hg7 _
              obtain ⟨va7, vc7, rfl⟩ := slice4 hown7
              have hbx7 := (HV5.out.box.alloc (.cells #[.int .i64 x.kind, .int .i64 x.n, .string (bA x.text), .slice pa x.params.length pc] 35)).kept hg7 (own_ne4 HROW.out (by omega))
              have HN := Lib.hid (HV5.out.snoc (x := x) (r := r) HNA.out HST.out (by have := HV.out.len; simp only [List.length_cons] at hrl; omega) HPV.out hown7 (by rw [HNA.out]; exact hg7))
              unfold mC innM at hbx7
              obtain ⟨⟨_, _, _, _, _, _, g6', _⟩, _, _, _, _, _, _, j6', _⟩ := hbx7.all8
              clear hown7 hg7 hbx7
              go_wp2_with fail
              go_roundg r.length
              case measure => simp only [List.length_cons] at hrl; omega
              case rel => exact ⟨acc ++ [x], r, _, _, rfl, HN.out⟩
            · have hn : o = none := by rw [← HO.out, ← HV.out.eq]; exact Sf.inn_none HBL.out HC.out hx
              subst hn
              have hs3 := hb3.size
              have hres := HV.out.res.keep hb3
              have HRES := Lib.hid hres
              have HB3 := Lib.hid (onto HV.out.below hb3)
              clear e0 e1 e2 e3 e4 e5 e6 e7 f0 f1 f2 f3 f4 f5 f6 f7
              obtain ⟨⟨e0, e1, e2, e3, e4, e5, e6, e7⟩, f0, f1, f2, f3, f4, f5, f6, f7⟩ := hres.all8
              have hn0 : ¬ w3.heap.size = w.heap.size := by omega
              have hlt1 : w.heap.size < w3.heap.size := by omega
              have hn0' : ¬ w.heap.size = w3.heap.size := by omega
              clear hx hb3 hres H2
              unfold itmV iC
              go_wp2_with fail
              refine bodyPost_ret (results_mem (m := ⟨[], false, Sf.zItm, [], []⟩) rfl _ _ rfl ((HRES.out.set8 _ _ _ _ _ _ _ _).alloc _)) rfl ?_
              have := ret_bad (ok := .bool true) (no := .bool false) (m := ⟨[], false, Sf.zItm, [], []⟩) (x := ⟨#[]⟩) HB3.out (.mk none 0 0) (.mk none 0 0) (.mk none 0 0)
              exact ⟨below_al this.1 _, this.2.resolve_left (by rintro ⟨m, r, v1, v2, v3, h, _⟩; cases h) |> Or.inr⟩
          · have q2' := q2 (Nat.succ_pos _)
            clear q2
            go_wp2_with fail
            refine H2.out.mono ?_
            rintro e w3 ⟨hb3, ⟨x, r, v, hx, rfl, hw⟩ | ⟨hx, rfl⟩⟩
            · obtain ⟨pa, pc, rfl⟩ := slice4 hw
              have hrl := Sf.next_short hx
              have hs3 := hb3.size
              have hb5 : Below wr.heap.size wr (w3.alloc (.cells #[.int .i64 x.kind, .int .i64 x.n, .string (bA x.text), .slice pa x.params.length pc] 35)) := below_al hb3 _
              have HPV : Hid (PV (w3.alloc (.cells #[.int .i64 x.kind, .int .i64 x.n, .string (bA x.text), .slice pa x.params.length pc] 35)) (.slice pa x.params.length pc) x.params) := Lib.hid ((PV.of hw).kept (KeptT.alloc _ _ _))
              have HST : Hid (Sf.innF (r.length + 1) (acc ++ [x]) r = Sf.inn s) := Lib.hid (by rw [← HV.out.eq, Sf.inn_step HBL.out HC.out HTI.out hx])
              have HV5 := Lib.hid (HV.out.below5 hb5)
              have hrow5 := HV5.out.row
              rw [HNA.out] at hrow5
              have HROW := Lib.hid hrow5
              have g6 : w3.cell? ⟨w.heap.size + 1, 6, none⟩ = some (.slice va (na + 1) vc) := (hb3.cell (p := ⟨w.heap.size + 1, 6, none⟩) (by show w.heap.size + 1 < wr.heap.size; omega)).trans c6
              have hn0 : ¬ w3.heap.size = w.heap.size + 1 := by omega
              have hlt1 : w.heap.size + 1 < w3.heap.size := by omega
              have hn0' : ¬ w.heap.size + 1 = w3.heap.size := by omega
              have hnl : (na + 1) ≤ 1000000 := by have := HNA.out; omega
              have hsz5 := Nat.le_trans hsz hb5.size
              clear hx hw hb3 hb5 H2 c6 e0 e1 e2 e3 e4 e5 e6 e7 f0 f1 f2 f3 f4 f5 f6 f7 j0 j1 j2 j3 j4 j5 j6 j7 hrow5
              unfold itmV iC
              go_wp2_with (at_builtin; refine wpList_append_own _ rfl _ _ 38 rfl (w.heap.size + 2) 35 i0 (.agg zI) 4 56 Tryz.underlying38 HI.out HZ0.out HZ1.out HZ2.out rfl (by decide) _ _ _ rfl (HROW.out.alloc _) ⟨w3.heap.size + 1, 0, none⟩ 1 1 (itC x (.slice pa x.params.length pc)) rfl rfl (cells_new2 w3 _ #[.int .i64 x.kind, .int .i64 x.n, .string (bA x.text), .slice pa x.params.length pc] _) ?_ ?_ ?_ ?_ ?_)
              · intro u hu; simp [itC] at hu; rcases hu with rfl | rfl | rfl | rfl <;> rfl
              · unfold maxLen; omega
              · omega
              · simp; omega
              intro v' w7 hown7 hg7 _
              obtain ⟨va7, vc7, rfl⟩ := slice4 hown7
              have hbx7 := (HV5.out.box.alloc (.cells #[.int .i64 x.kind, .int .i64 x.n, .string (bA x.text), .slice pa x.params.length pc] 35)).kept hg7 (own_ne4 HROW.out (by omega))
              have HN := Lib.hid (HV5.out.snoc (x := x) (r := r) HNA.out HST.out (by have := HV.out.len; simp only [List.length_cons] at hrl; omega) HPV.out hown7 (by rw [HNA.out]; exact hg7))
              unfold mC innM at hbx7
              obtain ⟨⟨_, _, _, _, _, _, g6', _⟩, _, _, _, _, _, _, j6', _⟩ := hbx7.all8
              clear hown7 hg7 hbx7
              go_wp2_with fail
              go_roundg r.length
              case measure => simp only [List.length_cons] at hrl; omega
              case rel => exact ⟨acc ++ [x], r, _, _, rfl, HN.out⟩
            · have hn : o = none := by rw [← HO.out, ← HV.out.eq]; exact Sf.inn_none HBL.out HC.out hx
              subst hn
              have hs3 := hb3.size
              have hres := HV.out.res.keep hb3
              have HRES := Lib.hid hres
              have HB3 := Lib.hid (onto HV.out.below hb3)
              clear e0 e1 e2 e3 e4 e5 e6 e7 f0 f1 f2 f3 f4 f5 f6 f7
              obtain ⟨⟨e0, e1, e2, e3, e4, e5, e6, e7⟩, f0, f1, f2, f3, f4, f5, f6, f7⟩ := hres.all8
              have hn0 : ¬ w3.heap.size = w.heap.size := by omega
              have hlt1 : w.heap.size < w3.heap.size := by omega
              have hn0' : ¬ w.heap.size = w3.heap.size := by omega
              clear hx hb3 hres H2
              unfold itmV iC
              go_wp2_with fail
              refine bodyPost_ret (results_mem (m := ⟨[], false, Sf.zItm, [], []⟩) rfl _ _ rfl ((HRES.out.set8 _ _ _ _ _ _ _ _).alloc _)) rfl ?_
              have := ret_bad (ok := .bool true) (no := .bool false) (m := ⟨[], false, Sf.zItm, [], []⟩) (x := ⟨#[]⟩) HB3.out (.mk none 0 0) (.mk none 0 0) (.mk none 0 0)
              exact ⟨below_al this.1 _, this.2.resolve_left (by rintro ⟨m, r, v1, v2, v3, h, _⟩; cases h) |> Or.inr⟩
end Go.Proofs.YtogjekjklknfeaaGreatDoor

/- The contracts of the document's member, keyed and either. (Written by mkr.py.) -/

namespace Go.Proofs.YtogjekjklknfeaaGreatDoor
open Go.RowKit Go.Shelf Go.Maps Go.Deep

set_option maxHeartbeats 2000000 in
set_option maxRecDepth 20000 in
theorem rmember_any (s : List UInt8) (w : World) (hs : s.length ≤ 1000000) : Calls Tryz.prog 78 #[.string (bA s)] w (RetM (.bool true) (.bool false) w (Sf.memb s)) := by
  have HRES1 := Lib.hid (CBox.new w 40 zM)
  have HB1 := Lib.hid (below_one w (.cells zM 40))
  by_cases h40 : s.head? = some 40
  · obtain ⟨t, rfl⟩ := head_cut h40
    have h0 : ((((bA (40 :: t))[0]'(Nat.succ_pos _)).toNat : Int) == 40) = true := rfl
    have HX := Lib.hid (tail_bA 40 t)
    have h2 := rinner_any t (w.alloc (.cells zM 40)) (by simp at hs; omega)
    rw [Sf.memb_open]
    obtain ⟨o, ho⟩ : ∃ o, Sf.inn t = o := ⟨_, rfl⟩
    rw [ho] at h2 ⊢
    have H2 := Lib.hid h2
    clear h2 ho h40
    go_enter Tryz.func78, Tryz.ntmps78
    go_wp2_with fail
    rw [HX.out]
    refine H2.out.mono ?_
    rintro e w3 ⟨hb3, ⟨m, r, v1, v2, v3, hm, rfl, hv⟩ | ⟨hm, m, v1, v2, v3, x, ⟨a1, n1, p1, rfl⟩, ⟨a2, n2, p2, rfl⟩, ⟨a3, n3, p3, rfl⟩, rfl⟩⟩
    · obtain ⟨a1, p1, rfl⟩ := hv.item.slice
      obtain ⟨a2, p2, rfl⟩ := hv.items.slice
      obtain ⟨a3, p3, rfl⟩ := hv.params.slice
      have hO : o = some (m, r) := by exact hm
      subst hO
      have hres := HRES1.out.keep hb3
      have hlt := hres.lt
      have HRES := Lib.hid hres
      have HB3 := Lib.hid (onto HB1.out hb3)
      have HMV : Hid (MV w3 m (.slice a1 m.item.params.length p1) (.slice a2 m.items.length p2) (.slice a3 m.params.length p3)) := Lib.hid hv
      obtain ⟨⟨c0, c1, c2, c3, c4, c5, c6, c7⟩, f0, f1, f2, f3, f4, f5, f6, f7⟩ := hres.all8
      have hne : ¬ w3.heap.size = w.heap.size := by omega
      have hne' : ¬ w.heap.size = w3.heap.size := by omega
      clear hm hv H2 hb3 hres
      unfold mC
      go_wp2_with fail
      have hgA : w3.grownBy (set8 w3 w.heap.size (.string (bA m.key)) (.bool m.inner) (.int .i64 m.item.kind) (.int .i64 m.item.n) (.string (bA m.item.text)) (.slice a1 m.item.params.length p1) (.slice a2 m.items.length p2) (.slice a3 m.params.length p3)) (some w.heap.size) := g_set8 (g_refl _ _) _ _ _ _ _ _ _ _ (.inr rfl)
      refine bodyPost_ret (results_mem (m := m) rfl _ _ rfl (HRES.out.set8 _ _ _ _ _ _ _ _)) rfl ?_
      exact ⟨below_box HB3.out hgA (Nat.le_refl _), .inl ⟨_, r, _, _, _, rfl, rfl, HMV.out.boxed HRES.out hgA⟩⟩
    · have hO : o = none := by exact hm
      subst hO
      have hres := HRES1.out.keep hb3
      have hlt := hres.lt
      have HRES := Lib.hid hres
      have HB3 := Lib.hid (onto HB1.out hb3)
      obtain ⟨⟨c0, c1, c2, c3, c4, c5, c6, c7⟩, f0, f1, f2, f3, f4, f5, f6, f7⟩ := hres.all8
      have hne : ¬ w3.heap.size = w.heap.size := by omega
      have hne' : ¬ w.heap.size = w3.heap.size := by omega
      clear hm H2 hb3 hres
      unfold mC
      go_wp2_with fail
      have hgA : w3.grownBy (set8 w3 w.heap.size (.string (bA m.key)) (.bool m.inner) (.int .i64 m.item.kind) (.int .i64 m.item.n) (.string (bA m.item.text)) (.slice a1 n1 p1) (.slice a2 n2 p2) (.slice a3 n3 p3)) (some w.heap.size) := g_set8 (g_refl _ _) _ _ _ _ _ _ _ _ (.inr rfl)
      refine bodyPost_ret (results_mem (m := m) rfl _ _ rfl (HRES.out.set8 _ _ _ _ _ _ _ _)) rfl ?_
      exact ⟨below_box HB3.out hgA (Nat.le_refl _), .inr ⟨rfl, _, _, _, _, _, .mk _ _ _, .mk _ _ _, .mk _ _ _, rfl⟩⟩
  · have H2 := Lib.hid (rnext_any s (w.alloc (.cells zM 40)) hs)
    have HO := Lib.hid (Sf.memb_item h40)
    obtain ⟨o, ho⟩ : ∃ o, Sf.memb s = o := ⟨_, rfl⟩
    rw [ho] at HO ⊢
    clear ho
    have key : ∀ (K : Prop), (s = [] → K) → (∀ c t, s = c :: t → ((((bA (c :: t))[0]'(Nat.succ_pos _)).toNat : Int) == 40) = false → K) → K := fun K k1 k2 => by
      cases s with
      | nil => exact k1 rfl
      | cons c t => exact k2 c t rfl (by rw [head_bA]; exact byte_off (by simpa using h40))
    clear h40
    refine key _ (fun hs0 => ?_) (fun c t hs0 h0 => ?_)
    · skip
      subst hs0
      clear key
      go_enter Tryz.func78, Tryz.ntmps78
      go_wp2_with fail
      refine H2.out.mono ?_
      rintro e w3 ⟨hb3, ⟨x, r, v, hx, rfl, hw⟩ | ⟨hx, rfl⟩⟩
      · obtain ⟨pa, pc, rfl⟩ := slice4 hw
        have hO : o = some (⟨[], false, x, [], []⟩, r) := by rw [HO.out, hx]
        subst hO
        have hres := HRES1.out.keep hb3
        have hlt := hres.lt
        have HRES := Lib.hid hres
        have HB3 := Lib.hid (onto HB1.out hb3)
        have HPV := Lib.hid (PV.of hw)
        obtain ⟨⟨c0, c1, c2, c3, c4, c5, c6, c7⟩, f0, f1, f2, f3, f4, f5, f6, f7⟩ := hres.all8
        have hne : ¬ w3.heap.size = w.heap.size := by omega
        have hne' : ¬ w.heap.size = w3.heap.size := by omega
        clear hx hw H2 HO hb3 hres
        unfold itmV iC
        go_wp2_with fail
        have hgA : w3.grownBy (set8 w3 w.heap.size (.string (bA [])) (.bool false) (.int .i64 x.kind) (.int .i64 x.n) (.string (bA x.text)) (.slice pa x.params.length pc) (.slice none 0 0) (.slice none 0 0)) (some w.heap.size) := g_set8 (g_refl _ _) _ _ _ _ _ _ _ _ (.inr rfl)
        refine bodyPost_ret (results_mem (m := ⟨[], false, x, [], []⟩) rfl _ _ rfl ((HRES.out.set8 _ _ _ _ _ _ _ _).alloc _)) rfl ?_
        exact ⟨below_al (below_box HB3.out hgA (Nat.le_refl _)) _, .inl ⟨_, r, _, _, _, rfl, rfl, (MV.boxed ⟨HPV.out, IV.nil _, PV.nil _⟩ HRES.out hgA).al _⟩⟩
      · have hO : o = none := by rw [HO.out, hx]
        subst hO
        have hres := HRES1.out.keep hb3
        have hlt := hres.lt
        have HRES := Lib.hid hres
        have HB3 := Lib.hid (onto HB1.out hb3)
        obtain ⟨⟨c0, c1, c2, c3, c4, c5, c6, c7⟩, f0, f1, f2, f3, f4, f5, f6, f7⟩ := hres.all8
        have hne : ¬ w3.heap.size = w.heap.size := by omega
        have hne' : ¬ w.heap.size = w3.heap.size := by omega
        clear hx H2 HO hb3 hres
        unfold itmV iC
        go_wp2_with fail
        have hgA : w3.grownBy (set8 w3 w.heap.size (.string (bA [])) (.bool false) (.int .i64 0) (.int .i64 0) (.string (bA [])) (.slice none 0 0) (.slice none 0 0) (.slice none 0 0)) (some w.heap.size) := g_set8 (g_refl _ _) _ _ _ _ _ _ _ _ (.inr rfl)
        refine bodyPost_ret (results_mem (m := ⟨[], false, Sf.zItm, [], []⟩) rfl _ _ rfl ((HRES.out.set8 _ _ _ _ _ _ _ _).alloc _)) rfl ?_
        exact ⟨below_al (below_box HB3.out hgA (Nat.le_refl _)) _, .inr ⟨rfl, _, _, _, _, _, .mk _ _ _, .mk _ _ _, .mk _ _ _, rfl⟩⟩
    · skip
      subst hs0
      clear key
      go_enter Tryz.func78, Tryz.ntmps78
      go_wp2_with fail
      refine H2.out.mono ?_
      rintro e w3 ⟨hb3, ⟨x, r, v, hx, rfl, hw⟩ | ⟨hx, rfl⟩⟩
      · obtain ⟨pa, pc, rfl⟩ := slice4 hw
        have hO : o = some (⟨[], false, x, [], []⟩, r) := by rw [HO.out, hx]
        subst hO
        have hres := HRES1.out.keep hb3
        have hlt := hres.lt
        have HRES := Lib.hid hres
        have HB3 := Lib.hid (onto HB1.out hb3)
        have HPV := Lib.hid (PV.of hw)
        obtain ⟨⟨c0, c1, c2, c3, c4, c5, c6, c7⟩, f0, f1, f2, f3, f4, f5, f6, f7⟩ := hres.all8
        have hne : ¬ w3.heap.size = w.heap.size := by omega
        have hne' : ¬ w.heap.size = w3.heap.size := by omega
        clear hx hw H2 HO hb3 hres
        unfold itmV iC
        go_wp2_with fail
        have hgA : w3.grownBy (set8 w3 w.heap.size (.string (bA [])) (.bool false) (.int .i64 x.kind) (.int .i64 x.n) (.string (bA x.text)) (.slice pa x.params.length pc) (.slice none 0 0) (.slice none 0 0)) (some w.heap.size) := g_set8 (g_refl _ _) _ _ _ _ _ _ _ _ (.inr rfl)
        refine bodyPost_ret (results_mem (m := ⟨[], false, x, [], []⟩) rfl _ _ rfl ((HRES.out.set8 _ _ _ _ _ _ _ _).alloc _)) rfl ?_
        exact ⟨below_al (below_box HB3.out hgA (Nat.le_refl _)) _, .inl ⟨_, r, _, _, _, rfl, rfl, (MV.boxed ⟨HPV.out, IV.nil _, PV.nil _⟩ HRES.out hgA).al _⟩⟩
      · have hO : o = none := by rw [HO.out, hx]
        subst hO
        have hres := HRES1.out.keep hb3
        have hlt := hres.lt
        have HRES := Lib.hid hres
        have HB3 := Lib.hid (onto HB1.out hb3)
        obtain ⟨⟨c0, c1, c2, c3, c4, c5, c6, c7⟩, f0, f1, f2, f3, f4, f5, f6, f7⟩ := hres.all8
        have hne : ¬ w3.heap.size = w.heap.size := by omega
        have hne' : ¬ w.heap.size = w3.heap.size := by omega
        clear hx H2 HO hb3 hres
        unfold itmV iC
        go_wp2_with fail
        have hgA : w3.grownBy (set8 w3 w.heap.size (.string (bA [])) (.bool false) (.int .i64 0) (.int .i64 0) (.string (bA [])) (.slice none 0 0) (.slice none 0 0) (.slice none 0 0)) (some w.heap.size) := g_set8 (g_refl _ _) _ _ _ _ _ _ _ _ (.inr rfl)
        refine bodyPost_ret (results_mem (m := ⟨[], false, Sf.zItm, [], []⟩) rfl _ _ rfl ((HRES.out.set8 _ _ _ _ _ _ _ _).alloc _)) rfl ?_
        exact ⟨below_al (below_box HB3.out hgA (Nat.le_refl _)) _, .inr ⟨rfl, _, _, _, _, _, .mk _ _ _, .mk _ _ _, .mk _ _ _, rfl⟩⟩
set_option maxHeartbeats 4000000 in
set_option maxRecDepth 20000 in
theorem rkeyed_any (s : List UInt8) (w : World) (hs : s.length ≤ 1000000) : Calls Tryz.prog 77 #[.string (bA s)] w (RetM (.bool true) (.bool false) w (Sf.keyd s)) := by
  have HRES0 := Lib.hid (CBox.new w 40 zM)
  have HB0 := Lib.hid (below_one w (.cells zM 40))
  have H1 := Lib.hid (rkey_any s (w.alloc (.cells zM 40)) hs)
  obtain ⟨o, ho⟩ : ∃ o, Sf.keyd s = o := ⟨_, rfl⟩
  rw [ho]
  have HO := Lib.hid ho
  clear ho
  go_enter Tryz.func77, Tryz.ntmps77
  go_wp2_with fail
  refine H1.out.mono ?_
  rintro e w1 ⟨rfl, q, hq⟩
  have hb1 : Below (w.alloc (.cells zM 40)).heap.size (w.alloc (.cells zM 40)) w1 := by rw [hq]; exact below_drew _ q
  have HRES1 := Lib.hid (HRES0.out.keep hb1)
  have HB1 := Lib.hid (onto HB0.out hb1)
  have hlt1 := HRES1.out.lt
  clear hb1 hq H1 HRES0 HB0
  cases hk : Sf.keyOf s with
  | none =>
    have hO : o = none := by rw [← HO.out, Sf.keyd_none hk]
    subst hO
    have HRES := HRES1; have HB3 := HB1
    obtain ⟨⟨c0, c1, c2, c3, c4, c5, c6, c7⟩, f0, f1, f2, f3, f4, f5, f6, f7⟩ := HRES1.out.all8
    clear hk HO
    unfold keyV
    go_wp2_with fail
    have hgA : w1.grownBy (set8 w1 w.heap.size (.string (bA [])) (.bool false) (.int .i64 0) (.int .i64 0) (.string (bA [])) (.slice none 0 0) (.slice none 0 0) (.slice none 0 0)) (some w.heap.size) := g_set8 (g_refl _ _) _ _ _ _ _ _ _ _ (.inr rfl)
    refine bodyPost_ret (results_mem (m := ⟨[], false, Sf.zItm, [], []⟩) rfl _ _ rfl (HRES.out.set8 _ _ _ _ _ _ _ _)) rfl ?_
    exact ⟨below_box HB3.out hgA (Nat.le_refl _), .inr ⟨rfl, _, _, _, _, _, .mk _ _ _, .mk _ _ _, .mk _ _ _, rfl⟩⟩
  | some y =>
    obtain ⟨k, r⟩ := y
    have hkl := keyOf_len hk
    unfold keyV
    by_cases h61 : r.head? = some 61
    · obtain ⟨t, rfl⟩ := head_cut h61
      have h0 : ((((bA (61 :: t))[0]'(Nat.succ_pos _)).toNat : Int) == 61) = true := rfl
      have HX := Lib.hid (tail_bA 61 t)
      have H3 := Lib.hid (rmember_any t w1 (by simp at hkl; omega))
      have HK := Lib.hid (Sf.keyd_val hk)
      rw [HO.out] at HK
      clear hk h61 HO
      go_wp2_with fail
      rw [HX.out]
      refine H3.out.mono ?_
      rintro e w3 ⟨hb3, ⟨m, r, v1, v2, v3, hm, rfl, hv⟩ | ⟨hm, m, v1, v2, v3, x, ⟨a1, n1, p1, rfl⟩, ⟨a2, n2, p2, rfl⟩, ⟨a3, n3, p3, rfl⟩, rfl⟩⟩
      · obtain ⟨a1, p1, rfl⟩ := hv.item.slice
        obtain ⟨a2, p2, rfl⟩ := hv.items.slice
        obtain ⟨a3, p3, rfl⟩ := hv.params.slice
        have hO : o = some (⟨k, m.inner, m.item, m.items, m.params⟩, r) := by rw [HK.out, hm]
        subst hO
        have hres := HRES1.out.keep hb3
        have hlt := hres.lt
        have HRES := Lib.hid hres
        have HB3 := Lib.hid (onto HB1.out hb3)
        have HMV : Hid (MV w3 ⟨k, m.inner, m.item, m.items, m.params⟩ (.slice a1 m.item.params.length p1) (.slice a2 m.items.length p2) (.slice a3 m.params.length p3)) := Lib.hid ⟨hv.item, hv.items, hv.params⟩
        obtain ⟨⟨c0, c1, c2, c3, c4, c5, c6, c7⟩, f0, f1, f2, f3, f4, f5, f6, f7⟩ := hres.all8
        have hne : ¬ w3.heap.size = w.heap.size := by omega
        have hne' : ¬ w.heap.size = w3.heap.size := by omega
        clear hm hv H3 hb3 hres
        unfold mC
        go_wp2_with fail
        have hgA : w3.grownBy (set8 w3 w.heap.size (.string (bA k)) (.bool m.inner) (.int .i64 m.item.kind) (.int .i64 m.item.n) (.string (bA m.item.text)) (.slice a1 m.item.params.length p1) (.slice a2 m.items.length p2) (.slice a3 m.params.length p3)) (some w.heap.size) := g_set8 (g_refl _ _) _ _ _ _ _ _ _ _ (.inr rfl)
        refine bodyPost_ret (results_mem (m := ⟨k, m.inner, m.item, m.items, m.params⟩) rfl _ _ rfl ((HRES.out.set8 _ _ _ _ _ _ _ _).alloc _)) rfl ?_
        exact ⟨below_al (below_box HB3.out hgA (Nat.le_refl _)) _, .inl ⟨_, r, _, _, _, rfl, rfl, (HMV.out.boxed HRES.out hgA).al _⟩⟩
      · have hO : o = none := by rw [HK.out, hm]
        subst hO
        have hres := HRES1.out.keep hb3
        have hlt := hres.lt
        have HRES := Lib.hid hres
        have HB3 := Lib.hid (onto HB1.out hb3)
        obtain ⟨⟨c0, c1, c2, c3, c4, c5, c6, c7⟩, f0, f1, f2, f3, f4, f5, f6, f7⟩ := hres.all8
        have hne : ¬ w3.heap.size = w.heap.size := by omega
        have hne' : ¬ w.heap.size = w3.heap.size := by omega
        clear hm H3 hb3 hres
        unfold mC
        go_wp2_with fail
        have hgA : w3.grownBy (set8 w3 w.heap.size (.string (bA k)) (.bool m.inner) (.int .i64 m.item.kind) (.int .i64 m.item.n) (.string (bA m.item.text)) (.slice a1 n1 p1) (.slice a2 n2 p2) (.slice a3 n3 p3)) (some w.heap.size) := g_set8 (g_refl _ _) _ _ _ _ _ _ _ _ (.inr rfl)
        refine bodyPost_ret (results_mem (m := ⟨k, m.inner, m.item, m.items, m.params⟩) rfl _ _ rfl ((HRES.out.set8 _ _ _ _ _ _ _ _).alloc _)) rfl ?_
        exact ⟨below_al (below_box HB3.out hgA (Nat.le_refl _)) _, .inr ⟨rfl, _, _, _, _, _, .mk _ _ _, .mk _ _ _, .mk _ _ _, rfl⟩⟩
    · have H3 := Lib.hid (rparams_any r w1 (by omega))
      have HK := Lib.hid (Sf.keyd_bare hk h61)
      rw [HO.out] at HK
      have key : ∀ (K : Prop), (r = [] → K) → (∀ c t, r = c :: t → ((((bA (c :: t))[0]'(Nat.succ_pos _)).toNat : Int) == 61) = false → K) → K := fun K k1 k2 => by
        cases r with
        | nil => exact k1 rfl
        | cons c t => exact k2 c t rfl (by rw [head_bA]; exact byte_off (by simpa using h61))
      clear hk h61 HO
      refine key _ (fun hs0 => ?_) (fun c t hs0 h0 => ?_)
      · skip
        subst hs0
        clear key
        go_wp2_with fail
        refine H3.out.mono ?_
        rintro e w3 ⟨hb3, ⟨l, r', v, hl, rfl, hw⟩ | ⟨hl, rfl⟩⟩
        · obtain ⟨pa, pc, rfl⟩ := slice4 hw
          have hO : o = some (⟨k, false, ⟨6, 1, [], l⟩, [], []⟩, r') := by rw [HK.out, hl]
          subst hO
          have hres := HRES1.out.keep hb3
          have hlt := hres.lt
          have HRES := Lib.hid hres
          have HB3 := Lib.hid (onto HB1.out hb3)
          have HPV := Lib.hid (PV.of hw)
          obtain ⟨⟨c0, c1, c2, c3, c4, c5, c6, c7⟩, f0, f1, f2, f3, f4, f5, f6, f7⟩ := hres.all8
          have hne : ¬ w3.heap.size = w.heap.size := by omega
          have hne' : ¬ w.heap.size = w3.heap.size := by omega
          clear hl hw H3 HK hb3 hres
          go_wp2_with fail
          have hgA : w3.grownBy (set8 w3 w.heap.size (.string (bA k)) (.bool false) (.int .i64 6) (.int .i64 1) (.string (bA [])) (.slice pa l.length pc) (.slice none 0 0) (.slice none 0 0)) (some w.heap.size) := g_set8 (g_refl _ _) _ _ _ _ _ _ _ _ (.inr rfl)
          refine bodyPost_ret (results_mem (m := ⟨k, false, ⟨6, 1, [], l⟩, [], []⟩) rfl _ _ rfl (HRES.out.set8 _ _ _ _ _ _ _ _)) rfl ?_
          exact ⟨below_box HB3.out hgA (Nat.le_refl _), .inl ⟨_, r', _, _, _, rfl, rfl, MV.boxed ⟨HPV.out, IV.nil _, PV.nil _⟩ HRES.out hgA⟩⟩
        · have hO : o = none := by rw [HK.out, hl]
          subst hO
          have hres := HRES1.out.keep hb3
          have hlt := hres.lt
          have HRES := Lib.hid hres
          have HB3 := Lib.hid (onto HB1.out hb3)
          obtain ⟨⟨c0, c1, c2, c3, c4, c5, c6, c7⟩, f0, f1, f2, f3, f4, f5, f6, f7⟩ := hres.all8
          have hne : ¬ w3.heap.size = w.heap.size := by omega
          have hne' : ¬ w.heap.size = w3.heap.size := by omega
          clear hl H3 HK hb3 hres
          go_wp2_with fail
          have hgA : w3.grownBy (set8 w3 w.heap.size (.string (bA k)) (.bool false) (.int .i64 6) (.int .i64 1) (.string (bA [])) (.slice none 0 0) (.slice none 0 0) (.slice none 0 0)) (some w.heap.size) := g_set8 (g_refl _ _) _ _ _ _ _ _ _ _ (.inr rfl)
          refine bodyPost_ret (results_mem (m := ⟨k, false, ⟨6, 1, [], []⟩, [], []⟩) rfl _ _ rfl (HRES.out.set8 _ _ _ _ _ _ _ _)) rfl ?_
          exact ⟨below_box HB3.out hgA (Nat.le_refl _), .inr ⟨rfl, _, _, _, _, _, .mk _ _ _, .mk _ _ _, .mk _ _ _, rfl⟩⟩
      · skip
        subst hs0
        clear key
        go_wp2_with fail
        refine H3.out.mono ?_
        rintro e w3 ⟨hb3, ⟨l, r', v, hl, rfl, hw⟩ | ⟨hl, rfl⟩⟩
        · obtain ⟨pa, pc, rfl⟩ := slice4 hw
          have hO : o = some (⟨k, false, ⟨6, 1, [], l⟩, [], []⟩, r') := by rw [HK.out, hl]
          subst hO
          have hres := HRES1.out.keep hb3
          have hlt := hres.lt
          have HRES := Lib.hid hres
          have HB3 := Lib.hid (onto HB1.out hb3)
          have HPV := Lib.hid (PV.of hw)
          obtain ⟨⟨c0, c1, c2, c3, c4, c5, c6, c7⟩, f0, f1, f2, f3, f4, f5, f6, f7⟩ := hres.all8
          have hne : ¬ w3.heap.size = w.heap.size := by omega
          have hne' : ¬ w.heap.size = w3.heap.size := by omega
          clear hl hw H3 HK hb3 hres
          go_wp2_with fail
          have hgA : w3.grownBy (set8 w3 w.heap.size (.string (bA k)) (.bool false) (.int .i64 6) (.int .i64 1) (.string (bA [])) (.slice pa l.length pc) (.slice none 0 0) (.slice none 0 0)) (some w.heap.size) := g_set8 (g_refl _ _) _ _ _ _ _ _ _ _ (.inr rfl)
          refine bodyPost_ret (results_mem (m := ⟨k, false, ⟨6, 1, [], l⟩, [], []⟩) rfl _ _ rfl (HRES.out.set8 _ _ _ _ _ _ _ _)) rfl ?_
          exact ⟨below_box HB3.out hgA (Nat.le_refl _), .inl ⟨_, r', _, _, _, rfl, rfl, MV.boxed ⟨HPV.out, IV.nil _, PV.nil _⟩ HRES.out hgA⟩⟩
        · have hO : o = none := by rw [HK.out, hl]
          subst hO
          have hres := HRES1.out.keep hb3
          have hlt := hres.lt
          have HRES := Lib.hid hres
          have HB3 := Lib.hid (onto HB1.out hb3)
          obtain ⟨⟨c0, c1, c2, c3, c4, c5, c6, c7⟩, f0, f1, f2, f3, f4, f5, f6, f7⟩ := hres.all8
          have hne : ¬ w3.heap.size = w.heap.size := by omega
          have hne' : ¬ w.heap.size = w3.heap.size := by omega
          clear hl H3 HK hb3 hres
          go_wp2_with fail
          have hgA : w3.grownBy (set8 w3 w.heap.size (.string (bA k)) (.bool false) (.int .i64 6) (.int .i64 1) (.string (bA [])) (.slice none 0 0) (.slice none 0 0) (.slice none 0 0)) (some w.heap.size) := g_set8 (g_refl _ _) _ _ _ _ _ _ _ _ (.inr rfl)
          refine bodyPost_ret (results_mem (m := ⟨k, false, ⟨6, 1, [], []⟩, [], []⟩) rfl _ _ rfl (HRES.out.set8 _ _ _ _ _ _ _ _)) rfl ?_
          exact ⟨below_box HB3.out hgA (Nat.le_refl _), .inr ⟨rfl, _, _, _, _, _, .mk _ _ _, .mk _ _ _, .mk _ _ _, rfl⟩⟩
theorem results_eit {fn : Func} (h : fn.results = #[.cell 4 40, .tmp 5, .tmp 6]) (tmps : Array Value) (w : World) {B : Nat} {m : Sf.Mem} {v1 v2 v3 : Value} (hp : tmps[4]?.getD undef = .pointer (some ⟨B, 0, none⟩)) (hb : CBox w B 40 (mC m v1 v2 v3)) :
    (results fn tmps).run Tryz.prog w = .ok (.tuple #[.agg (mC m v1 v2 v3), tmps.getD 5 undef, tmps.getD 6 undef]) w := by
  have hl := load_mem hb
  simp [results, h, hp, hl, asAddr]
set_option maxHeartbeats 2000000 in
set_option maxRecDepth 20000 in
theorem reither_true (s : List UInt8) (w : World) (hs : s.length ≤ 1000000) : Calls Tryz.prog 46 #[.string (bA s), .bool true] w (RetM (.bool true) (.bool false) w (Sf.eith true s)) := by
  have HRES1 := Lib.hid (CBox.new w 40 zM)
  have HB1 := Lib.hid (below_one w (.cells zM 40))
  have h2 := rkeyed_any s (w.alloc (.cells zM 40)) hs
  obtain ⟨o, ho⟩ : ∃ o, Sf.eith true s = o := ⟨_, rfl⟩
  have ho' : Sf.keyd s = o := ho
  rw [ho'] at h2
  rw [ho]
  have H2 := Lib.hid h2
  clear h2 ho ho'
  go_enter Tryz.func46, Tryz.ntmps46
  go_wp2_with fail
  refine H2.out.mono ?_
  rintro e w3 ⟨hb3, ⟨m, r, v1, v2, v3, hm, rfl, hv⟩ | ⟨hm, m, v1, v2, v3, x, ⟨a1, n1, p1, rfl⟩, ⟨a2, n2, p2, rfl⟩, ⟨a3, n3, p3, rfl⟩, rfl⟩⟩
  · obtain ⟨a1, p1, rfl⟩ := hv.item.slice
    obtain ⟨a2, p2, rfl⟩ := hv.items.slice
    obtain ⟨a3, p3, rfl⟩ := hv.params.slice
    have hO : o = some (m, r) := by exact hm
    subst hO
    have hres := HRES1.out.keep hb3
    have hlt := hres.lt
    have HRES := Lib.hid hres
    have HB3 := Lib.hid (onto HB1.out hb3)
    have HMV : Hid (MV w3 m (.slice a1 m.item.params.length p1) (.slice a2 m.items.length p2) (.slice a3 m.params.length p3)) := Lib.hid hv
    obtain ⟨⟨c0, c1, c2, c3, c4, c5, c6, c7⟩, f0, f1, f2, f3, f4, f5, f6, f7⟩ := hres.all8
    have hne : ¬ w3.heap.size = w.heap.size := by omega
    have hne' : ¬ w.heap.size = w3.heap.size := by omega
    clear hm hv H2 hb3 hres
    unfold mC
    go_wp2_with fail
    have hgA : w3.grownBy (set8 w3 w.heap.size (.string (bA m.key)) (.bool m.inner) (.int .i64 m.item.kind) (.int .i64 m.item.n) (.string (bA m.item.text)) (.slice a1 m.item.params.length p1) (.slice a2 m.items.length p2) (.slice a3 m.params.length p3)) (some w.heap.size) := g_set8 (g_refl _ _) _ _ _ _ _ _ _ _ (.inr rfl)
    refine bodyPost_ret (results_eit (m := m) rfl _ _ rfl (HRES.out.set8 _ _ _ _ _ _ _ _)) rfl ?_
    exact ⟨below_box HB3.out hgA (Nat.le_refl _), .inl ⟨_, r, _, _, _, rfl, rfl, HMV.out.boxed HRES.out hgA⟩⟩
  · have hO : o = none := by exact hm
    subst hO
    have hres := HRES1.out.keep hb3
    have hlt := hres.lt
    have HRES := Lib.hid hres
    have HB3 := Lib.hid (onto HB1.out hb3)
    obtain ⟨⟨c0, c1, c2, c3, c4, c5, c6, c7⟩, f0, f1, f2, f3, f4, f5, f6, f7⟩ := hres.all8
    have hne : ¬ w3.heap.size = w.heap.size := by omega
    have hne' : ¬ w.heap.size = w3.heap.size := by omega
    clear hm H2 hb3 hres
    unfold mC
    go_wp2_with fail
    have hgA : w3.grownBy (set8 w3 w.heap.size (.string (bA m.key)) (.bool m.inner) (.int .i64 m.item.kind) (.int .i64 m.item.n) (.string (bA m.item.text)) (.slice a1 n1 p1) (.slice a2 n2 p2) (.slice a3 n3 p3)) (some w.heap.size) := g_set8 (g_refl _ _) _ _ _ _ _ _ _ _ (.inr rfl)
    refine bodyPost_ret (results_eit (m := m) rfl _ _ rfl (HRES.out.set8 _ _ _ _ _ _ _ _)) rfl ?_
    exact ⟨below_box HB3.out hgA (Nat.le_refl _), .inr ⟨rfl, _, _, _, _, _, .mk _ _ _, .mk _ _ _, .mk _ _ _, rfl⟩⟩
set_option maxHeartbeats 2000000 in
set_option maxRecDepth 20000 in
theorem reither_false (s : List UInt8) (w : World) (hs : s.length ≤ 1000000) : Calls Tryz.prog 46 #[.string (bA s), .bool false] w (RetM (.bool true) (.bool false) w (Sf.eith false s)) := by
  have HRES1 := Lib.hid (CBox.new w 40 zM)
  have HB1 := Lib.hid (below_one w (.cells zM 40))
  have h2 := rmember_any s (w.alloc (.cells zM 40)) hs
  obtain ⟨o, ho⟩ : ∃ o, Sf.eith false s = o := ⟨_, rfl⟩
  have ho' : Sf.memb s = o := ho
  rw [ho'] at h2
  rw [ho]
  have H2 := Lib.hid h2
  clear h2 ho ho'
  go_enter Tryz.func46, Tryz.ntmps46
  go_wp2_with fail
  refine H2.out.mono ?_
  rintro e w3 ⟨hb3, ⟨m, r, v1, v2, v3, hm, rfl, hv⟩ | ⟨hm, m, v1, v2, v3, x, ⟨a1, n1, p1, rfl⟩, ⟨a2, n2, p2, rfl⟩, ⟨a3, n3, p3, rfl⟩, rfl⟩⟩
  · obtain ⟨a1, p1, rfl⟩ := hv.item.slice
    obtain ⟨a2, p2, rfl⟩ := hv.items.slice
    obtain ⟨a3, p3, rfl⟩ := hv.params.slice
    have hO : o = some (m, r) := by exact hm
    subst hO
    have hres := HRES1.out.keep hb3
    have hlt := hres.lt
    have HRES := Lib.hid hres
    have HB3 := Lib.hid (onto HB1.out hb3)
    have HMV : Hid (MV w3 m (.slice a1 m.item.params.length p1) (.slice a2 m.items.length p2) (.slice a3 m.params.length p3)) := Lib.hid hv
    obtain ⟨⟨c0, c1, c2, c3, c4, c5, c6, c7⟩, f0, f1, f2, f3, f4, f5, f6, f7⟩ := hres.all8
    have hne : ¬ w3.heap.size = w.heap.size := by omega
    have hne' : ¬ w.heap.size = w3.heap.size := by omega
    clear hm hv H2 hb3 hres
    unfold mC
    go_wp2_with fail
    have hgA : w3.grownBy (set8 w3 w.heap.size (.string (bA m.key)) (.bool m.inner) (.int .i64 m.item.kind) (.int .i64 m.item.n) (.string (bA m.item.text)) (.slice a1 m.item.params.length p1) (.slice a2 m.items.length p2) (.slice a3 m.params.length p3)) (some w.heap.size) := g_set8 (g_refl _ _) _ _ _ _ _ _ _ _ (.inr rfl)
    refine bodyPost_ret (results_eit (m := m) rfl _ _ rfl (HRES.out.set8 _ _ _ _ _ _ _ _)) rfl ?_
    exact ⟨below_box HB3.out hgA (Nat.le_refl _), .inl ⟨_, r, _, _, _, rfl, rfl, HMV.out.boxed HRES.out hgA⟩⟩
  · have hO : o = none := by exact hm
    subst hO
    have hres := HRES1.out.keep hb3
    have hlt := hres.lt
    have HRES := Lib.hid hres
    have HB3 := Lib.hid (onto HB1.out hb3)
    obtain ⟨⟨c0, c1, c2, c3, c4, c5, c6, c7⟩, f0, f1, f2, f3, f4, f5, f6, f7⟩ := hres.all8
    have hne : ¬ w3.heap.size = w.heap.size := by omega
    have hne' : ¬ w.heap.size = w3.heap.size := by omega
    clear hm H2 hb3 hres
    unfold mC
    go_wp2_with fail
    have hgA : w3.grownBy (set8 w3 w.heap.size (.string (bA m.key)) (.bool m.inner) (.int .i64 m.item.kind) (.int .i64 m.item.n) (.string (bA m.item.text)) (.slice a1 n1 p1) (.slice a2 n2 p2) (.slice a3 n3 p3)) (some w.heap.size) := g_set8 (g_refl _ _) _ _ _ _ _ _ _ _ (.inr rfl)
    refine bodyPost_ret (results_eit (m := m) rfl _ _ rfl (HRES.out.set8 _ _ _ _ _ _ _ _)) rfl ?_
    exact ⟨below_box HB3.out hgA (Nat.le_refl _), .inr ⟨rfl, _, _, _, _, _, .mk _ _ _, .mk _ _ _, .mk _ _ _, rfl⟩⟩
theorem reither_any (d : Bool) (s : List UInt8) (w : World) (hs : s.length ≤ 1000000) : Calls Tryz.prog 46 #[.string (bA s), .bool d] w (RetM (.bool true) (.bool false) w (Sf.eith d s)) := by
  cases d with
  | true => exact reither_true s w hs
  | false => exact reither_false s w hs
end Go.Proofs.YtogjekjklknfeaaGreatDoor

/- The contracts of the document's with, read, List and Dict. -/


namespace Go.Proofs.YtogjekjklknfeaaGreatDoor
open Go.RowKit Go.Shelf Go.Maps Go.Deep

def hasM (l : List Sf.Mem) (p : Sf.Mem) : Bool := l.any fun q => q.key == p.key
def repMs (l : List Sf.Mem) (p : Sf.Mem) (j : Nat) : List Sf.Mem := (l.take j).map (Sf.repM p)
theorem repMs_next {l : List Sf.Mem} {p q : Sf.Mem} {j : Nat} (h : j < l.length) (hq : Sf.repM p l[j] = q) : repMs l p (j + 1) = repMs l p j ++ [q] := by
  unfold repMs
  rw [List.take_succ_eq_append_getElem h, List.map_append, List.map_singleton, hq]
theorem hasM_next {l : List Sf.Mem} {p : Sf.Mem} {j : Nat} (h : j < l.length) : hasM (l.take (j + 1)) p = (hasM (l.take j) p || l[j].key == p.key) := by
  unfold hasM
  rw [List.take_succ_eq_append_getElem h, List.any_append]; simp
theorem putM_yes {l : List Sf.Mem} {p : Sf.Mem} (h : hasM l p = true) : Sf.putM l p = repMs l p l.length := by
  unfold repMs
  rw [Sf.putM_old ((Sf.anyM l p.key).1 h), List.take_length]
theorem putM_no {l : List Sf.Mem} {p : Sf.Mem} (h : hasM l p = false) : Sf.putM l p = repMs l p l.length ++ [p] := by
  have hn : p.key ∉ Sf.keysM l := fun hk => by
    have := (Sf.anyM l p.key).2 hk
    unfold hasM at h
    rw [this] at h; cases h
  unfold repMs
  rw [Sf.putM_new hn, List.take_length, Sf.repM_none hn]
/-- How far 'with' has come. -/
structure WiI (w : World) (l : List Sf.Mem) (p : Sf.Mem) (v1 v2 v3 : Value) (j : Nat) (v : Value) (wr : World) (xs : List Value) : Prop where
  row : wr.ownsRow (w.heap.size + 1) 40 8 v j xs
  rowM : RowM wr (repMs l p j) xs
  box : CBox wr w.heap.size 40 (mC p v1 v2 v3)
  below : Below w.heap.size w wr
  sz : w.heap.size + 1 ≤ wr.heap.size
theorem WiI.drew {w wr : World} {l : List Sf.Mem} {p : Sf.Mem} {v1 v2 v3 v : Value} {j : Nat} {xs : List Value} (h : WiI w l p v1 v2 v3 j v wr xs) (q : Nat) : WiI w l p v1 v2 v3 j v (wr.drewN q) xs := ⟨h.row, h.rowM.kept (.below (below_drew _ _)) (.below (below_drew _ _)), h.box, onto h.below (below_drew _ _), h.sz⟩
theorem WiI.app {w wr w7 : World} {l : List Sf.Mem} {p q : Sf.Mem} {v1 v2 v3 v v7 u1 u2 u3 : Value} {j : Nat} {xs : List Value} (h : WiI w l p v1 v2 v3 j v wr xs) (o : Obj) (hq : MV wr q u1 u2 u3) (_ : w7.ownsRow (w.heap.size + 1) 40 8 v7 (j + 1) (xs ++ (mC q u1 u2 u3).toList)) (hg : (wr.alloc o).grownBy w7 v.ownBlock) :
    RowM w7 (repMs l p j ++ [q]) (xs ++ (mC q u1 u2 u3).toList) ∧ CBox w7 w.heap.size 40 (mC p v1 v2 v3) ∧ Below w.heap.size w w7 ∧ w.heap.size + 1 ≤ w7.heap.size := by
  have hsz := h.sz
  have hs7 := hg.size
  simp at hs7
  have hk : ∀ e, e ≠ 40 → KeptT e wr w7 := fun e he => (KeptT.alloc _ _ o).trans (.row he (h.row.alloc o) hg)
  exact ⟨(h.rowM.kept (hk _ (by decide)) (hk _ (by decide))).snoc (hq.kept (hk _ (by decide)) (hk _ (by decide))), (h.box.alloc o).kept hg (own_neE8 h.row (by omega)), (below_al h.below o).grown hg (by simp; omega) (fun k hk => by have := (h.row.lt k hk).1; omega), by omega⟩
set_option maxHeartbeats 8000000 in
set_option maxRecDepth 100000 in
theorem rwithM_any (va0 : Option Addr) (cp base : Nat) (l : List Sf.Mem) (p : Sf.Mem) (v1 v2 v3 : Value) (w : World) (hA : LV w base (.slice va0 l.length cp) l) (hl : l.length ≤ 1000000) (hp : MV w p v1 v2 v3) :
    Calls Tryz.prog 47 #[.slice va0 l.length cp, .agg (mC p v1 v2 v3)] w fun e w' => ∃ v, e = .returned v ∧ Below w.heap.size w w' ∧ LV w' w.heap.size v (Sf.putM l p) := by
  obtain ⟨i0, hi, hz0, hz1, hz2⟩ := info_parts info_mem
  have HI := Lib.hid hi; have HZ0 := Lib.hid hz0; have HZ1 := Lib.hid hz1; have HZ2 := Lib.hid hz2
  have hst : WiI w l p v1 v2 v3 0 (.slice none 0 0) (w.alloc (.cells (mC p v1 v2 v3) 40)) [] := ⟨World.ownsRow_nil _ _ _ _, rfl, CBox.new _ _ _, below_one _ _, by simp⟩
  obtain ⟨a1, q1, rfl⟩ := hp.item.slice
  obtain ⟨a2, q2, rfl⟩ := hp.items.slice
  obtain ⟨a3, q3, rfl⟩ := hp.params.slice
  have HS := Lib.hid hst
  have HA := Lib.hid hA
  have HP := Lib.hid hp
  clear hi hz0 hz1 hz2 hst hA hp
  unfold mC
  go_enter Tryz.func47, Tryz.ntmps47
  go_wp2_with fail
  go_loopg [5, 6, 7] l.length (fun k v dn i wr => ∃ j xs, l.length - j = k ∧ j ≤ l.length ∧ i = .int .i64 ((j : Nat) : Int) ∧ dn = .bool (hasM (l.take j) p) ∧ WiI w l p (.slice a1 p.item.params.length q1) (.slice a2 p.items.length q2) (.slice a3 p.params.length q3) j v wr xs)
  case atStart => exact ⟨0, [], rfl, Nat.zero_le _, rfl, rfl, HS.out⟩
  case round =>
    obtain ⟨j, xs, hk, hj, rfl, rfl, hI⟩ := hrel
    obtain ⟨va, vc, rfl⟩ := slice8 hI.row
    have HV := Lib.hid hI
    have hsz := hI.sz
    clear hI HS
    by_cases hjl : j < l.length
    · have hAr := HA.out.below HV.out.below
      obtain ⟨ys, hrowA, hrmA⟩ := hAr
      obtain ⟨u1, u2, u3, hmv, hx8⟩ := hrmA.at j hjl
      obtain ⟨g, rfl⟩ : ∃ g, va0 = some ⟨g, 0, none⟩ := by
        obtain ⟨_, ⟨h1, h2⟩ | ⟨g, cap, _, h1, _⟩⟩ := hrowA
        · omega
        · cases h1; exact ⟨g, rfl⟩
      obtain ⟨b1, r1, rfl⟩ := hmv.item.slice
      obtain ⟨b2, r2, rfl⟩ := hmv.items.slice
      obtain ⟨b3, r3, rfl⟩ := hmv.params.slice
      have a0 := (own_cell hrowA (hx8 0 (by omega))).1
      have a1' := (own_cell hrowA (hx8 1 (by omega))).1
      have a2' := (own_cell hrowA (hx8 2 (by omega))).1
      have a3' := (own_cell hrowA (hx8 3 (by omega))).1
      have a4' := (own_cell hrowA (hx8 4 (by omega))).1
      have a5' := (own_cell hrowA (hx8 5 (by omega))).1
      have a6' := (own_cell hrowA (hx8 6 (by omega))).1
      have a7' := (own_cell hrowA (hx8 7 (by omega))).1
      have hcap : l.length ≤ cp := by
        obtain ⟨_, ⟨h1, h2⟩ | ⟨g', cap, _, h1, _, _, h2, _⟩⟩ := hrowA
        · cases h1
        · cases h1; exact h2
      have hab : g < wr.heap.size := (hrowA.lt g rfl).2
      obtain ⟨q, hq⟩ : ∃ q, l[j] = q := ⟨_, rfl⟩
      rw [hq] at a0 a1' a2' a3' a4' a5' a6' a7' hmv
      simp only [Nat.add_zero] at a0
      have HQ := Lib.hid hq
      have HMV := Lib.hid hmv
      obtain ⟨c0, c1, c2, c3, c4, c5, c6, c7⟩ := HV.out.box.all8.1
      clear hq hx8 hrmA hrowA hmv
      go_wp2_with fail
      go_quiet (fail)
      have HV5 := Lib.hid (HV.out.drew nq)
      have HMV5 := Lib.hid (HMV.out.below (below_drew wr nq))
      obtain ⟨w5, hw5⟩ : ∃ w5, wr.drewN nq = w5 := ⟨_, rfl⟩
      have hsz5 : w.heap.size + 1 ≤ w5.heap.size := by rw [← hw5]; exact hsz
      have hab5 : g < w5.heap.size := by rw [← hw5]; exact hab
      have b0 : w5.cell? ⟨g, j * 8, none⟩ = some (.string (bA q.key)) := by rw [← hw5]; exact a0
      have b1' : w5.cell? ⟨g, j * 8 + 1, none⟩ = some (.bool q.inner) := by rw [← hw5]; exact a1'
      have b2' : w5.cell? ⟨g, j * 8 + 2, none⟩ = some (.int .i64 q.item.kind) := by rw [← hw5]; exact a2'
      have b3' : w5.cell? ⟨g, j * 8 + 3, none⟩ = some (.int .i64 q.item.n) := by rw [← hw5]; exact a3'
      have b4' : w5.cell? ⟨g, j * 8 + 4, none⟩ = some (.string (bA q.item.text)) := by rw [← hw5]; exact a4'
      have b5' : w5.cell? ⟨g, j * 8 + 5, none⟩ = some (.slice b1 q.item.params.length r1) := by rw [← hw5]; exact a5'
      have b6' : w5.cell? ⟨g, j * 8 + 6, none⟩ = some (.slice b2 q.items.length r2) := by rw [← hw5]; exact a6'
      have b7' : w5.cell? ⟨g, j * 8 + 7, none⟩ = some (.slice b3 q.params.length r3) := by rw [← hw5]; exact a7'
      rw [hw5] at HV5 HMV5 ⊢
      have HK := Lib.hid (hasM_next (p := p) hjl)
      rw [HQ.out] at HK
      clear a0 a1' a2' a3' a4' a5' a6' a7' c0 c1 c2 c3 c4 c5 c6 c7 hab hsz hw5 HV HMV
      obtain ⟨c0, c1, c2, c3, c4, c5, c6, c7⟩ := HV5.out.box.all8.1
      have HP5 := Lib.hid (HP.out.below HV5.out.below)
      cases hb : (q.key == p.key) with
      | true =>
        have HRP : Hid (Sf.repM p q = p) := Lib.hid (by unfold Sf.repM; rw [if_pos hb])
        rw [hb] at HK
        clear hb b0 b1' b2' b3' b4' b5' b6' b7'
        go_wp2_with (at_builtin; refine wpList_append_own _ rfl _ _ 23 rfl (w.heap.size + 1) 40 i0 (.agg zM) 8 128 Tryz.underlying23 HI.out HZ0.out HZ1.out HZ2.out rfl (by decide) _ _ _ rfl (HV5.out.row.alloc _) ⟨w5.heap.size, 0, none⟩ 1 1 (mC p (.slice a1 p.item.params.length q1) (.slice a2 p.items.length q2) (.slice a3 p.params.length q3)).toList rfl rfl (cells_new _ (mC p (.slice a1 p.item.params.length q1) (.slice a2 p.items.length q2) (.slice a3 p.params.length q3)) _) ?_ ?_ ?_ ?_ ?_)
        · intro u hu; simp [mC] at hu; rcases hu with rfl | rfl | rfl | rfl | rfl | rfl | rfl | rfl <;> rfl
        · unfold maxLen; omega
        · omega
        · simp; omega
        intro v' w7 hown7 hg7 _
        obtain ⟨r1, r2, r3, r4⟩ := HV5.out.app (q := p) _ HP5.out hown7 hg7
        obtain ⟨va7, vc7, rfl⟩ := slice8 hown7
        have HR : Hid (WiI w l p (.slice a1 p.item.params.length q1) (.slice a2 p.items.length q2) (.slice a3 p.params.length q3) (j + 1) (.slice va7 (j + 1) vc7) w7 (xs ++ (mC p (.slice a1 p.item.params.length q1) (.slice a2 p.items.length q2) (.slice a3 p.params.length q3)).toList)) := Lib.hid ⟨hown7, by rw [repMs_next hjl (by rw [HQ.out]), HRP.out]; exact r1, r2, r3, r4⟩
        clear hown7 hg7 r1 r2 r3 r4
        go_wp2_with fail
        go_roundg (l.length - (j + 1))
        case measure => omega
        case rel => exact ⟨j + 1, _, rfl, by omega, by go_num, by rw [HK.out, Bool.or_true], HR.out⟩
      | false =>
        have HRP : Hid (Sf.repM p q = q) := Lib.hid (by unfold Sf.repM; rw [if_neg (by rw [hb]; simp)])
        rw [hb] at HK
        clear hb c0 c1 c2 c3 c4 c5 c6 c7
        go_wp2_with (at_builtin; refine wpList_append_own _ rfl _ _ 23 rfl (w.heap.size + 1) 40 i0 (.agg zM) 8 128 Tryz.underlying23 HI.out HZ0.out HZ1.out HZ2.out rfl (by decide) _ _ _ rfl (HV5.out.row.alloc _) ⟨w5.heap.size, 0, none⟩ 1 1 (mC q (.slice b1 q.item.params.length r1) (.slice b2 q.items.length r2) (.slice b3 q.params.length r3)).toList rfl rfl (cells_new _ (mC q (.slice b1 q.item.params.length r1) (.slice b2 q.items.length r2) (.slice b3 q.params.length r3)) _) ?_ ?_ ?_ ?_ ?_)
        · intro u hu; simp [mC] at hu; rcases hu with rfl | rfl | rfl | rfl | rfl | rfl | rfl | rfl <;> rfl
        · unfold maxLen; omega
        · omega
        · simp; omega
        intro v' w7 hown7 hg7 _
        obtain ⟨s1, s2, s3, s4⟩ := HV5.out.app (q := q) _ HMV5.out hown7 hg7
        obtain ⟨va7, vc7, rfl⟩ := slice8 hown7
        have HR : Hid (WiI w l p (.slice a1 p.item.params.length q1) (.slice a2 p.items.length q2) (.slice a3 p.params.length q3) (j + 1) (.slice va7 (j + 1) vc7) w7 (xs ++ (mC q (.slice b1 q.item.params.length r1) (.slice b2 q.items.length r2) (.slice b3 q.params.length r3)).toList)) := Lib.hid ⟨hown7, by rw [repMs_next hjl (by rw [HQ.out]), HRP.out]; exact s1, s2, s3, s4⟩
        clear hown7 hg7 s1 s2 s3 s4
        go_wp2_with fail
        go_roundg (l.length - (j + 1))
        case measure => omega
        case rel => exact ⟨j + 1, _, rfl, by omega, by go_num, by rw [HK.out, Bool.or_false], HR.out⟩
    · have hjj : j = l.length := by omega
      subst hjj
      rw [List.take_length]
      have hpl : (repMs l p l.length).length = l.length := by unfold repMs; simp
      cases hb : hasM l p with
      | true =>
        have HP2 := Lib.hid (putM_yes hb)
        have HPL := Lib.hid hpl
        clear hb hpl
        go_wp2_with fail
        go_ret
        refine ⟨_, rfl, HV.out.below, ?_⟩
        rw [HP2.out]
        exact ⟨xs, by rw [HPL.out]; exact owns_base4 HV.out.row (by omega), HV.out.rowM⟩
      | false =>
        have HP2 := Lib.hid (putM_no hb)
        have HPL : Hid ((repMs l p l.length ++ [p]).length = l.length + 1) := Lib.hid (by rw [List.length_append, hpl]; rfl)
        obtain ⟨c0, c1, c2, c3, c4, c5, c6, c7⟩ := HV.out.box.all8.1
        have HP5 := Lib.hid (HP.out.below HV.out.below)
        clear hb hpl
        go_wp2_with (at_builtin; refine wpList_append_own _ rfl _ _ 23 rfl (w.heap.size + 1) 40 i0 (.agg zM) 8 128 Tryz.underlying23 HI.out HZ0.out HZ1.out HZ2.out rfl (by decide) _ _ _ rfl (HV.out.row.alloc _) ⟨wr.heap.size, 0, none⟩ 1 1 (mC p (.slice a1 p.item.params.length q1) (.slice a2 p.items.length q2) (.slice a3 p.params.length q3)).toList rfl rfl (cells_new _ (mC p (.slice a1 p.item.params.length q1) (.slice a2 p.items.length q2) (.slice a3 p.params.length q3)) _) ?_ ?_ ?_ ?_ ?_)
        · intro u hu; simp [mC] at hu; rcases hu with rfl | rfl | rfl | rfl | rfl | rfl | rfl | rfl <;> rfl
        · unfold maxLen; omega
        · omega
        · simp; omega
        intro v' w7 hown7 hg7 _
        obtain ⟨s1, s2, s3, s4⟩ := HV.out.app (q := p) _ HP5.out hown7 hg7
        obtain ⟨va7, vc7, rfl⟩ := slice8 hown7
        have HR := Lib.hid s1; have HB := Lib.hid s3; have HOW := Lib.hid hown7
        clear hown7 hg7 s1 s2 s3 s4
        go_wp2_with fail
        go_ret
        refine ⟨_, rfl, HB.out, ?_⟩
        rw [HP2.out]
        exact ⟨_, by rw [HPL.out]; exact owns_base4 HOW.out (by omega), HR.out⟩
end Go.Proofs.YtogjekjklknfeaaGreatDoor

/- The contracts of the document's read, List and Dict. (Written by mkr2.py.) -/

namespace Go.Proofs.YtogjekjklknfeaaGreatDoor
open Go.RowKit Go.Shelf Go.Maps Go.Deep

structure RdI (w : World) (d : Bool) (k : Nat) (wr : World) (acc : List Sf.Mem) (rest : List UInt8) (v : Value) (o : Option (List Sf.Mem)) : Prop where
  k : rest.length = k
  len : acc.length + rest.length ≤ 100000
  lv : LV wr w.heap.size v acc
  below : Below w.heap.size w wr
  eq : (if rest = [] then some acc else Sf.readF d (rest.length + 1) acc rest) = o
set_option maxHeartbeats 8000000 in
set_option maxRecDepth 100000 in
theorem rread_false (s : List UInt8) (w : World) (hs : s.length ≤ maxLen) : Calls Tryz.prog 25 #[.string (bA s), .bool false] w (RetC w (Sf.readL false s)) := by
  unfold maxLen at hs
  by_cases hbig : 4000 < s.length
  · have hbig' : (4000 : Int) < (s.length : Int) := by omega
    have hn : Sf.readL false s = none := by unfold Sf.readL; rw [if_pos hbig]
    rw [hn]
    clear hbig hn
    go_enter Tryz.func25, Tryz.ntmps25
    go_wp2_with fail
    go_ret2
    exact ⟨Below.refl _ _, .inr ⟨rfl, rfl⟩⟩
  · have hsm : (s.length : Int) ≤ 4000 := by omega
    obtain ⟨i0, hi, hz0, hz1, hz2⟩ := info_parts info_mem
    have HI := Lib.hid hi; have HZ0 := Lib.hid hz0; have HZ1 := Lib.hid hz1; have HZ2 := Lib.hid hz2
    rw [readL_small hbig]
    have htl := Sf.trim_len s
    have H1 := Lib.hid (rtrim_any s w (by omega))
    obtain ⟨tr, htr⟩ : ∃ tr, Sf.trimS s = tr := ⟨_, rfl⟩
    rw [htr] at H1 htl ⊢
    obtain ⟨o, ho⟩ : ∃ o, (if tr = [] then some [] else Sf.readF false (tr.length + 1) [] tr) = o := ⟨_, rfl⟩
    rw [ho]
    have HS : Hid (RdI w false tr.length w [] tr (.slice none 0 0) o) := Lib.hid ⟨rfl, by simp; omega, LV.nil _ _, Below.refl _ _, ho⟩
    clear hi hz0 hz1 hz2 ho htr hbig
    go_enter Tryz.func25, Tryz.ntmps25
    go_wp2_with fail
    refine H1.out.mono ?_
    rintro e w1 ⟨rfl, rfl⟩
    clear H1
    go_wp2_with fail
    go_loopg [0, 6] tr.length (fun k sv v wr => ∃ acc rest, sv = .string (bA rest) ∧ RdI w false k wr acc rest v o)
    case atStart => exact ⟨_, _, rfl, HS.out⟩
    case round =>
      obtain ⟨acc, rest, rfl, hI⟩ := hrel
      obtain ⟨va, vc, rfl⟩ := hI.lv.slice
      have hlen := hI.len
      have hkk := hI.k
      have HV := Lib.hid hI
      clear hI HS
      cases rest with
      | nil =>
        have hn : o = some acc := by rw [← HV.out.eq, if_pos rfl]
        subst hn
        go_wp2_with fail
        go_ret2
        exact ⟨HV.out.below, .inl ⟨acc, _, rfl, rfl, HV.out.lv⟩⟩
      | cons c t =>
        have HE : Hid (Sf.readF false ((c :: t).length + 1) acc (c :: t) = o) := Lib.hid (by rw [← HV.out.eq, if_neg (by simp)])
        have H2 := Lib.hid (reither_any false (c :: t) wr (by omega))
        go_wp2_with fail
        refine H2.out.mono ?_
        rintro e w3 ⟨hb3, ⟨m, r, v1, v2, v3, hm, rfl, hv⟩ | ⟨hm, m, v1, v2, v3, x, ⟨a1, n1, p1, rfl⟩, ⟨a2, n2, p2, rfl⟩, ⟨a3, n3, p3, rfl⟩, rfl⟩⟩
        · obtain ⟨a1, p1, rfl⟩ := hv.item.slice
          obtain ⟨a2, p2, rfl⟩ := hv.items.slice
          obtain ⟨a3, p3, rfl⟩ := hv.params.slice
          have HM := Lib.hid hm
          have hsh := Sf.eith_short hm
          have hal := Sf.add_len false acc m
          have hb5 := below_al hb3 (.cells (mC m (.slice a1 m.item.params.length p1) (.slice a2 m.items.length p2) (.slice a3 m.params.length p3)) 40)
          have HLV5 := Lib.hid (HV.out.lv.below hb5)
          have HMV5 := Lib.hid (hv.al (.cells (mC m (.slice a1 m.item.params.length p1) (.slice a2 m.items.length p2) (.slice a3 m.params.length p3)) 40))
          have HB5 := Lib.hid (onto HV.out.below hb5)
          have hs3 := hb3.size
          have hsw := HV.out.below.size
          clear hm hv hb3 hb5 H2
          obtain ⟨xs, hrow, hrm⟩ := HLV5.out
          have HROW := Lib.hid hrow; have HRM := Lib.hid hrm
          clear hrow hrm
          unfold mC at HROW HRM HB5 HMV5 ⊢
          go_wp2_with (at_builtin; refine wpList_append_own _ rfl _ _ 23 rfl w.heap.size 40 i0 (.agg zM) 8 128 Tryz.underlying23 HI.out HZ0.out HZ1.out HZ2.out rfl (by decide) _ _ _ rfl (HROW.out.alloc _) ⟨w3.heap.size + 1, 0, none⟩ 1 1 (mC m (.slice a1 m.item.params.length p1) (.slice a2 m.items.length p2) (.slice a3 m.params.length p3)).toList rfl rfl (cells_new2 w3 _ (mC m (.slice a1 m.item.params.length p1) (.slice a2 m.items.length p2) (.slice a3 m.params.length p3)) _) ?_ ?_ ?_ ?_ ?_)
          · intro u hu; simp [mC] at hu; rcases hu with rfl | rfl | rfl | rfl | rfl | rfl | rfl | rfl <;> rfl
          · unfold maxLen; omega
          · omega
          · simp; omega
          intro v' w6 hown6 hg6 _
          obtain ⟨a6, c6, rfl⟩ := slice8 hown6
          have hk : ∀ e, e ≠ 40 → KeptT e _ w6 := fun e he => (KeptT.alloc _ _ _).trans (.row he (HROW.out.alloc _) hg6)
          have HBW : Hid (Below w.heap.size w w6) := Lib.hid ((below_al HB5.out _).grown hg6 (by simp; omega) (fun k hk => (HROW.out.lt k hk).1))
          have HL : Hid (LV w6 w.heap.size (.slice a6 (acc.length + 1) c6) (Sf.addM false acc m)) := Lib.hid ⟨_, by show w6.ownsRow _ _ _ _ (acc ++ [m]).length _; rw [List.length_append]; exact hown6, (HRM.out.kept (hk _ (by decide)) (hk _ (by decide))).snoc (HMV5.out.kept (hk _ (by decide)) (hk _ (by decide)))⟩
          clear hown6 hg6 hk
          have H7 := Lib.hid (rtabs_any r w6)
          go_wp2_with fail
          refine H7.out.mono ?_
          rintro e w9 ⟨rfl, rfl⟩
          clear H7
          cases ht : Sf.tabs r with
          | nil =>
            have hn : o = some (Sf.addM false acc m) := by rw [← HE.out]; exact Sf.read_last HM.out ht
            subst hn
            clear ht
            go_wp2_with fail
            go_ret2
            exact ⟨HBW.out, .inl ⟨_, _, rfl, rfl, HL.out⟩⟩
          | cons c2 u =>
            by_cases hc : c2 = 44
            · subst hc
              have h1 : ((((bA (44 :: u))[0]'(Nat.succ_pos _)).toNat : Int) == 44) = true := rfl
              have h1' : ((((bA (44 :: u))[0]'(Nat.succ_pos _)).toNat : Int) != 44) = false := rfl
              have HX := Lib.hid (tail_bA 44 u)
              have H8 := Lib.hid (rtabs_any u w6)
              have hul := Sf.tabs_len u
              have hrl := Sf.tabs_len r
              rw [ht, List.length_cons] at hrl
              have HST := Lib.hid (Sf.read_step (d := false) (acc := acc) HM.out ht)
              clear ht
              go_wp2_with fail
              rw [HX.out]
              refine H8.out.mono ?_
              rintro e w9 ⟨rfl, rfl⟩
              clear H8
              cases hu : Sf.tabs u with
              | nil =>
                have hn : o = none := by rw [← HE.out, HST.out, hu]; exact Sf.read_nil
                subst hn
                clear hu
                go_wp2_with fail
                go_ret2
                exact ⟨HBW.out, .inr ⟨rfl, rfl⟩⟩
              | cons c3 u3 =>
                have HN : Hid (RdI w false (c3 :: u3).length w6 (Sf.addM false acc m) (c3 :: u3) (.slice a6 (acc.length + 1) c6) o) := Lib.hid ⟨rfl, by have := hu ▸ hul; omega, HL.out, HBW.out, by rw [if_neg (by simp), ← HE.out, HST.out, hu]⟩
                have hlu := hu ▸ hul
                clear hu
                go_wp2_with fail
                go_roundg (c3 :: u3).length
                case measure => omega
                case rel => exact ⟨_, c3 :: u3, rfl, HN.out⟩
            · have h1 : ((((bA (c2 :: u))[0]'(Nat.succ_pos _)).toNat : Int) == 44) = false := by rw [head_bA]; exact byte_off hc
              have h1' : ((((bA (c2 :: u))[0]'(Nat.succ_pos _)).toNat : Int) != 44) = true := by rw [bne, h1]; rfl
              have hn : o = none := by rw [← HE.out]; exact Sf.read_off HM.out ht hc
              subst hn
              clear ht hc
              go_wp2_with fail
              go_ret2
              exact ⟨HBW.out, .inr ⟨rfl, rfl⟩⟩
        · have hn : o = none := by rw [← HE.out]; exact Sf.read_no hm
          subst hn
          have HB3 := Lib.hid (onto HV.out.below hb3)
          clear hm hb3 H2
          unfold mC
          go_wp2_with fail
          go_ret2
          exact ⟨below_al HB3.out _, .inr ⟨rfl, rfl⟩⟩
set_option maxHeartbeats 8000000 in
set_option maxRecDepth 100000 in
theorem rread_true (s : List UInt8) (w : World) (hs : s.length ≤ maxLen) : Calls Tryz.prog 25 #[.string (bA s), .bool true] w (RetC w (Sf.readL true s)) := by
  unfold maxLen at hs
  by_cases hbig : 4000 < s.length
  · have hbig' : (4000 : Int) < (s.length : Int) := by omega
    have hn : Sf.readL true s = none := by unfold Sf.readL; rw [if_pos hbig]
    rw [hn]
    clear hbig hn
    go_enter Tryz.func25, Tryz.ntmps25
    go_wp2_with fail
    go_ret2
    exact ⟨Below.refl _ _, .inr ⟨rfl, rfl⟩⟩
  · have hsm : (s.length : Int) ≤ 4000 := by omega
    obtain ⟨i0, hi, hz0, hz1, hz2⟩ := info_parts info_mem
    have HI := Lib.hid hi; have HZ0 := Lib.hid hz0; have HZ1 := Lib.hid hz1; have HZ2 := Lib.hid hz2
    rw [readL_small hbig]
    have htl := Sf.trim_len s
    have H1 := Lib.hid (rtrim_any s w (by omega))
    obtain ⟨tr, htr⟩ : ∃ tr, Sf.trimS s = tr := ⟨_, rfl⟩
    rw [htr] at H1 htl ⊢
    obtain ⟨o, ho⟩ : ∃ o, (if tr = [] then some [] else Sf.readF true (tr.length + 1) [] tr) = o := ⟨_, rfl⟩
    rw [ho]
    have HS : Hid (RdI w true tr.length w [] tr (.slice none 0 0) o) := Lib.hid ⟨rfl, by simp; omega, LV.nil _ _, Below.refl _ _, ho⟩
    clear hi hz0 hz1 hz2 ho htr hbig
    go_enter Tryz.func25, Tryz.ntmps25
    go_wp2_with fail
    refine H1.out.mono ?_
    rintro e w1 ⟨rfl, rfl⟩
    clear H1
    go_wp2_with fail
    go_loopg [0, 6] tr.length (fun k sv v wr => ∃ acc rest, sv = .string (bA rest) ∧ RdI w true k wr acc rest v o)
    case atStart => exact ⟨_, _, rfl, HS.out⟩
    case round =>
      obtain ⟨acc, rest, rfl, hI⟩ := hrel
      obtain ⟨va, vc, rfl⟩ := hI.lv.slice
      have hlen := hI.len
      have hkk := hI.k
      have HV := Lib.hid hI
      clear hI HS
      cases rest with
      | nil =>
        have hn : o = some acc := by rw [← HV.out.eq, if_pos rfl]
        subst hn
        go_wp2_with fail
        go_ret2
        exact ⟨HV.out.below, .inl ⟨acc, _, rfl, rfl, HV.out.lv⟩⟩
      | cons c t =>
        have HE : Hid (Sf.readF true ((c :: t).length + 1) acc (c :: t) = o) := Lib.hid (by rw [← HV.out.eq, if_neg (by simp)])
        have H2 := Lib.hid (reither_any true (c :: t) wr (by omega))
        go_wp2_with fail
        refine H2.out.mono ?_
        rintro e w3 ⟨hb3, ⟨m, r, v1, v2, v3, hm, rfl, hv⟩ | ⟨hm, m, v1, v2, v3, x, ⟨a1, n1, p1, rfl⟩, ⟨a2, n2, p2, rfl⟩, ⟨a3, n3, p3, rfl⟩, rfl⟩⟩
        · obtain ⟨a1, p1, rfl⟩ := hv.item.slice
          obtain ⟨a2, p2, rfl⟩ := hv.items.slice
          obtain ⟨a3, p3, rfl⟩ := hv.params.slice
          have HM := Lib.hid hm
          have hsh := Sf.eith_short hm
          have hal := Sf.add_len true acc m
          have hb5 := below_al hb3 (.cells (mC m (.slice a1 m.item.params.length p1) (.slice a2 m.items.length p2) (.slice a3 m.params.length p3)) 40)
          have HLV5 := Lib.hid (HV.out.lv.below hb5)
          have HMV5 := Lib.hid (hv.al (.cells (mC m (.slice a1 m.item.params.length p1) (.slice a2 m.items.length p2) (.slice a3 m.params.length p3)) 40))
          have HB5 := Lib.hid (onto HV.out.below hb5)
          have hs3 := hb3.size
          have hsw := HV.out.below.size
          clear hm hv hb3 hb5 H2
          have H6 := Lib.hid (rwithM_any va vc _ acc m _ _ _ _ HLV5.out (by omega) HMV5.out)
          unfold mC at H6 ⊢
          go_wp2_with fail
          refine H6.out.mono ?_
          rintro e w6 ⟨v6, rfl, hb6, hv6⟩
          obtain ⟨a6, c6, rfl⟩ := hv6.slice
          have HBW : Hid (Below w.heap.size w w6) := Lib.hid (onto HB5.out hb6)
          have HL : Hid (LV w6 w.heap.size (.slice a6 (Sf.putM acc m).length c6) (Sf.addM true acc m)) := Lib.hid (hv6.base (by simp; omega))
          clear hb6 hv6 H6
          have H7 := Lib.hid (rtabs_any r w6)
          go_wp2_with fail
          refine H7.out.mono ?_
          rintro e w9 ⟨rfl, rfl⟩
          clear H7
          cases ht : Sf.tabs r with
          | nil =>
            have hn : o = some (Sf.addM true acc m) := by rw [← HE.out]; exact Sf.read_last HM.out ht
            subst hn
            clear ht
            go_wp2_with fail
            go_ret2
            exact ⟨HBW.out, .inl ⟨_, _, rfl, rfl, HL.out⟩⟩
          | cons c2 u =>
            by_cases hc : c2 = 44
            · subst hc
              have h1 : ((((bA (44 :: u))[0]'(Nat.succ_pos _)).toNat : Int) == 44) = true := rfl
              have h1' : ((((bA (44 :: u))[0]'(Nat.succ_pos _)).toNat : Int) != 44) = false := rfl
              have HX := Lib.hid (tail_bA 44 u)
              have H8 := Lib.hid (rtabs_any u w6)
              have hul := Sf.tabs_len u
              have hrl := Sf.tabs_len r
              rw [ht, List.length_cons] at hrl
              have HST := Lib.hid (Sf.read_step (d := true) (acc := acc) HM.out ht)
              clear ht
              go_wp2_with fail
              rw [HX.out]
              refine H8.out.mono ?_
              rintro e w9 ⟨rfl, rfl⟩
              clear H8
              cases hu : Sf.tabs u with
              | nil =>
                have hn : o = none := by rw [← HE.out, HST.out, hu]; exact Sf.read_nil
                subst hn
                clear hu
                go_wp2_with fail
                go_ret2
                exact ⟨HBW.out, .inr ⟨rfl, rfl⟩⟩
              | cons c3 u3 =>
                have HN : Hid (RdI w true (c3 :: u3).length w6 (Sf.addM true acc m) (c3 :: u3) (.slice a6 (Sf.putM acc m).length c6) o) := Lib.hid ⟨rfl, by have := hu ▸ hul; omega, HL.out, HBW.out, by rw [if_neg (by simp), ← HE.out, HST.out, hu]⟩
                have hlu := hu ▸ hul
                clear hu
                go_wp2_with fail
                go_roundg (c3 :: u3).length
                case measure => omega
                case rel => exact ⟨_, c3 :: u3, rfl, HN.out⟩
            · have h1 : ((((bA (c2 :: u))[0]'(Nat.succ_pos _)).toNat : Int) == 44) = false := by rw [head_bA]; exact byte_off hc
              have h1' : ((((bA (c2 :: u))[0]'(Nat.succ_pos _)).toNat : Int) != 44) = true := by rw [bne, h1]; rfl
              have hn : o = none := by rw [← HE.out]; exact Sf.read_off HM.out ht hc
              subst hn
              clear ht hc
              go_wp2_with fail
              go_ret2
              exact ⟨HBW.out, .inr ⟨rfl, rfl⟩⟩
        · have hn : o = none := by rw [← HE.out]; exact Sf.read_no hm
          subst hn
          have HB3 := Lib.hid (onto HV.out.below hb3)
          clear hm hb3 H2
          unfold mC
          go_wp2_with fail
          go_ret2
          exact ⟨below_al HB3.out _, .inr ⟨rfl, rfl⟩⟩
set_option maxHeartbeats 1000000 in
theorem rlist_any (s : List UInt8) (w : World) (hs : s.length ≤ maxLen) : Calls Tryz.prog 11 #[.string (bA s)] w (RetC w (Sf.readL false s)) := by
  have H := Lib.hid (rread_false s w hs)
  obtain ⟨o, ho⟩ : ∃ o, Sf.readL false s = o := ⟨_, rfl⟩
  rw [ho] at H ⊢
  clear ho
  go_enter Tryz.func11, Tryz.ntmps11
  go_wp2_with fail
  refine H.out.mono ?_
  rintro e w1 ⟨hb, ⟨l, v, rfl, rfl, hv⟩ | ⟨rfl, rfl⟩⟩
  · obtain ⟨va, vc, rfl⟩ := hv.slice
    have HB := Lib.hid hb; have HV := Lib.hid hv
    clear hb hv H
    go_wp2_with fail
    go_ret2
    exact ⟨HB.out, .inl ⟨l, _, rfl, rfl, HV.out⟩⟩
  · have HB := Lib.hid hb
    clear hb H
    go_wp2_with fail
    go_ret2
    exact ⟨HB.out, .inr ⟨rfl, rfl⟩⟩
set_option maxHeartbeats 1000000 in
theorem rdict_any (s : List UInt8) (w : World) (hs : s.length ≤ maxLen) : Calls Tryz.prog 13 #[.string (bA s)] w (RetC w (Sf.readL true s)) := by
  have H := Lib.hid (rread_true s w hs)
  obtain ⟨o, ho⟩ : ∃ o, Sf.readL true s = o := ⟨_, rfl⟩
  rw [ho] at H ⊢
  clear ho
  go_enter Tryz.func13, Tryz.ntmps13
  go_wp2_with fail
  refine H.out.mono ?_
  rintro e w1 ⟨hb, ⟨l, v, rfl, rfl, hv⟩ | ⟨rfl, rfl⟩⟩
  · obtain ⟨va, vc, rfl⟩ := hv.slice
    have HB := Lib.hid hb; have HV := Lib.hid hv
    clear hb hv H
    go_wp2_with fail
    go_ret2
    exact ⟨HB.out, .inl ⟨l, _, rfl, rfl, HV.out⟩⟩
  · have HB := Lib.hid hb
    clear hb H
    go_wp2_with fail
    go_ret2
    exact ⟨HB.out, .inr ⟨rfl, rfl⟩⟩
end Go.Proofs.YtogjekjklknfeaaGreatDoor
