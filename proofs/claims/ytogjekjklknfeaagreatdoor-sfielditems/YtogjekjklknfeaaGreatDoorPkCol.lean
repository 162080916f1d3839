/- Texts of one layer, joined. -/
import Derived.Shelf.Abstract
import Derived.Shelf.RegionOpen
import Derived.OwnWalkIn
import Derived.TacticsInMore
import Derived.LoopNIn
import Derived.LoopIn
import Derived.Sort.LoopGhostIn
import Derived.Sort.QuietIn
import Derived.Test.YtogjekjklknfeaaGreatDoorPkMem
import Derived.Test.YtogjekjklknfeaaGreatDoorPkSame
import Derived.Maps.OwnIn
import Derived.Test.YtogjekjklknfeaaGreatDoorPkSdm

/- The contracts of sfield's members and of the function that it hands back. -/



namespace Go.Proofs.YtogjekjklknfeaaGreatDoor
open Go.RowKit Go.Shelf Go.Maps Go.Deep
attribute [local go_sem] Oper.semAt_some

theorem members_any (s : ByteArray) (f : Nat) (w : World) : Calls Tryz.prog 42 #[.string s, .func (.func f) #[] #[]] w fun e w' => e = .returned (.func (.func 71) #[] #[.pointer (some ⟨w.heap.size, 0, none⟩), .pointer (some ⟨w.heap.size + 1, 0, none⟩)]) ∧ w' = (w.alloc (.cells #[.string s] 9)).alloc (.cells #[.func (.func f) #[] #[]] 78) := by
  go_enter Tryz.func42, Tryz.ntmps42
  go_wp2
  go_ret
  exact ⟨rfl, rfl⟩

/-- What the function wants kept from round to round: the block of its reader. -/
def KpB (b : Nat) (W W' : World) : Prop := W'.heap[b]? = W.heap[b]?
theorem KpB.trans {b : Nat} {A B C : World} (h : KpB b A B) (k : KpB b B C) : KpB b A C := Eq.trans k h
theorem Grow.kpB {b B : Nat} {W W' : World} (h : Grow B W W') (hb : b < B) (hs : B ≤ W.heap.size) : KpB b W W' := (h.below (Nat.le_refl _) hs).block b hb
/-- How far the function has come: the members, what is left, and whether one more must follow. -/
structure GivI (d : Bool) (o : Option (List Sf.Mem)) (k : Nat) (acc : List Sf.Mem) (rest : List UInt8) (more : Bool) : Prop where
  meas : k = if more then rest.length + 1 else 0
  len : acc.length + rest.length ≤ 1000000
  yes : more = true → Sf.readF d (rest.length + 1) acc rest = o
  no : more = false → o = some acc

theorem boxed_below {w w' : World} {b : Nat} {t : TypeId} {v : Value} (h : Boxed w b t v) (hb : Below w.heap.size w w') : Boxed w' b t v := (hb.block b (Array.getElem?_eq_some_iff.1 h).1).trans h
set_option maxRecDepth 100000 in
set_option maxHeartbeats 4000000 in
theorem members1_gives (n : Nat) (hn : 1 ≤ n) (d : Bool) (fr : Nat) (eg : ∀ args w, (callFunc fr args).run Tryz.prog w = .ok (.enter fr args) w) (hread : ∀ t W, t.length ≤ 1000000 → Calls Tryz.prog fr #[.string (bA t)] W (RetM (.int .i64 0) (.int .i64 50) W (Sf.eith d t)))
    (b1 b2 : Nat) (s : List UInt8) (hs : s.length ≤ 1000000) (w : World) (h1 : Boxed w b1 9 (.string (bA s))) (h2 : Boxed w b2 78 (.func (.func fr) #[] #[])) :
    GivesM Fence.wide n Tryz.prog 71 #[.pointer (some ⟨b1, 0, none⟩), .pointer (some ⟨b2, 0, none⟩)] (KpB b2) d (if s = [] then some [] else Sf.readF d (s.length + 1) [] s) w := fun l J Jx W hW hJ hJx hY hF h0 => by
  have e1 : W.heap[b1]? = _ := (hW.block b1 (Array.getElem?_eq_some_iff.1 h1).1).trans h1
  have c1 : W.cell? ⟨b1, 0, none⟩ = some (.string (bA s)) := Boxed.cell e1
  have e2 : Boxed W b2 78 (.func (.func fr) #[] #[]) := (hW.block b2 (Array.getElem?_eq_some_iff.1 h2).1).trans h2
  have HBX := Lib.hid e2
  have HY := Lib.hid hY; have HF := Lib.hid hF; have HJ := Lib.hid hJ; have HR := Lib.hid hread
  obtain ⟨o, ho⟩ : ∃ o, (if s = [] then some [] else Sf.readF d (s.length + 1) [] s) = o := ⟨_, rfl⟩
  rw [ho]
  have HO := Lib.hid ho
  clear ho e1 e2 h1 h2 hY hF hJ hread hJx
  refine callsIn_of_wp Tryz.func71 rfl trivial ?_ rfl
  simp only [Tryz.ntmps71, List.size_toArray, List.length_cons, List.length_nil, Nat.reduceAdd, Nat.reduceSub, Array.replicate_succ, Array.replicate_zero, List.push_toArray, List.append_toArray, List.nil_append, List.cons_append]
  gi_wp2_with fail
  gi_quiet (fail)
  have HB0 := Lib.hid (below_drew W nq)
  have hJ0 := HJ.out [] W _ h0 HB0.out
  obtain ⟨w1, hw1⟩ : ∃ w1, W.drewN nq = w1 := ⟨_, rfl⟩
  have HBX1 : Hid (Boxed w1 b2 78 (.func (.func fr) #[] #[])) := by rw [Hid, ← hw1]; exact HBX.out
  rw [hw1] at hJ0 ⊢
  have HST : Hid (GivI d o (if s ≠ [] then s.length + 1 else 0) [] s (decide (s ≠ []))) := by
    by_cases hs0 : s = []
    · exact ⟨by simp [hs0], by simpa using hs, fun h => by simp [hs0] at h, fun _ => by rw [← HO.out, if_pos hs0]⟩
    · exact ⟨by simp [hs0], by simpa using hs, fun _ => by rw [← HO.out, if_neg hs0], fun h => by simp [hs0] at h⟩
  have hmore : (!s.isEmpty) = decide (s ≠ []) := by cases s <;> rfl
  clear HB0 hw1 HBX h0 c1 HO
  gi_wp2_with fail
  gi_loopg [4, 5] (if s ≠ [] then s.length + 1 else 0) (fun k rv mv wr => ∃ acc rest more, rv = .string (bA rest) ∧ mv = .bool more ∧ GivI d o k acc rest more ∧ J acc wr ∧ Boxed wr b2 78 (.func (.func fr) #[] #[]))
  case atStart => exact ⟨_, _, _, rfl, by simp [hmore], HST.out, hJ0, HBX1.out⟩
  case round =>
    obtain ⟨acc, rest, more, rfl, rfl, hG, hJr, hbx⟩ := hrel
    have HG := Lib.hid hG; have HJR := Lib.hid hJr; have HBX := Lib.hid hbx
    have hlen := hG.len
    clear hG hJr HST HBX1 hJ0 hmore
    cases more with
    | false =>
      have hn := HG.out.no rfl
      clear hbx
      gi_wp2_with fail
      go_end0
      exact ⟨⟨_, rfl⟩, .inl ⟨acc, hn, HJR.out⟩⟩
    | true =>
      have c2 : wr.cell? ⟨b2, 0, none⟩ = some (.func (.func fr) #[] #[]) := Boxed.cell hbx
      have H1 := Lib.hid (HR.out rest wr (by omega))
      have HE := Lib.hid (HG.out.yes rfl)
      have hk : gk = rest.length + 1 := HG.out.meas
      clear hbx
      gi_wp2_with fail
      refine ⟨trivial, (callsIn_wide.2 H1.out).mono ?_⟩
      rintro e w1 ⟨hb1, ⟨m, r, v1, v2, v3, hm, rfl, hv⟩ | ⟨hm, m, v1, v2, v3, x, ⟨a1, n1, p1, rfl⟩, ⟨a2, n2, p2, rfl⟩, ⟨a3, n3, p3, rfl⟩, rfl⟩⟩
      · obtain ⟨a1, p1, rfl⟩ := hv.item.slice
        obtain ⟨a2, p2, rfl⟩ := hv.items.slice
        obtain ⟨a3, p3, rfl⟩ := hv.params.slice
        have HM := Lib.hid hm
        have hsh := Sf.eith_short hm
        have hal := Sf.add_len d acc m
        obtain ⟨w5, hw5⟩ : ∃ w5, w1.alloc (.cells (mC m (.slice a1 m.item.params.length p1) (.slice a2 m.items.length p2) (.slice a3 m.params.length p3)) 40) = w5 := ⟨_, rfl⟩
        have hb5 : Below wr.heap.size wr w5 := by rw [← hw5]; exact below_al hb1 _
        have HCB5 : Hid (CBox w5 w1.heap.size 40 (mC m (.slice a1 m.item.params.length p1) (.slice a2 m.items.length p2) (.slice a3 m.params.length p3))) := by rw [Hid, ← hw5]; exact CBox.new _ _ _
        have HMV5 : Hid (MV w5 m (.slice a1 m.item.params.length p1) (.slice a2 m.items.length p2) (.slice a3 m.params.length p3)) := by rw [Hid, ← hw5]; exact hv.al _
        have HJ5 := Lib.hid (HJ.out _ _ _ HJR.out hb5)
        have HBX5 := Lib.hid (boxed_below HBX.out hb5)
        have HW5 := Lib.hid hw5
        clear hm hv hb1 hb5 hw5 H1 c2
        cases ht : Sf.tabs r with
        | nil =>
          · have H2 := Lib.hid (cutComma_end ht w5)
            have HN : Hid (GivI d o 0 (Sf.addM d acc m) [] false) := Lib.hid ⟨rfl, by simp only [List.length_nil]; omega, fun h => by simp at h, fun _ => by rw [← HE.out]; exact Sf.read_last HM.out ht⟩
            clear ht
            unfold mC at HW5 ⊢
            gi_wp2_with fail
            rw [HW5.out]
            refine ⟨trivial, (callsIn_wide.2 H2.out).mono ?_⟩
            rintro e w6 ⟨rfl, hb6⟩
            obtain ⟨fn, tmps, assign, body, hy, hR⟩ := HY.out acc m r rest _ _ _ w6 (HJ.out _ _ _ HJ5.out hb6) HM.out hlen (HMV5.out.below hb6)
            unfold mC at hy
            have HBX6 := Lib.hid (boxed_below HBX5.out hb6)
            obtain ⟨c0, c1, c2, c3, c4, c5, c6, c7⟩ := (HCB5.out.keep hb6).all8.1
            clear hb6 H2
            gi_wp2_with fail
            refine hR.mono ?_
            rintro e w7 ⟨rfl, hJ7, hk7⟩
            have HBX7 : Hid (Boxed w7 b2 78 (.func (.func fr) #[] #[])) := Lib.hid (Eq.trans hk7 HBX6.out)
            clear hy hR c0 c1 c2 c3 c4 c5 c6 c7 hk7
            gi_wp2_with fail
            gi_roundg 0
            case measure => omega
            case rel => exact ⟨Sf.addM d acc m, [], false, rfl, rfl, HN.out, hJ7, HBX7.out⟩
        | cons c u =>
          by_cases hc : c = 44
          · subst hc
            have H2 := Lib.hid (cutComma_more ht w5)
            have hul := Sf.tabs_len u
            have hrl := Sf.tabs_len r
            rw [ht, List.length_cons] at hrl
            have HN : Hid (GivI d o ((Sf.tabs u).length + 1) (Sf.addM d acc m) (Sf.tabs u) true) := Lib.hid ⟨rfl, by omega, fun _ => by rw [← HE.out]; exact (Sf.read_step HM.out ht).symm, fun h => by simp at h⟩
            clear ht
            unfold mC at HW5 ⊢
            gi_wp2_with fail
            rw [HW5.out]
            refine ⟨trivial, (callsIn_wide.2 H2.out).mono ?_⟩
            rintro e w6 ⟨rfl, hb6⟩
            obtain ⟨fn, tmps, assign, body, hy, hR⟩ := HY.out acc m r rest _ _ _ w6 (HJ.out _ _ _ HJ5.out hb6) HM.out hlen (HMV5.out.below hb6)
            unfold mC at hy
            have HBX6 := Lib.hid (boxed_below HBX5.out hb6)
            obtain ⟨c0, c1, c2, c3, c4, c5, c6, c7⟩ := (HCB5.out.keep hb6).all8.1
            clear hb6 H2
            gi_wp2_with fail
            refine hR.mono ?_
            rintro e w7 ⟨rfl, hJ7, hk7⟩
            have HBX7 : Hid (Boxed w7 b2 78 (.func (.func fr) #[] #[])) := Lib.hid (Eq.trans hk7 HBX6.out)
            clear hy hR c0 c1 c2 c3 c4 c5 c6 c7 hk7
            gi_wp2_with fail
            gi_roundg ((Sf.tabs u).length + 1)
            case measure => omega
            case rel => exact ⟨Sf.addM d acc m, Sf.tabs u, true, rfl, rfl, HN.out, hJ7, HBX7.out⟩
          · have H2 := Lib.hid (cutComma_off ht hc w5)
            have hn : o = none := by rw [← HE.out]; exact Sf.read_off HM.out ht hc
            subst hn
            clear ht hc
            unfold mC at HW5 ⊢
            gi_wp2_with fail
            rw [HW5.out]
            refine ⟨trivial, (callsIn_wide.2 H2.out).mono ?_⟩
            rintro e w6 ⟨rfl, hb6⟩
            obtain ⟨fn, tmps, assign, body, hy, hR⟩ := HF.out acc w6 (HJ.out _ _ _ HJ5.out hb6)
            unfold zM at hy
            clear hb6 H2
            gi_wp2_with fail
            refine hR.mono ?_
            rintro e w7 ⟨rfl, hJx⟩
            gi_wp2_with fail
            refine bodyPost_ret (results_none rfl _ _ _) rfl ?_
            exact ⟨⟨_, rfl⟩, hJx⟩
      · have hn : o = none := by rw [← HE.out]; exact Sf.read_no hm
        subst hn
        have hb5 : Below wr.heap.size wr (w1.alloc (.cells (mC m (.slice a1 n1 p1) (.slice a2 n2 p2) (.slice a3 n3 p3)) 40)) := below_al hb1 _
        obtain ⟨fn, tmps, assign, body, hy, hR⟩ := HF.out acc _ (HJ.out _ _ _ HJR.out hb5)
        unfold zM at hy
        unfold mC at hy hR ⊢
        clear hm hb1 hb5 H1 c2
        gi_wp2_with fail
        refine hR.mono ?_
        rintro e w7 ⟨rfl, hJx⟩
        gi_wp2_with fail
        refine bodyPost_ret (results_none rfl _ _ _) rfl ?_
        exact ⟨⟨_, rfl⟩, hJx⟩
end Go.Proofs.YtogjekjklknfeaaGreatDoor

/- The contracts of sfield's collect, List and Dict. -/

namespace Go.Proofs.YtogjekjklknfeaaGreatDoor
open Go.RowKit Go.Shelf Go.Maps Go.Deep
attribute [local go_sem] Oper.semAt_some

/-- What the readers of whole fields answer. -/
def RetC (w : World) (o : Option (List Sf.Mem)) (e : Ending) (w' : World) : Prop :=
  Below w.heap.size w w' ∧ ((∃ l v, o = some l ∧ e = .returned (.tuple #[v, .int .i64 0]) ∧ LV w' w.heap.size v l) ∨ (o = none ∧ e = .returned (.tuple #[.slice none 0 0, .int .i64 50])))
theorem readL_small {d : Bool} {s : List UInt8} (h : ¬ 4000 < s.length) : Sf.readL d s = if Sf.trimS s = [] then some [] else Sf.readF d ((Sf.trimS s).length + 1) [] (Sf.trimS s) := by
  unfold Sf.readL; rw [if_neg h]
def set8L (xs : List Value) (k : Nat) (a b c d e f g h : Value) : List Value := (((((((xs.set k a).set (k + 1) b).set (k + 2) c).set (k + 3) d).set (k + 4) e).set (k + 5) f).set (k + 6) g).set (k + 7) h
theorem RowM.set {w : World} {m : Sf.Mem} {v1 v2 v3 : Value} (hm : MV w m v1 v2 v3) : ∀ {l : List Sf.Mem} {xs : List Value}, RowM w l xs → ∀ i, i < l.length → RowM w (l.set i m) (set8L xs (i * 8) (.string (bA m.key)) (.bool m.inner) (.int .i64 m.item.kind) (.int .i64 m.item.n) (.string (bA m.item.text)) v1 v2 v3)
  | [], _, _, i, h => by simp at h
  | q :: l, _, ⟨u1, u2, u3, ys, e, hq, hr⟩, 0, _ => by
    subst e
    exact ⟨v1, v2, v3, ys, rfl, hm, hr⟩
  | q :: l, _, ⟨u1, u2, u3, ys, e, hq, hr⟩, i + 1, h => by
    have ih := RowM.set hm hr i (by simpa using h)
    subst e
    refine ⟨u1, u2, u3, _, ?_, hq, ih⟩
    rw [show (i + 1) * 8 = i * 8 + 8 by omega]
    rfl
/-- The keys that the map of places tells. -/
def pk (d : Bool) (acc : List Sf.Mem) : List (List UInt8) := if d then Sf.keysM acc else []
structure ColI (w : World) (d : Bool) (base : Nat) (acc : List Sf.Mem) (W : World) (v : Value) (xs : List Value) (D : DataW Unit) : Prop where
  lbox : Boxed W w.heap.size 23 v
  ebox : Boxed W (w.heap.size + 1) 24 (.int .i64 0)
  pbox : Boxed W (w.heap.size + 1 + 1 + 1) 79 (.map (some (w.heap.size + 1 + 1)))
  map : W.ownsMap Tryz.prog 9 (plainElem Tryz.prog 3) (w.heap.size + 1 + 1) (pk d acc).length D
  places : Places D (pk d acc)
  row : W.ownsRow base 40 8 v acc.length xs
  rowM : RowM W acc xs
  nodup : d = true → (Sf.keysM acc).Nodup
  below : Below w.heap.size w W
def ColS (w : World) (d : Bool) (base : Nat) (acc : List Sf.Mem) (W : World) : Prop := ∃ v xs D, ColI w d base acc W v xs D
theorem ColI.grow {w : World} {d : Bool} {base : Nat} {acc : List Sf.Mem} {A A' : World} {v : Value} {xs : List Value} {D : DataW Unit} (h : ColI w d base acc A v xs D) {B : Nat} (hg : Grow B A A') (hB : w.heap.size + 4 ≤ B) : ColI w d base acc A' v xs D := by
  obtain ⟨es, clock, h1, h2⟩ := h.map
  exact ⟨hg.boxed h.lbox, hg.boxed h.ebox, hg.boxed h.pbox, ⟨es, clock, hg.same _ _ h1 (.inl (by omega)), h2⟩, h.places, owns_keptT h.row (hg.keptT _), h.rowM.kept (hg.keptT _) (hg.keptT _), h.nodup, h.below.trans (hg.below (by omega) h.below.size)⟩
/-- What stands when a fault has come. -/
structure ColX (w : World) (W : World) : Prop where
  lbox : Boxed W w.heap.size 23 (.slice none 0 0)
  ebox : Boxed W (w.heap.size + 1) 24 (.int .i64 50)
  below : Below w.heap.size w W
theorem ColX.grow {w A A' : World} (h : ColX w A) {B : Nat} (hg : Grow B A A') (hB : w.heap.size ≤ B) : ColX w A' := ⟨hg.boxed h.lbox, hg.boxed h.ebox, h.below.trans (hg.below hB h.below.size)⟩
/-- The activation of a round, and the block of its member. -/
def ColA (s tr : List UInt8) (fr : Nat) (w : World) (b1 : Nat) (x : MX) (a : Act) (W : World) : Prop := ∃ Bm, b1 + 2 ≤ Bm ∧ CBox W Bm 40 x.cs ∧ a = { tmps := #[.string (bA s), .func (.func fr) #[] #[], undef, undef, .slice none 0 0, .int .i64 0, .pointer (some ⟨w.heap.size, 0, none⟩), .pointer (some ⟨w.heap.size + 1, 0, none⟩), .pointer (some ⟨w.heap.size + 1 + 1 + 1, 0, none⟩), .pointer (some ⟨Bm, 0, none⟩), .int .i64 x.e, undef, undef, .string (bA s), .int .i64 s.length, .bool (decide ((4000 : Int) < (s.length : Int))), .map (some (w.heap.size + 1 + 1)), .string (bA s), .string (bA tr), .func (.func fr) #[] #[], .func (.func 71) #[] #[.pointer (some ⟨b1, 0, none⟩), .pointer (some ⟨b1 + 1, 0, none⟩)], .agg x.cs, .int .i64 x.e, undef, undef, undef, undef, undef, undef, undef, undef, undef, undef, undef, undef, undef, undef, undef, undef, undef, undef, undef, undef, undef, undef, undef, undef, undef, undef, undef, undef, undef, undef, undef, undef], defers := [] }
theorem key_lenM {d : Bool} {t r : List UInt8} {m : Sf.Mem} (h : Sf.eith d t = some (m, r)) : m.key.length ≤ t.length := by
  cases d with
  | false => rw [Sf.memb_key h]; simp
  | true =>
    have h' : Sf.keyd t = some (m, r) := h
    unfold Sf.keyd at h'
    cases hk : Sf.keyOf t with
    | none => rw [hk] at h'; cases h'
    | some y =>
      obtain ⟨k, b⟩ := y
      have hl : k.length ≤ t.length := by rw [(Sf.keyOf_ways hk).1]; simp
      rw [hk] at h'
      simp only at h'
      split at h'
      · cases hm : Sf.memb (b.drop 1) with
        | none => rw [hm] at h'; cases h'
        | some y => rw [hm] at h'; cases h'; exact hl
      · cases hm : Sf.pars b with
        | none => rw [hm] at h'; cases h'
        | some y => rw [hm] at h'; cases h'; exact hl
theorem keeps_row {W W' : World} {base n size : Nat} {e : TypeId} {v : Value} {xs : List Value} (h : W.ownsRow base e size v n xs) (hg : W.grownBy W' v.ownBlock) (B : Nat) : KeepsFrom B W W' :=
  (KeepsOthers.of_grownBy hg (fun j o hj ho => by
    obtain ⟨_, ⟨rfl, _⟩ | ⟨g, cap, cur, rfl, _, hgg, _⟩⟩ := h
    · cases hj
    · cases hj; rw [hgg] at ho; cases ho; rfl)).from B
/-- Eight cells of a row's block. -/
def setg (W : World) (g k : Nat) (a b c d e f h i : Value) : World := (((((((W.setCell ⟨g, k, none⟩ a).setCell ⟨g, k + 1, none⟩ b).setCell ⟨g, k + 2, none⟩ c).setCell ⟨g, k + 3, none⟩ d).setCell ⟨g, k + 4, none⟩ e).setCell ⟨g, k + 5, none⟩ f).setCell ⟨g, k + 6, none⟩ h).setCell ⟨g, k + 7, none⟩ i
theorem keeps_setg (W : World) (g k : Nat) (a b c d e f h i : Value) (B : Nat) : KeepsFrom B W (setg W g k a b c d e f h i) :=
  ((((((((KeepsOthers.setCell W ⟨g, k, none⟩ a).trans (.setCell _ ⟨g, k + 1, none⟩ b)).trans (.setCell _ ⟨g, k + 2, none⟩ c)).trans (.setCell _ ⟨g, k + 3, none⟩ d)).trans (.setCell _ ⟨g, k + 4, none⟩ e)).trans (.setCell _ ⟨g, k + 5, none⟩ f)).trans (.setCell _ ⟨g, k + 6, none⟩ h)).trans (.setCell _ ⟨g, k + 7, none⟩ i)).from B
theorem own_setg {w : World} {base : Nat} {t : TypeId} {size g cap n k : Nat} {xs : List Value} (h : w.ownsRow base t size (.slice (some ⟨g, 0, none⟩) n cap) n xs) (a b c d e f u i : Value) :
    (setg w g k a b c d e f u i).ownsRow base t size (.slice (some ⟨g, 0, none⟩) n cap) n (set8L xs k a b c d e f u i) ∧ w.grownBy (setg w g k a b c d e f u i) (some g) := by
  obtain ⟨r0, g0⟩ := own_set h (i := k) a
  obtain ⟨r1, g1⟩ := own_set r0 (i := k + 1) b
  obtain ⟨r2, g2⟩ := own_set r1 (i := k + 2) c
  obtain ⟨r3, g3⟩ := own_set r2 (i := k + 3) d
  obtain ⟨r4, g4⟩ := own_set r3 (i := k + 4) e
  obtain ⟨r5, g5⟩ := own_set r4 (i := k + 5) f
  obtain ⟨r6, g6⟩ := own_set r5 (i := k + 6) u
  obtain ⟨r7, g7⟩ := own_set r6 (i := k + 7) i
  exact ⟨r7, g_trans g0 (g_trans g1 (g_trans g2 (g_trans g3 (g_trans g4 (g_trans g5 (g_trans g6 g7))))))⟩
theorem keysM_set {l : List Sf.Mem} {m : Sf.Mem} {i : Nat} (hi : i < l.length) (hk : l[i].key = m.key) : Sf.keysM (l.set i m) = Sf.keysM l := by
  unfold Sf.keysM
  apply List.ext_getElem (by simp)
  intro j h1 h2
  simp only [List.getElem_map, List.getElem_set]
  split
  · rename_i e; subst e; exact hk.symm
  · rfl
/-- A key that has come: its member is set. -/
theorem ColI.set {w W : World} {base g vc i : Nat} {acc : List Sf.Mem} {m : Sf.Mem} {v1 v2 v3 : Value} {xs : List Value} {D : DataW Unit} (h : ColI w true base acc W (.slice (some ⟨g, 0, none⟩) acc.length vc) xs D) (hm : MV W m v1 v2 v3) (hi : i < acc.length) (hk : acc[i].key = m.key) (hb : w.heap.size + 4 ≤ base) :
    ColS w true base (Sf.addM true acc m) (setg W g (i * 8) (.string (bA m.key)) (.bool m.inner) (.int .i64 m.item.kind) (.int .i64 m.item.n) (.string (bA m.item.text)) v1 v2 v3) := by
  obtain ⟨r, hg⟩ := own_setg h.row (k := i * 8) (.string (bA m.key)) (.bool m.inner) (.int .i64 m.item.kind) (.int .i64 m.item.n) (.string (bA m.item.text)) v1 v2 v3
  have hgb : base ≤ g := (h.row.lt g rfl).1
  have hadd : Sf.addM true acc m = acc.set i m := by
    show Sf.putM acc m = _
    rw [Sf.putM_old (by rw [← hk]; exact List.mem_map_of_mem (List.getElem_mem hi)), Sf.repM_set (h.nodup rfl) hi hk]
  have hkeys := keysM_set hi hk
  have hkp : KeptT 53 W _ := .row (by decide) h.row hg
  have hki : KeptT 35 W _ := .row (by decide) h.row hg
  rw [hadd]
  refine ⟨_, _, D, h.lbox.kept hg (by simp; omega), h.ebox.kept hg (by simp; omega), h.pbox.kept hg (by simp; omega), ?_, ?_, ?_, (h.rowM.kept hkp hki).set (hm.kept hkp hki) i hi, ?_, h.below.grown hg h.below.size (fun k e => by cases e; omega)⟩
  · have := h.map.kept hg (by simp; omega)
    unfold pk at this ⊢
    rwa [if_pos rfl, hkeys]
  · have := h.places
    unfold pk at this ⊢
    rwa [if_pos rfl, hkeys]
  · rw [List.length_set]; exact r
  · intro _; rw [hkeys]; exact h.nodup rfl
/-- One more member. -/
theorem ColI.app {w W W6 w7 : World} {d : Bool} {base : Nat} {acc : List Sf.Mem} {m : Sf.Mem} {v v7 v1 v2 v3 : Value} {xs : List Value} {D D6 : DataW Unit} {o : Obj} (h : ColI w d base acc W v xs D) (hm : MV W m v1 v2 v3) (hg6 : W.grownBy W6 (some (w.heap.size + 1 + 1))) (hmap : W6.ownsMap Tryz.prog 9 (plainElem Tryz.prog 3) (w.heap.size + 1 + 1) (pk d (acc ++ [m])).length D6) (hpl : Places D6 (pk d (acc ++ [m])))
    (hb : w.heap.size + 4 ≤ base) (hbs : base ≤ W.heap.size) (hadd : Sf.addM d acc m = acc ++ [m]) (hnd : d = true → m.key ∉ Sf.keysM acc) (hown : w7.ownsRow base 40 8 v7 (acc.length + 1) (xs ++ (mC m v1 v2 v3).toList)) (hg : (W6.alloc o).grownBy w7 v.ownBlock) :
    ColS w d base (Sf.addM d acc m) (w7.setCell ⟨w.heap.size, 0, none⟩ v7) := by
  have hnm : ∀ e, KeptT e W W6 := fun e g cur hc => (hg6.block g (Array.getElem?_eq_some_iff.1 hc).1 (by
    intro e'; cases e'
    obtain ⟨es, clock, h1, _⟩ := h.map
    rw [h1] at hc; cases hc)).trans hc
  have hrow6 : W6.ownsRow base 40 8 v acc.length xs := owns_keptT h.row (hnm _)
  have hne : ∀ b, b < base → some b ≠ v.ownBlock := fun b hb e => by have := (h.row.lt b e.symm).1; omega
  have hs7 := hg.size
  have hs6 := hg6.size
  simp at hs7
  have hkp : KeptT 53 W w7 := ((hnm _).trans (.alloc _ _ o)).trans (.row (by decide) (hrow6.alloc o) hg)
  have hki : KeptT 35 W w7 := ((hnm _).trans (.alloc _ _ o)).trans (.row (by decide) (hrow6.alloc o) hg)
  have bx : ∀ b t u, Boxed W b t u → b < base → b ≠ w.heap.size + 1 + 1 → Boxed w7 b t u := fun b t u hx hlt hn => ((hx.kept hg6 (by simpa using hn)).alloc o).kept hg (hne b hlt)
  have hl := bx _ _ _ h.lbox (by omega) (by omega)
  have hg8 : w7.grownBy (w7.setCell ⟨w.heap.size, 0, none⟩ v7) (some w.heap.size) := grownBy_setCell' _ _ _
  have hk8 : ∀ e, e ≠ 23 → KeptT e w7 (w7.setCell ⟨w.heap.size, 0, none⟩ v7) := fun e he => .box he (e' := 23) (B := w.heap.size) (cs := #[v]) hl hg8
  rw [hadd]
  refine ⟨v7, xs ++ (mC m v1 v2 v3).toList, D6, hl.set v7, (bx _ _ _ h.ebox (by omega) (by omega)).other (by omega) _, (bx _ _ _ h.pbox (by omega) (by omega)).other (by omega) _, ((hmap.alloc o).kept hg (hne _ (by omega))).kept hg8 (by simp; omega), hpl, ?_, ?_, ?_, ?_⟩
  · rw [List.length_append]
    exact owns_keptT hown (hk8 _ (by decide))
  · exact ((h.rowM.kept hkp hki).snoc (hm.kept hkp hki)).kept (hk8 _ (by decide)) (hk8 _ (by decide))
  · intro hd
    unfold Sf.keysM
    rw [List.map_append, List.map_singleton, List.nodup_append]
    exact ⟨h.nodup hd, by simp, by intro a ha b hb; simp at hb; subst hb; intro e; subst e; exact hnd hd ha⟩
  · refine (((h.below.grown hg6 h.below.size (fun k e => by cases e; omega)).alloc ?_ o).grown hg ?_ (fun k e => by have := (h.row.lt k e).1; omega)).setCell (p := ⟨w.heap.size, 0, none⟩) (Nat.le_refl _) _
    · have := h.below.size; omega
    · have := h.below.size; simp; omega
theorem slice8 {w : World} {base : Nat} {e : TypeId} {size : Nat} {v : Value} {n : Nat} {xs : List Value} (h : w.ownsRow base e size v n xs) : ∃ a cap, v = .slice a n cap := by
  obtain ⟨_, ⟨h1, h2⟩ | ⟨g, cap, _, hv, _⟩⟩ := h
  · exact ⟨none, 0, by rw [h1, h2]⟩
  · exact ⟨_, _, hv⟩
theorem own_neE8 {w : World} {base : Nat} {e : TypeId} {size : Nat} {v : Value} {n b : Nat} {xs : List Value} (h : w.ownsRow base e size v n xs) (hb : b < base) : some b ≠ v.ownBlock := by
  intro e; have := (h.lt b e.symm).1; omega
theorem boxed_set {W : World} {b : Nat} {t : TypeId} {v : Value} (h : Boxed W b t v) (u : Value) : Boxed (W.setCell ⟨b, 0, none⟩ u) b t u := h.set u
set_option maxRecDepth 100000 in
set_option maxHeartbeats 4000000 in
theorem collect_in (d : Bool) (fr : Nat) (eg : ∀ args w, (callFunc fr args).run Tryz.prog w = .ok (.enter fr args) w) (hread : ∀ t W, t.length ≤ 1000000 → Calls Tryz.prog fr #[.string (bA t)] W (RetM (.int .i64 0) (.int .i64 50) W (Sf.eith d t)))
    (s : List UInt8) (w : World) (hs : s.length ≤ maxLen) : CallsIn Fence.wide 6 Tryz.prog 23 #[.string (bA s), .func (.func fr) #[] #[]] w (RetC w (Sf.readL d s)) := by
  unfold maxLen at hs
  have hmm := @run_makeMap Tryz.prog
  obtain ⟨i0, hi0, hz0, hz1, hz2⟩ := info_parts info_mem
  have HI0 := Lib.hid hi0; have HZ0 := Lib.hid hz0; have HZ1 := Lib.hid hz1; have HZ2 := Lib.hid hz2
  clear hi0 hz0 hz1 hz2
  by_cases hbig : 4000 < s.length
  · have hbig' : (4000 : Int) < (s.length : Int) := by omega
    have hn : Sf.readL d s = none := by unfold Sf.readL; rw [if_pos hbig]
    rw [hn]
    clear hbig hn
    refine callsIn_of_wp_marks Tryz.func23 rfl trivial ?_ rfl
    simp only [Tryz.ntmps23, List.size_toArray, List.length_cons, List.length_nil, Nat.reduceAdd, Nat.reduceSub, Array.replicate_succ, Array.replicate_zero, List.push_toArray, List.append_toArray, List.nil_append, List.cons_append]
    gi_wp2_with fail
    refine wpIn_wide.2 ?_
    go_step3
    refine (wpIn_wide (n := 6)).1 ?_
    gi_wp2_with fail
    refine ⟨.tuple #[.slice none 0 0, .int .i64 50], ?_, Below.refl _ _, .inr ⟨rfl, rfl⟩⟩
    simp [results, Tryz.results23, go_sem]
  · have hsm : (s.length : Int) ≤ 4000 := by omega
    rw [readL_small hbig]
    obtain ⟨o, ho⟩ : ∃ o, (if Sf.trimS s = [] then some [] else Sf.readF d ((Sf.trimS s).length + 1) [] (Sf.trimS s)) = o := ⟨_, rfl⟩
    rw [ho]
    have HO := Lib.hid ho
    clear ho hbig
    refine callsIn_of_wp_marks Tryz.func23 rfl trivial ?_ rfl
    simp only [Tryz.ntmps23, List.size_toArray, List.length_cons, List.length_nil, Nat.reduceAdd, Nat.reduceSub, Array.replicate_succ, Array.replicate_zero, List.push_toArray, List.append_toArray, List.nil_append, List.cons_append]
    gi_wp2_with fail
    refine wpIn_wide.2 ?_
    go_step3
    refine (wpIn_wide (n := 6)).1 ?_
    gi_wp2_with fail
    refine wpIn_wide.2 ?_
    go_step3
    gi_wp2_with fail
    have hbw : Below w.heap.size w ((((w.alloc (.cells #[.slice none 0 0] 23)).alloc (.cells #[.int .i64 0] 24)).alloc (.map #[] 0)).alloc (.cells #[.map (some (w.heap.size + 1 + 1))] 79)) := below_al (below_al (below_al (below_one _ _) _) _) _
    refine ⟨trivial, (callsIn_wide.2 (trim_any s _ (by omega))).mono ?_⟩
    rintro e w1 ⟨rfl, hb1⟩
    obtain ⟨tr, htr⟩ : ∃ tr, Sf.trimS s = tr := ⟨_, rfl⟩
    have htl : tr.length ≤ 4000 := by rw [← htr]; have := Sf.trim_len s; omega
    rw [htr] at HO ⊢
    clear htr
    gi_wp2_with fail
    refine ⟨trivial, (callsIn_wide.2 (members_any (bA tr) fr w1)).mono ?_⟩
    rintro e w2 ⟨rfl, hw2⟩
    gi_wp2_with fail
    obtain ⟨w3, hw3⟩ : ∃ w3, (w1.alloc (.cells #[.string (bA tr)] 9)).alloc (.cells #[.func (.func fr) #[] #[]] 78) = w3 := ⟨_, rfl⟩
    have hsz1 : w.heap.size + 4 ≤ w1.heap.size := by have := hb1.size; simpa using this
    have hsz3 : w1.heap.size + 2 ≤ w3.heap.size := by rw [← hw3]; simp
    have hbA : Below w1.heap.size w1 w3 := by rw [← hw3]; exact below_al (below_one _ _) _
    have hx1 : Boxed w3 w1.heap.size 9 (.string (bA tr)) := by rw [← hw3]; exact (Boxed.new w1 _ _).alloc _
    have hx2 : Boxed w3 (w1.heap.size + 1) 78 (.func (.func fr) #[] #[]) := by rw [← hw3, ← World.size_alloc w1 (.cells #[.string (bA tr)] 9)]; exact Boxed.new _ _ _
    have hst : ColS w d w3.heap.size [] w3 := by
      have hbB := onto hb1 hbA
      have e0 : Boxed w w.heap.size 0 (.bool true) → True := fun _ => trivial
      clear e0
      obtain ⟨y1, hy1⟩ : ∃ y1, w.alloc (.cells #[.slice none 0 0] 23) = y1 := ⟨_, rfl⟩
      obtain ⟨y2, hy2⟩ : ∃ y2, y1.alloc (.cells #[.int .i64 0] 24) = y2 := ⟨_, rfl⟩
      obtain ⟨y3, hy3⟩ : ∃ y3, y2.alloc (.map #[] 0) = y3 := ⟨_, rfl⟩
      have z1 : y1.heap.size = w.heap.size + 1 := by rw [← hy1]; simp
      have z2 : y2.heap.size = w.heap.size + 1 + 1 := by rw [← hy2]; simp [z1]
      have z3 : y3.heap.size = w.heap.size + 1 + 1 + 1 := by rw [← hy3]; simp [z2]
      have q1 : Boxed y1 w.heap.size 23 (.slice none 0 0) := by rw [← hy1]; exact Boxed.new _ _ _
      have q2 : Boxed y2 (w.heap.size + 1) 24 (.int .i64 0) := by rw [← z1, ← hy2]; exact Boxed.new _ _ _
      have q3 : y3.ownsMap Tryz.prog 9 (plainElem Tryz.prog 3) (w.heap.size + 1 + 1) 0 (DataW.map (H := Unit) []) := by rw [← z2, ← hy3]; exact World.ownsMap_made _ _ _ _
      have q4 := Boxed.new y3 79 (.map (some (w.heap.size + 1 + 1)))
      rw [z3] at q4
      have qa : Boxed y2 w.heap.size 23 (.slice none 0 0) := by rw [← hy2]; exact q1.alloc _
      have qb : Boxed y3 w.heap.size 23 (.slice none 0 0) := by rw [← hy3]; exact qa.alloc _
      have qc : Boxed y3 (w.heap.size + 1) 24 (.int .i64 0) := by rw [← hy3]; exact q2.alloc _
      rw [hy1, hy2, hy3] at hbB hbw
      refine ⟨.slice none 0 0, [], .map [], boxed_below (qb.alloc _) hbB, boxed_below (qc.alloc _) hbB, boxed_below q4 hbB, ?_, ?_, World.ownsRow_nil _ _ _ _, rfl, fun _ => List.nodup_nil, onto hbw hbB⟩
      · have : (pk d []).length = 0 := by cases d <;> rfl
        rw [this]
        exact (q3.alloc _).kept (below_g hbB none) (by simp)
      · have : pk d [] = [] := by cases d <;> rfl
        rw [this]; exact Places.nil
    rw [hw3]
    refine range_mem (d := d) (o := o) (Kp := KpB (w1.heap.size + 1)) rfl (by decide) (gf := 71) (lb := #[.pointer (some ⟨w1.heap.size, 0, none⟩), .pointer (some ⟨w1.heap.size + 1, 0, none⟩)]) rfl trivial (enters_of Tryz.func71 (by kernel_rfl) rfl) (w0 := w3) (Below.refl _ _)
      (by rw [← HO.out]; exact members1_gives _ (by decide) d fr eg hread w1.heap.size (w1.heap.size + 1) tr (by omega) w3 hx1 hx2) KpB.trans (fun A B hg hA => hg.kpB (by omega) hA)
      (ColS w d w3.heap.size) (ColX w) (ColA s tr fr w w1.heap.size) 0
      (fun acc A B ⟨v, xs, D, h⟩ hg => ⟨v, xs, D, h.grow hg (by omega)⟩) (fun A B h hg => h.grow hg (by omega)) (fun x a' A B ⟨Bm, h1, h2, h3⟩ hg => ⟨Bm, h1, hg.same _ _ h2 (.inr rfl), h3⟩) hst ?assign ?body ?fault ?done ?stop
    case assign =>
      intro l x W K hWs hK
      unfold MX.cs mC sl
      gi_wp2_with fail
      exact hK _ _ (below_one _ _) ⟨W.heap.size, by omega, CBox.new _ _ _, rfl⟩
    case body =>
      rintro l acc x r t a' W hxe ⟨v, xs, D, hI⟩ he hlen hmv ⟨Bm, hBm, hcb, rfl⟩ hWs
      obtain ⟨m, ⟨a1, n1, p1⟩, ⟨a2, n2, p2⟩, ⟨a3, n3, p3⟩, e⟩ := x
      obtain rfl : e = 0 := hxe
      obtain ⟨va, vc, rfl⟩ : ∃ a c, v = .slice a acc.length c := LV.slice (w := W) (base := w3.heap.size) ⟨xs, hI.row, hI.rowM⟩
      have hkl := key_lenM he
      have HKL := Lib.hid (key_str m.key (by unfold maxLen; simp only at hkl; omega))
      have HMV : Hid (MV W m (.slice a1 n1 p1) (.slice a2 n2 p2) (.slice a3 n3 p3)) := Lib.hid hmv
      have HCB : Hid (CBox W Bm 40 (mC m (.slice a1 n1 p1) (.slice a2 n2 p2) (.slice a3 n3 p3))) := Lib.hid hcb
      have cl := hI.lbox.cell; have cp := hI.pbox.cell; have fl := hI.lbox.frozen
      obtain ⟨c0, c1, c2, c3, c4, c5, c6, c7⟩ := HCB.out.all8.1
      have HI := Lib.hid hI
      have HMAP := Lib.hid hI.map
      have HE : Hid (Sf.eith d t = some (m, r)) := Lib.hid he
      unfold MX.cs mC sl
      simp only
      clear hmv hcb hI hkl he
      cases d with
      | false =>
        have hk0 : m.key = [] := Sf.memb_key HE.out
        have HPL : Hid (Maps.has D (.string m.key) = false) := Lib.hid (HI.out.places.no m.key (by unfold pk; simp))
        have HKE : Hid (m.key.isEmpty = true) := Lib.hid (by rw [hk0]; rfl)
        clear hk0
        have HROW := Lib.hid HI.out.row
        gi_wp2_with (gi_at_lookup; refine wpListIn_lookup_own_ok_int _ rfl _ _ 79 rfl 9 3 .i64 law_str Tryz.underlying79 Tryz.underlying3 (zero_int _) (w.heap.size + 1 + 1) (pk false acc).length D rfl HMAP.out _ _ rfl HKL.out ?_)
        intro c hat _
        rw [HPL.out]
        clear hat
        have hke := HKE.out
        gi_wp2_with (gi_at_builtin; refine wpListIn_append_own _ rfl _ _ 23 rfl w3.heap.size 40 i0 (.agg zM) 8 128 Tryz.underlying23 HI0.out HZ0.out HZ1.out HZ2.out rfl (by decide) _ _ _ rfl (HROW.out.alloc _) ⟨W.heap.size, 0, none⟩ 1 1 (mC m (.slice a1 n1 p1) (.slice a2 n2 p2) (.slice a3 n3 p3)).toList rfl rfl (cells_new _ (mC m (.slice a1 n1 p1) (.slice a2 n2 p2) (.slice a3 n3 p3)) _) ?_ ?_ ?_ ?_ ?_)
        · intro u hu; simp [mC] at hu; rcases hu with rfl | rfl | rfl | rfl | rfl | rfl | rfl | rfl <;> rfl
        · unfold maxLen; omega
        · omega
        · simp; omega
        intro v' w7 hown7 hg7 _
        obtain ⟨va7, vc7, rfl⟩ := slice8 hown7
        have hbx7 := ((HI.out.lbox).alloc _).kept hg7 (own_neE8 HROW.out (by omega))
        have cl7 := hbx7.cell
        have fl7 := hbx7.frozen
        have HK7 := Lib.hid ((KeepsFrom.refl w3.heap.size W).trans ((KeepsOthers.alloc _ _).from w3.heap.size |>.trans (keeps_row (HROW.out.alloc _) hg7 w3.heap.size)))
        have HKB := Lib.hid (Eq.trans (hg7.block (w1.heap.size + 1) (by simp; omega) (own_neE8 HROW.out (by omega))) (Eq.trans (Below.heap_alloc _ _ _ (by omega)) rfl))
        have HN := Lib.hid (HI.out.app HMV.out (g_refl _ _) HMAP.out HI.out.places (by omega) hWs rfl (fun h => by cases h) hown7 hg7)
        clear hown7 hg7 hbx7
        gi_wp2_with fail
        refine ⟨rfl, HK7.out.trans ((KeepsOthers.setCell _ _ _).from _), ?_, HN.out⟩
        exact Eq.trans (Below.heap_setCell _ _ _ _ (by show w1.heap.size + 1 ≠ w.heap.size; omega)) HKB.out
      | true =>
        have hk0 : m.key ≠ [] := Sf.keyd_key HE.out
        by_cases hmem : m.key ∈ Sf.keysM acc
        · obtain ⟨i, hi, hik⟩ := List.getElem_of_mem hmem
          have hia : i < acc.length := by simpa [Sf.keysM] using hi
          have hpl := HI.out.places.yes i (by unfold pk; exact hi)
          have hpk : (pk true acc)[i]'(by unfold pk; exact hi) = m.key := hik
          rw [hpk] at hpl
          have HPL := Lib.hid hpl
          have HIK : Hid (acc[i].key = m.key) := Lib.hid (by simpa [Sf.keysM] using hik)
          obtain ⟨g, rfl⟩ : ∃ g, va = some ⟨g, 0, none⟩ := by
            obtain ⟨_, ⟨h1, h2⟩ | ⟨g, cap, _, h1, _⟩⟩ := HI.out.row
            · omega
            · cases h1; exact ⟨g, rfl⟩
          clear hpl hpk hi hik hmem hk0
          gi_wp2_with (gi_at_lookup; refine wpListIn_lookup_own_ok_int _ rfl _ _ 79 rfl 9 3 .i64 law_str Tryz.underlying79 Tryz.underlying3 (zero_int _) (w.heap.size + 1 + 1) (pk true acc).length D rfl HMAP.out _ _ rfl HKL.out ?_)
          intro c hat _
          rw [HPL.out.1]
          obtain rfl : c = (i : Int) := by have := HPL.out.2.symm.trans hat; injection this with h; injection h with _ h; exact h.symm
          clear hat
          obtain ⟨u1, u2, u3, _, hx8⟩ := HI.out.rowM.at i hia
          obtain ⟨d0, f0⟩ := own_cell HI.out.row (hx8 0 (by omega))
          obtain ⟨d1, f1⟩ := own_cell HI.out.row (hx8 1 (by omega))
          obtain ⟨d2, f2⟩ := own_cell HI.out.row (hx8 2 (by omega))
          obtain ⟨d3, f3⟩ := own_cell HI.out.row (hx8 3 (by omega))
          obtain ⟨d4, f4⟩ := own_cell HI.out.row (hx8 4 (by omega))
          obtain ⟨d5, f5⟩ := own_cell HI.out.row (hx8 5 (by omega))
          obtain ⟨d6, f6⟩ := own_cell HI.out.row (hx8 6 (by omega))
          obtain ⟨d7, f7⟩ := own_cell HI.out.row (hx8 7 (by omega))
          have hcap : acc.length ≤ vc := by
            obtain ⟨_, ⟨h1, h2⟩ | ⟨g', cap, _, h1, _, _, h2, _⟩⟩ := HI.out.row
            · cases h1
            · cases h1; exact h2
          have hgb : w3.heap.size ≤ g := (HI.out.row.lt g rfl).1
          clear hx8
          simp only [Nat.add_zero] at d0 f0
          gi_wp2_with fail
          refine ⟨rfl, keeps_setg W g (i * 8) _ _ _ _ _ _ _ _ _, ?_, HI.out.set HMV.out hia HIK.out (by omega)⟩
          exact (own_setg HI.out.row _ _ _ _ _ _ _ _).2.block (w1.heap.size + 1) (by omega) (by simp; omega)
        · have HPL : Hid (Maps.has D (.string m.key) = false) := Lib.hid (HI.out.places.no m.key (by unfold pk; simpa using hmem))
          have hke : m.key.isEmpty = false := by cases hm : m.key with | nil => exact absurd hm hk0 | cons c k => rfl
          have HMEM := Lib.hid hmem
          gi_wp2_with (gi_at_lookup; refine wpListIn_lookup_own_ok_int _ rfl _ _ 79 rfl 9 3 .i64 law_str Tryz.underlying79 Tryz.underlying3 (zero_int _) (w.heap.size + 1 + 1) (pk true acc).length D rfl HMAP.out _ _ rfl HKL.out ?_)
          intro c hat _
          rw [HPL.out]
          clear hat hk0 hmem
          have hpkl : (pk true acc).length = acc.length := by unfold pk Sf.keysM; simp
          gi_wp2_with (gi_at_mapUpdate; refine wpListIn_mapUpdate_own _ rfl _ _ _ 79 rfl 9 3 law_str Tryz.underlying79 _ (w.heap.size + 1 + 1) (pk true acc).length D rfl HMAP.out ?_ _ _ _ rfl rfl HKL.out _ [] (plainElem_int Tryz.underlying3 (WalkArith.wf_i64 (by omega))) ?_)
          · unfold maxLen; omega
          intro w6 hown6 hg6
          have hs6 := hg6.size
          have HROW : Hid (w6.ownsRow w3.heap.size 40 8 (.slice va acc.length vc) acc.length xs) := Lib.hid (HI.out.row.kept hg6 (by
            cases hv : (Value.slice va acc.length vc).ownBlock with
            | none => exact .inl rfl
            | some k => exact .inr (by intro e; have := (HI.out.row.lt k hv).1; cases e; omega)))
          have hbx6 := HI.out.lbox.kept hg6 (by simp; omega)
          have HBX6 := Lib.hid hbx6
          have HCB6 := Lib.hid (HCB.out.kept hg6 (by simp; omega))
          have HG6 := Lib.hid hg6
          have HM6 : Hid (w6.ownsMap Tryz.prog 9 (plainElem Tryz.prog 3) (w.heap.size + 1 + 1) (pk true (acc ++ [m])).length (D.put (.string m.key) (.lit (.int .i64 acc.length)))) := Lib.hid (by
            have : (pk true (acc ++ [m])).length = (pk true acc).length + 1 := by unfold pk Sf.keysM; simp
            rw [this, hpkl]; exact hown6)
          have HP6 : Hid (Places (D.put (.string m.key) (.lit (.int .i64 acc.length))) (pk true (acc ++ [m]))) := Lib.hid (by
            have e1 : pk true (acc ++ [m]) = pk true acc ++ [m.key] := by unfold pk Sf.keysM; simp
            have := HI.out.places.put (k := m.key) (by unfold pk; simpa using HMEM.out)
            rw [hpkl] at this
            rw [e1]; exact this)
          clear hown6 hg6 c0 c1 c2 c3 c4 c5 c6 c7 cl fl cp
          have cl := hbx6.cell; have fl := hbx6.frozen
          obtain ⟨c0, c1, c2, c3, c4, c5, c6, c7⟩ := HCB6.out.all8.1
          gi_wp2_with (gi_at_builtin; refine wpListIn_append_own _ rfl _ _ 23 rfl w3.heap.size 40 i0 (.agg zM) 8 128 Tryz.underlying23 HI0.out HZ0.out HZ1.out HZ2.out rfl (by decide) _ _ _ rfl (HROW.out.alloc _) ⟨w6.heap.size, 0, none⟩ 1 1 (mC m (.slice a1 n1 p1) (.slice a2 n2 p2) (.slice a3 n3 p3)).toList rfl rfl (cells_new _ (mC m (.slice a1 n1 p1) (.slice a2 n2 p2) (.slice a3 n3 p3)) _) ?_ ?_ ?_ ?_ ?_)
          · intro u hu; simp [mC] at hu; rcases hu with rfl | rfl | rfl | rfl | rfl | rfl | rfl | rfl <;> rfl
          · unfold maxLen; omega
          · omega
          · simp; omega
          intro v' w7 hown7 hg7 _
          obtain ⟨va7, vc7, rfl⟩ := slice8 hown7
          have hbx7 := ((HBX6.out).alloc _).kept hg7 (own_neE8 HROW.out (by omega))
          have cl7 := hbx7.cell
          have fl7 := hbx7.frozen
          have HK7 := Lib.hid ((KeepsFrom.of_grownBy (B := w3.heap.size) HG6.out (fun j e => by cases e; omega)).trans ((KeepsOthers.alloc _ _).from w3.heap.size |>.trans (keeps_row (HROW.out.alloc _) hg7 w3.heap.size)))
          have HKB := Lib.hid (Eq.trans (hg7.block (w1.heap.size + 1) (by simp; omega) (own_neE8 HROW.out (by omega))) (Eq.trans (Below.heap_alloc _ _ _ (by omega)) (HG6.out.block (w1.heap.size + 1) (by omega) (by simp; omega))))
          have HN := Lib.hid (HI.out.app HMV.out HG6.out HM6.out HP6.out (by omega) hWs (Sf.putM_new HMEM.out) (fun _ => HMEM.out) hown7 hg7)
          clear hown7 hg7 hbx7
          gi_wp2_with fail
          refine ⟨rfl, HK7.out.trans ((KeepsOthers.setCell _ _ _).from _), ?_, HN.out⟩
          exact Eq.trans (Below.heap_setCell _ _ _ _ (by show w1.heap.size + 1 ≠ w.heap.size; omega)) HKB.out
    case fault =>
      rintro l acc a' W ⟨v, xs, D, hI⟩ ⟨Bm, hBm, hcb, rfl⟩ hWs
      have HKL := Lib.hid (key_str [] (by simp [maxLen]))
      have HMAP := Lib.hid hI.map
      have HI := Lib.hid hI
      have cl := hI.lbox.cell; have cp := hI.pbox.cell; have fl := hI.lbox.frozen; have ce := hI.ebox.cell; have fe := hI.ebox.frozen
      obtain ⟨c0, c1, c2, c3, c4, c5, c6, c7⟩ := (show CBox W Bm 40 zM from hcb).all8.1
      unfold MX.cs mC sl zX
      simp only
      clear hcb hI
      gi_wp2_with (gi_at_lookup; refine wpListIn_lookup_own_ok_int _ rfl _ _ 79 rfl 9 3 .i64 law_str Tryz.underlying79 Tryz.underlying3 (zero_int _) (w.heap.size + 1 + 1) (pk d acc).length D rfl HMAP.out _ _ rfl HKL.out ?_)
      intro c hat _
      obtain ⟨hb, hhb⟩ : ∃ hb, Maps.has D (.string []) = hb := ⟨_, rfl⟩
      rw [hhb]
      clear hat hhb
      gi_wp2_with fail
      refine ⟨rfl, ((KeepsOthers.setCell _ _ _).trans (KeepsOthers.setCell _ _ _)).from _, ?_⟩
      exact ⟨(HI.out.lbox.set _).other (by omega) _, (HI.out.ebox.other (by omega) _).set _, (HI.out.below.setCell (p := ⟨w.heap.size, 0, none⟩) (Nat.le_refl _) _).setCell (p := ⟨w.heap.size + 1, 0, none⟩) (by show w.heap.size ≤ w.heap.size + 1; omega) _⟩
    case done =>
      rintro D acc W hD hs ⟨v, xs, Dm, hI⟩ hK
      obtain ⟨va, vc, rfl⟩ : ∃ a c, v = .slice a acc.length c := LV.slice (w := W) (base := w3.heap.size) ⟨xs, hI.row, hI.rowM⟩
      have cl := hI.lbox.cell; have ce := hI.ebox.cell
      have HI := Lib.hid hI
      subst hs
      gi_wp2_with fail
      gi_quiet (fail)
      gi_wp2_with fail
      have hK' : (W.drewN nq).heap[D]? = some (.deferred (some [])) := hK
      have hgr : Grow w.heap.size W ((W.drewN nq).putObj D (.deferred none)) := (Grow.of_below (below_drew W nq)).trans (Grow.put _ (by omega) hK' rfl)
      refine ⟨by simp, .inl ⟨_, _, rfl, run_takeDeferred hK', ?_⟩⟩
      refine ⟨.tuple #[.slice va acc.length vc, .int .i64 0], ?_, ?_, .inl ⟨acc, _, rfl, rfl, xs, owns_base4 (owns_keptT HI.out.row (hgr.keptT _)) (by omega), HI.out.rowM.kept (hgr.keptT _) (hgr.keptT _)⟩⟩
      · simp [results, Tryz.results23, go_sem]
      · exact HI.out.below.trans (hgr.below (Nat.le_refl _) HI.out.below.size)
    case stop =>
      rintro D W hD hs hX hK
      have cl := hX.lbox.cell; have ce := hX.ebox.cell
      have HX := Lib.hid hX
      subst hs
      gi_wp2_with fail
      gi_quiet (fail)
      gi_wp2_with fail
      have hK' : (W.drewN nq).heap[D]? = some (.deferred (some [])) := hK
      have hgr : Grow w.heap.size W ((W.drewN nq).putObj D (.deferred none)) := (Grow.of_below (below_drew W nq)).trans (Grow.put _ (by omega) hK' rfl)
      refine ⟨by simp, .inl ⟨_, _, rfl, run_takeDeferred hK', ?_⟩⟩
      refine ⟨.tuple #[.slice none 0 0, .int .i64 50], ?_, HX.out.below.trans (hgr.below (Nat.le_refl _) HX.out.below.size), .inr ⟨rfl, rfl⟩⟩
      simp [results, Tryz.results23, go_sem]
theorem collect_any (d : Bool) (fr : Nat) (eg : ∀ args w, (callFunc fr args).run Tryz.prog w = .ok (.enter fr args) w) (hread : ∀ t W, t.length ≤ 1000000 → Calls Tryz.prog fr #[.string (bA t)] W (RetM (.int .i64 0) (.int .i64 50) W (Sf.eith d t)))
    (s : List UInt8) (w : World) (hs : s.length ≤ maxLen) : Calls Tryz.prog 23 #[.string (bA s), .func (.func fr) #[] #[]] w (RetC w (Sf.readL d s)) := callsIn_wide.1 (collect_in d fr eg hread s w hs)
set_option maxHeartbeats 1000000 in
theorem list_any (s : List UInt8) (w : World) (hs : s.length ≤ maxLen) : Calls Tryz.prog 10 #[.string (bA s)] w (RetC w (Sf.readL false s)) := by
  have H := Lib.hid (collect_any false 24 (enters_of Tryz.func24 (by kernel_rfl) rfl) (fun t W ht => readMember_any t W ht) s w hs)
  obtain ⟨o, ho⟩ : ∃ o, Sf.readL false s = o := ⟨_, rfl⟩
  rw [ho] at H ⊢
  clear ho
  go_enter Tryz.func10, Tryz.ntmps10
  go_wp2_with fail
  refine H.out.mono ?_
  rintro e w1 ⟨hb, ⟨l, v, rfl, rfl, hv⟩ | ⟨rfl, rfl⟩⟩
  · obtain ⟨va, vc, rfl⟩ := hv.slice
    have HB := Lib.hid hb; have HV := Lib.hid hv
    clear hb hv H
    go_wp2_with fail
    go_ret2
    exact ⟨HB.out, .inl ⟨l, _, rfl, rfl, HV.out⟩⟩
  · have HB := Lib.hid hb
    clear hb H
    go_wp2_with fail
    go_ret2
    exact ⟨HB.out, .inr ⟨rfl, rfl⟩⟩
set_option maxHeartbeats 1000000 in
theorem dict_any (s : List UInt8) (w : World) (hs : s.length ≤ maxLen) : Calls Tryz.prog 12 #[.string (bA s)] w (RetC w (Sf.readL true s)) := by
  have H := Lib.hid (collect_any true 26 (enters_of Tryz.func26 (by kernel_rfl) rfl) (fun t W ht => readEntry_any t W ht) s w hs)
  obtain ⟨o, ho⟩ : ∃ o, Sf.readL true s = o := ⟨_, rfl⟩
  rw [ho] at H ⊢
  clear ho
  go_enter Tryz.func12, Tryz.ntmps12
  go_wp2_with fail
  refine H.out.mono ?_
  rintro e w1 ⟨hb, ⟨l, v, rfl, rfl, hv⟩ | ⟨rfl, rfl⟩⟩
  · obtain ⟨va, vc, rfl⟩ := hv.slice
    have HB := Lib.hid hb; have HV := Lib.hid hv
    clear hb hv H
    go_wp2_with fail
    go_ret2
    exact ⟨HB.out, .inl ⟨l, _, rfl, rfl, HV.out⟩⟩
  · have HB := Lib.hid hb
    clear hb H
    go_wp2_with fail
    go_ret2
    exact ⟨HB.out, .inr ⟨rfl, rfl⟩⟩
end Go.Proofs.YtogjekjklknfeaaGreatDoor
