/- Our texts of one layer, joined: plain functions and their laws, and the contracts of the functions of that layer. -/
import Derived.Test.YtgddmihojladfaaGreatDoorCoMathAll
import Derived.Test.YtgddmihojladfaaGreatDoorHdPall
import Derived.Test.YtgddmihojladfaaGreatDoorSfParse
import Derived.Maps.Own
import Derived.Maps.Views
import Derived.Test.YtgddmihojladfaaGreatDoorSfSeen
import Derived.Deep.RegionHeld3

/- The contracts of coop's leaves: what isolates, what is but reported, the two maps of words, the reader's making, where reports go. -/

namespace Go.Proofs.YtgddmihojladfaaGreatDoor
open Go.RowKit
open Go.Maps Go.WideMaps

theorem isolates_any (k : Int) (w : World) : Calls Tryz.prog 19 #[.int .i64 k] w fun e w' => e = .returned (.bool (Co.isoB k)) ∧ w = w' := by
  go_enter Tryz.func19, Tryz.ntmps19
  go_wp2_with fail
  all_goals
    go_ret
    refine ⟨?_, rfl⟩
    first
    | rfl
    | (simp_all [Co.isoB]; done)
theorem risolates_any (k : Int) (w : World) : Calls Tryz.prog 20 #[.int .i64 k] w fun e w' => e = .returned (.bool (Co.isoB k)) ∧ w = w' := by
  go_enter Tryz.func20, Tryz.ntmps20
  go_wp2_with fail
  all_goals
    go_ret
    refine ⟨?_, rfl⟩
    first
    | rfl
    | (simp_all [Co.isoB]; done)

/-! ### what is but reported -/
theorem rep_fold (h : Hd.Hdr) : Co.repB h = (Hd.foldB h.name Co.nER || Hd.foldB h.name Co.nOR) := by
  unfold Co.repB
  rw [Co.fold_is Co.low_ER, Co.fold_is Co.low_OR, Bool.or_comm]
theorem isReported_any (s : List UInt8) (w : World) (hs : s.length ≤ 10000) : Calls Tryz.prog 26 #[.string (bA s)] w fun e w' => e = .returned (.bool (Hd.foldB s Co.nER || Hd.foldB s Co.nOR)) ∧ Below w.heap.size w w' := by
  obtain ⟨a, ha⟩ : ∃ a, Hd.foldB s Co.nER = a := ⟨_, rfl⟩
  obtain ⟨b, hb⟩ : ∃ b, Hd.foldB s Co.nOR = b := ⟨_, rfl⟩
  have f1 := fun W => fold_val hs (by decide) W ha
  have f2 := fun W => fold_val hs (by decide) W hb
  rw [ha, hb]
  clear ha hb hs
  have F1 := Lib.hid f1; have F2 := Lib.hid f2
  clear f1 f2
  go_enter Tryz.func26, Tryz.ntmps26
  go_wp2_with fail
  refine (F1.out _).mono ?_
  rintro e w1 ⟨rfl, hb1⟩
  cases a with
  | true =>
    go_wp2_with fail
    go_ret
    exact ⟨rfl, hb1⟩
  | false =>
    go_wp2_with fail
    refine (F2.out _).mono ?_
    rintro e w2 ⟨rfl, hb2⟩
    go_wp2_with fail
    go_ret
    exact ⟨by cases b <;> rfl, Below.onto hb1 hb2⟩

/-! ### the maps of words -/
theorem coLaw : Keyed Tryz.prog 9 := string_keyed Tryz.underlying9
theorem coZero (w : World) : (zeroValue 3).run Tryz.prog w = .ok (.int .i64 0) w := by kernel_rfl
def m2 (k1 : List UInt8) (v1 : Int) (k2 : List UInt8) (v2 : Int) : DataW Unit := ((DataW.map []).put (.string k1) (.lit (.int .i64 v1))).put (.string k2) (.lit (.int .i64 v2))
theorem m2_at (k1 k2 s : List UInt8) (v1 v2 : Int) : (m2 k1 v1 k2 v2).atKey (.string s) (.lit (.int .i64 0)) = .lit (.int .i64 (if s = k2 then v2 else if s = k1 then v1 else 0)) := by
  unfold m2
  by_cases h2 : s = k2
  · rw [if_pos h2]; subst h2
    exact atKey_put_same ⟨_, rfl⟩ (by trivial) _ _
  · rw [if_neg h2, atKey_put_other (fun e => h2 (Lit.string.inj e))]
    by_cases h1 : s = k1
    · rw [if_pos h1]; subst h1
      exact atKey_put_same ⟨_, rfl⟩ (by trivial) _ _
    · rw [if_neg h1, atKey_put_other (fun e => h1 (Lit.string.inj e))]
      rfl
/-- A map that answers f of any text. -/
def LooksUp (w : World) (v : Value) (f : List UInt8 → Int) : Prop := ∃ B, ∃ d : DataW Unit, v = .map (some B) ∧ w.ownsMap Tryz.prog 9 (plainElem Tryz.prog 3) B 2 d ∧ ∀ s, d.atKey (.string s) (.lit (.int .i64 0)) = .lit (.int .i64 (f s))
theorem LooksUp.below {w w' : World} {v : Value} {f : List UInt8 → Int} (h : LooksUp w v f) (hb : Below w.heap.size w w') : LooksUp w' v f := by
  obtain ⟨B, d, e, ho, hf⟩ := h
  exact ⟨B, d, e, ho.kept (row := none) (below_g hb none) (by simp), hf⟩
theorem LooksUp.run {w : World} {v : Value} {f : List UInt8 → Int} (h : LooksUp w v f) (s : List UInt8) (hs : s.length ≤ maxLen) : (Instr.lookup 47 v (.string (bA s)) false).run Tryz.prog w = .ok (.int .i64 (f s)) w := by
  obtain ⟨B, d, rfl, ho, hf⟩ := h
  obtain ⟨c, hr, hat, _⟩ := ho.lookup_int coLaw Tryz.underlying47 Tryz.underlying3 (coZero w) (key := .string (bA s)) (keyOf_string_mk Tryz.underlying9 (by rw [bA_size]; exact hs))
  rw [hr]
  have e : d.atKey (.string (bA s).data.toList) (.lit (.int .i64 0)) = .lit (.int .i64 (f s)) := hf s
  rw [e] at hat
  rw [← (Lit.int.inj (DataW.lit.inj hat)).2]
theorem two_made (w : World) (k1 k2 : List UInt8) (v1 v2 : Int) (l1 : k1.length ≤ maxLen) (l2 : k2.length ≤ maxLen) (i1 : (Lit.int .i64 v1).wf = true) (i2 : (Lit.int .i64 v2).wf = true) :
    ∃ w1 w2 : World, (Instr.mapUpdate 47 (.map (some w.heap.size)) (.string (bA k1)) (.int .i64 v1)).run Tryz.prog (w.alloc (.map #[] 0)) = .ok () w1 ∧
    (Instr.mapUpdate 47 (.map (some w.heap.size)) (.string (bA k2)) (.int .i64 v2)).run Tryz.prog w1 = .ok () w2 ∧ Below w.heap.size w w2 ∧
    LooksUp w2 (.map (some w.heap.size)) fun s => if s = k2 then v2 else if s = k1 then v1 else 0 := by
  obtain ⟨w1, r1, o1, g1⟩ := (World.ownsMap_made (H := Unit) w Tryz.prog 9 (plainElem Tryz.prog 3)).update coLaw Tryz.underlying47 (by unfold maxLen; omega) (key := .string (bA k1)) (val := .int .i64 v1) (keyOf_string_mk Tryz.underlying9 (by rw [bA_size]; exact l1)) (plainElem_int Tryz.underlying3 i1)
  obtain ⟨w2, r2, o2, g2⟩ := o1.update coLaw Tryz.underlying47 (by unfold maxLen; omega) (key := .string (bA k2)) (val := .int .i64 v2) (keyOf_string_mk Tryz.underlying9 (by rw [bA_size]; exact l2)) (plainElem_int Tryz.underlying3 i2)
  have hb0 : Below w.heap.size w (w.alloc (.map #[] 0)) := (Below.refl _ w).alloc (Nat.le_refl _) _
  have hb1 := hb0.grown g1 (by simp) (fun j hj => by cases hj; exact Nat.le_refl _)
  have hb2 := hb1.grown g2 hb1.size (fun j hj => by cases hj; exact Nat.le_refl _)
  exact ⟨w1, w2, r1, r2, hb2, ⟨w.heap.size, m2 k1 v1 k2 v2, rfl, o2, fun s => m2_at k1 k2 s v1 v2⟩⟩
set_option maxRecDepth 20000 in
theorem embedderValues_any (w : World) : Calls Tryz.prog 32 #[] w fun e w' => ∃ v, e = .returned v ∧ Below w.heap.size w w' ∧ LooksUp w' v Co.coepW := by
  have hmm := @run_makeMap Tryz.prog
  obtain ⟨w1, w2, r1, r2, hb, hl⟩ := two_made w Co.wCred Co.wReq 1 2 (by decide) (by decide) (by decide) (by decide)
  have HB := Lib.hid hb; have HL := Lib.hid hl
  clear hb hl
  unfold bA Co.wCred at r1; unfold bA Co.wReq at r2
  go_enter Tryz.func32, Tryz.ntmps32
  go_wp2_with fail
  go_ret
  exact ⟨_, rfl, HB.out, HL.out⟩
set_option maxRecDepth 20000 in
theorem openerValues_any (p : Bool) (w : World) : Calls Tryz.prog 29 #[.bool p] w fun e w' => ∃ v, e = .returned v ∧ Below w.heap.size w w' ∧ LooksUp w' v fun s => Co.coopW s p := by
  have hmm := @run_makeMap Tryz.prog
  have hw (q : Bool) (s : List UInt8) : Co.coopW s q = if s = Co.wPop then 1 else if s = Co.wSame then (if q then 3 else 2) else 0 := by
    unfold Co.coopW
    by_cases h : s = Co.wSame
    · subst h; rw [if_pos rfl, if_neg (show ¬ Co.wSame = Co.wPop by decide), if_pos rfl]
    · rw [if_neg h]
      by_cases h2 : s = Co.wPop
      · rw [if_pos h2, if_pos h2]
      · rw [if_neg h2, if_neg h2, if_neg h]
  cases p with
  | true =>
    obtain ⟨w1, w2, r1, r2, hb, hl⟩ := two_made w Co.wSame Co.wPop 3 1 (by decide) (by decide) (by decide) (by decide)
    have HB := Lib.hid hb; have HL := Lib.hid hl; have HW := Lib.hid hw
    clear hb hl hw
    unfold bA Co.wSame at r1; unfold bA Co.wPop at r2
    go_enter Tryz.func29, Tryz.ntmps29
    go_wp2_with fail
    go_ret
    refine ⟨_, rfl, HB.out, ?_⟩
    rw [show (fun s => Co.coopW s true) = _ from funext (HW.out true)]
    exact HL.out
  | false =>
    obtain ⟨w1, w2, r1, r2, hb, hl⟩ := two_made w Co.wSame Co.wPop 2 1 (by decide) (by decide) (by decide) (by decide)
    have HB := Lib.hid hb; have HL := Lib.hid hl; have HW := Lib.hid hw
    clear hb hl hw
    unfold bA Co.wSame at r1; unfold bA Co.wPop at r2
    go_enter Tryz.func29, Tryz.ntmps29
    go_wp2_with fail
    go_ret
    refine ⟨_, rfl, HB.out, ?_⟩
    rw [show (fun s => Co.coopW s false) = _ from funext (HW.out false)]
    exact HL.out

/-! ### the reader's making -/
theorem reader_any (A : Option Addr) (c n : Nat) (w : World) : Calls Tryz.prog 28 #[.slice A n c] w fun e w' => e = .returned (.func (.func 40) #[] #[.pointer (some ⟨w.heap.size, 0, none⟩)]) ∧ Below w.heap.size w w' ∧ Boxed w' w.heap.size 23 (.slice A n c) := by
  go_enter Tryz.func28, Tryz.ntmps28
  go_wp2_with fail
  go_ret
  exact ⟨rfl, (Below.refl _ w).alloc (Nat.le_refl _) _, World.alloc_heap_new _ _⟩
end Go.Proofs.YtgddmihojladfaaGreatDoor

/- The contracts of slices.IndexFunc at the parameters, and of coop's endpoint. -/
namespace Go.Proofs.YtgddmihojladfaaGreatDoor
open Go.RowKit

theorem isTo_any (p : Sf.Par) (w : World) : Calls Tryz.prog 53 #[parV p] w fun e w' => e = .returned (.bool (Co.isTo p)) ∧ Below w.heap.size w w' := by
  unfold parV pC
  go_enter Tryz.func53, Tryz.ntmps53
  go_wp2_with fail
  go_ret
  exact ⟨rfl, (Below.refl _ w).alloc (Nat.le_refl _) _⟩
/-- The place that is answered: of a parameter of that key, or -1. -/
def Place (l : List Sf.Par) (i : Int) : Prop := (i = -1 ∧ ∀ p ∈ l, Co.isTo p = false) ∨ ∃ k, ∃ h : k < l.length, i = k ∧ Co.isTo l[k] = true
set_option maxHeartbeats 1000000 in
theorem place_any (A : Option Addr) (c n : Nat) (l : List Sf.Par) (w : World) (hn : l.length = n) (hbig : n ≤ maxLen) (hA : SeenP w A l) :
    Calls Tryz.prog 52 #[.slice A n c, .func (.func 53) #[] #[]] w fun e w' => ∃ i, e = .returned (.int .i64 i) ∧ Below w.heap.size w w' ∧ Place l i := by
  subst hn
  have HA := Lib.hid hA
  clear hA
  unfold maxLen at hbig
  go_enter Tryz.func52, Tryz.ntmps52
  go_wp2_with fail
  go_loopg [5, 8] l.length (fun gg _ s8 wr => ∃ k : Nat, k ≤ l.length ∧ l.length - k ≤ gg ∧ s8 = .int .i64 k ∧ Hid (Below w.heap.size w wr) ∧ Hid (∀ j (h : j < l.length), j < k → Co.isTo l[j] = false))
  case atStart => exact ⟨0, Nat.zero_le _, by omega, rfl, Lib.hid (Below.refl _ w), Lib.hid fun j _ hj => absurd hj (Nat.not_lt_zero _)⟩
  case round =>
    obtain ⟨k, hk, hg, rfl, hb, hno⟩ := hrel
    by_cases hlt : k < l.length
    · have hltz : (k : Int) < (l.length : Int) := by omega
      obtain ⟨g, o, rfl, hgl, hc⟩ := HA.out.below hb.out (by omega)
      obtain ⟨c0, c1, c2, c3⟩ := hc k hlt
      have hcall := fun W => isTo_any l[k] W
      obtain ⟨x, hx⟩ : ∃ x, l[k] = x := ⟨_, rfl⟩
      rw [hx] at c0 c1 c2 c3 hcall
      have HX := Lib.hid hx
      have HC := Lib.hid hcall
      clear hc hx hcall
      obtain ⟨b, hbb⟩ : ∃ b, Co.isTo x = b := ⟨_, rfl⟩
      have HB := Lib.hid hbb
      clear hbb
      go_wp2_with fail
      refine (HC.out _).mono ?_
      rintro e w1 ⟨rfl, hb1⟩
      rw [HB.out]
      cases b with
      | true =>
        go_wp2_with fail
        go_ret
        exact ⟨_, rfl, Below.onto hb.out hb1, .inr ⟨k, hlt, rfl, by rw [HX.out]; exact HB.out⟩⟩
      | false =>
        go_wp2_with fail
        go_roundg (l.length - (k + 1))
        case measure => omega
        case rel =>
          refine ⟨k + 1, by omega, by omega, by go_num, Lib.hid (Below.onto hb.out hb1), Lib.hid fun j hj hjk => ?_⟩
          by_cases e : j = k
          · subst e
            rw [HX.out]; exact HB.out
          · exact hno.out j hj (by omega)
    · have hltz : ¬ (k : Int) < (l.length : Int) := by omega
      have : k = l.length := by omega
      subst this
      go_wp2_with fail
      go_ret
      refine ⟨_, rfl, hb.out, .inl ⟨rfl, fun p hp => ?_⟩⟩
      obtain ⟨j, hj, rfl⟩ := List.getElem_of_mem hp
      exact hno.out j hj hj
set_option maxHeartbeats 1000000 in
theorem endpoint_any (A : Option Addr) (c n : Nat) (l : List Sf.Par) (w : World) (hn : l.length = n) (hbig : n ≤ maxLen) (hk : (Sf.keys l).Nodup) (hA : SeenP w A l) :
    Calls Tryz.prog 43 #[.slice A n c] w fun e w' => e = .returned (.string (bA (Co.endp l))) ∧ Below w.heap.size w w' := by
  have hp := place_any A c n l w hn hbig hA
  subst hn
  have HP := Lib.hid hp
  clear hp
  have HA := Lib.hid hA
  clear hA
  unfold maxLen at hbig
  have HK := Lib.hid hk
  clear hk
  obtain ⟨E, hE⟩ : ∃ E, Co.endp l = E := ⟨_, rfl⟩
  rw [hE]
  have HE := Lib.hid hE
  clear hE
  go_enter Tryz.func43, Tryz.ntmps43
  go_wp2_with fail
  refine HP.out.mono ?_
  rintro e w1 ⟨i, rfl, hb, hi⟩
  rcases hi with ⟨rfl, hno⟩ | ⟨k, hk, rfl, hto⟩
  · obtain rfl : E = [] := HE.out.symm.trans (Co.endp_none hno)
    clear hno
    go_wp2_with fail
    go_ret
    exact ⟨rfl, hb⟩
  · have he := Co.endp_at HK.out hk hto
    obtain ⟨g, o, rfl, hgl, hc⟩ := HA.out.below hb (by omega)
    obtain ⟨c0, c1, c2, c3⟩ := hc k hk
    obtain ⟨x, hx⟩ : ∃ x, l[k] = x := ⟨_, rfl⟩
    rw [hx] at c0 c1 c2 c3 he
    have he := HE.out.symm.trans he
    clear hc hx hto
    have hkz : (k : Int) < (l.length : Int) := by omega
    have hneg : ¬ (k : Int) < 0 := by omega
    by_cases h3 : x.kind = 3
    · rw [if_pos h3] at he
      subst he
      rw [h3] at c1
      go_wp2_with fail
      go_ret
      exact ⟨rfl, hb⟩
    · rw [if_neg h3] at he
      subst he
      go_wp2_with fail
      all_goals first
        | (exfalso; simp_all; done)
        | (go_ret; exact ⟨rfl, hb⟩)
end Go.Proofs.YtgddmihojladfaaGreatDoor

/- The contract of the closure that reads a field of a head. -/
namespace Go.Proofs.YtgddmihojladfaaGreatDoor
open Go.RowKit

theorem token_len {s : List UInt8} {x : Sf.Itm} (h : Sf.parse s = some x) (h4 : x.kind = 4) : x.text.length ≤ s.length := by
  obtain ⟨v, hv, _, _, hl⟩ := Sf.parse_ok h
  rw [h4] at hv
  unfold Sf.vtext at hv
  split at hv
  · cases hv
  · rw [if_neg (by decide), if_neg (by decide), if_neg (by decide), if_neg (by decide), if_pos rfl] at hv
    split at hv
    · cases hv
      rw [List.length_append] at hl
      omega
    · cases hv
theorem parse_le {s : List UInt8} {x : Sf.Itm} (h : Sf.parse s = some x) : s.length ≤ 4000 := (Sf.parse_ways h).1
/-- What stands while the two answers are made. -/
structure RdyR (w0 : World) (m : Value) (f : List UInt8 → Int) (x : Sf.Itm) (A : Option Addr) (c B : Nat) (W : World) : Prop where
  b : Below w0.heap.size w0 W
  box : IBox W B 4 x.n x.text A c x.params
  map : LooksUp W m f
theorem RdyR.on {w0 : World} {m : Value} {f : List UInt8 → Int} {x : Sf.Itm} {A : Option Addr} {c B : Nat} {W W' : World} (h : RdyR w0 m f x A c B W) (hb : Below W.heap.size W W') : RdyR w0 m f x A c B W' :=
  ⟨Below.onto h.b hb, h.box.keep hb, h.map.below hb⟩
theorem RdyR.drew {w0 : World} {m : Value} {f : List UInt8 → Int} {x : Sf.Itm} {A : Option Addr} {c B : Nat} {W : World} (h : RdyR w0 m f x A c B W) : RdyR w0 m f x A c B W.drew := h.on (Below.refl _ W).drew
theorem RdyR.all {w0 : World} {m : Value} {f : List UInt8 → Int} {x : Sf.Itm} {A : Option Addr} {c B : Nat} {W : World} (h : RdyR w0 m f x A c B W) (hl : x.text.length ≤ maxLen) {y : Int} (hy : f x.text = y) :
    W.cell? ⟨B, 2, none⟩ = some (.string (bA x.text)) ∧ W.cell? ⟨B, 3, none⟩ = some (.slice A x.params.length c) ∧ (Instr.lookup 47 m (.string (bA x.text)) false).run Tryz.prog W = .ok (.int .i64 y) W ∧ RdyR w0 m f x A c B W := by
  obtain ⟨_, _, c2, c3⟩ := h.box.cells
  exact ⟨c2, c3, by rw [← hy]; exact h.map.run x.text hl, h⟩
theorem RdyR.end {w0 : World} {m : Value} {f : List UInt8 → Int} {x : Sf.Itm} {A : Option Addr} {c B : Nat} {W : World} (h : RdyR w0 m f x A c B W) (hk : (Sf.keys x.params).Nodup) :
    Calls Tryz.prog 43 #[.slice A x.params.length c] W fun e w' => e = .returned (.string (bA (Co.endp x.params))) ∧ Below W.heap.size W w' :=
  endpoint_any A c x.params.length x.params W rfl (let ⟨_, hr⟩ := h.box.row; own_len4 hr) hk h.box.seen
set_option maxHeartbeats 1000000 in
set_option maxRecDepth 20000 in
theorem read_any (A : Option Addr) (c n : Nat) (l : List Hd.Hdr) (nm : List UInt8) (m : Value) (f : List UInt8 → Int) (B : Nat) (w : World) (hn : l.length = n) (hl : SmallH l) (hnm : nm.length ≤ 10000) (hA : SeenH w A l)
    (hB : Boxed w B 23 (.slice A n c)) (hm : LooksUp w m f) (h0 : f [] = 0) :
    Calls Tryz.prog 40 #[.string (bA nm), m, .pointer (some ⟨B, 0, none⟩)] w fun e w' => e = .returned (.tuple #[.int .i64 (f (Co.word l nm).1), .string (bA (Co.word l nm).2)]) ∧ Below w.heap.size w w' := by
  have h1 := combined_any A c n l nm w hn hl hnm hA
  have hw := Co.word_comb l nm
  obtain ⟨s, hs⟩ : ∃ s, Hd.comb l nm = s := ⟨_, rfl⟩
  obtain ⟨b, hb⟩ : ∃ b, Hd.hasB l nm = b := ⟨_, rfl⟩
  obtain ⟨W, hW⟩ : ∃ W, Co.word l nm = W := ⟨_, rfl⟩
  obtain ⟨y, hy⟩ : ∃ y, f W.1 = y := ⟨_, rfl⟩
  obtain ⟨z, hz⟩ : ∃ z, W.2 = z := ⟨_, rfl⟩
  rw [hs, hb] at h1
  rw [hs, hW] at hw
  rw [hW, hy, hz]
  have cB := hB.cell
  have H1 := Lib.hid h1; have HM := Lib.hid hm
  clear h1 hs hb hl hA hm hB hW
  rcases ho : Sf.parse s with _ | x
  · rw [ho] at hw
    obtain rfl : W = ([], []) := hw
    obtain rfl : y = 0 := hy.symm.trans h0
    obtain rfl : z = [] := hz.symm
    have H2 := Lib.hid (parse_none ho)
    clear ho hy hz
    go_enter Tryz.func40, Tryz.ntmps40
    go_wp2_with fail
    refine H1.out.mono ?_
    rintro e w1 ⟨rfl, hb1⟩
    go_wp2_with fail
    refine (H2.out _).mono ?_
    rintro e w2 ⟨rfl, hb2⟩
    go_wp2_with fail
    go_ret2
    exact ⟨rfl, below_al (Below.onto hb1 hb2) _⟩
  · rw [ho] at hw
    have hlen := parse_le ho
    have hk := Co.parse_keys ho
    have hx4 : x.kind = 4 → x.text.length ≤ maxLen := fun e => by have := token_len ho e; unfold maxLen; omega
    have H2 := Lib.hid (parse_some ho)
    clear ho
    have HK := Lib.hid hk
    clear hk hlen
    by_cases h4 : x.kind = 4
    · have ew : W = (x.text, Co.endp x.params) := by rw [hw]; unfold Co.ofItem; dsimp only; rw [if_pos h4]
      subst ew
      have HL : Hid (f x.text = y ∧ x.text.length ≤ maxLen) := Lib.hid ⟨hy, hx4 h4⟩
      dsimp only at hz
      subst hz
      clear hx4 hy
      go_enter Tryz.func40, Tryz.ntmps40
      go_wp2_with fail
      refine H1.out.mono ?_
      rintro e w1 ⟨rfl, hb1⟩
      go_wp2_with fail
      refine (H2.out _).mono ?_
      rintro e w2 ⟨A2, c2, rfl, hb2, hr⟩
      rw [h4]
      have hb3 := below_al (Below.onto hb1 hb2) (.cells (iC 4 x.n x.text (.slice A2 x.params.length c2)) 66)
      have hr0 : RdyR w m f x A2 c2 w2.heap.size (w2.alloc (.cells (iC 4 x.n x.text (.slice A2 x.params.length c2)) 66)) := ⟨hb3, IBox.new (k := 4) (n := x.n) (t := x.text) hr, HM.out.below hb3⟩
      clear hr hb3 hb1 hb2
      unfold iC at hr0
      go_wp2_with fail
      go_region_held3 (fun W => W.cell? ⟨w2.heap.size, 2, none⟩ = some (.string (bA x.text)) ∧ W.cell? ⟨w2.heap.size, 3, none⟩ = some (.slice A2 x.params.length c2) ∧ (Instr.lookup 47 m (.string (bA x.text)) false).run Tryz.prog W = .ok (.int .i64 y) W ∧ RdyR w m f x A2 c2 w2.heap.size W)
        (first
          | exact hr0.all HL.out.2 HL.out.1
          | exact hr0.drew.all HL.out.2 HL.out.1
          | exact hr3.all HL.out.2 HL.out.1)
        (first
          | (go_at_call 43; refine (hr0.drew.end HK.out).mono ?_; rintro e w3 ⟨rfl, hb3⟩; have hr3 := hr0.drew.on hb3))
      all_goals
        rename_i hHeld
        clear hHeld
        try go_wp2_with fail
        go_ret2
        exact ⟨rfl, hr3.b⟩
    · have ew : W = ([], []) := by rw [hw]; unfold Co.ofItem; dsimp only; rw [if_neg h4]
      subst ew
      obtain rfl : y = 0 := hy.symm.trans h0
      obtain rfl : z = [] := hz.symm
      have h4b : (x.kind != 4) = true := by simpa using h4
      clear hx4 hw hy hz
      go_enter Tryz.func40, Tryz.ntmps40
      go_wp2_with fail
      refine H1.out.mono ?_
      rintro e w1 ⟨rfl, hb1⟩
      go_wp2_with fail
      refine (H2.out _).mono ?_
      rintro e w2 ⟨A2, c2, rfl, hb2, hr⟩
      go_wp2_with fail
      all_goals first
        | (exfalso; simp_all; done)
        | (go_ret2; exact ⟨rfl, below_al (Below.onto hb1 hb2) _⟩)
end Go.Proofs.YtgddmihojladfaaGreatDoor
