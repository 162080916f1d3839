/- The contract of the document's With. -/
import Derived.Test.YtgddmihojladfaaGreatDoorSfSeen
import Derived.Deep.QuietTactic
import Derived.BigQuiet
namespace Go.Proofs.YtgddmihojladfaaGreatDoor
open Go.RowKit Go.Shelf Go.Maps Go.Deep

def hasK (l : List Sf.Par) (p : Sf.Par) : Bool := l.any fun q => q.key == p.key
def repL (l : List Sf.Par) (p : Sf.Par) (j : Nat) : List Sf.Par := (l.take j).map (Sf.rep p)
structure WInv (w : World) (l : List Sf.Par) (p : Sf.Par) (j : Nat) (v : Value) (wr : World) : Prop where
  row : wr.ownsRow (w.heap.size + 1) 72 4 v j (parsRow (repL l p j))
  box : CBox wr w.heap.size 72 (pC p)
  below : Below w.heap.size w wr
  sz : w.heap.size + 1 ≤ wr.heap.size
theorem repL_next {l : List Sf.Par} {p q : Sf.Par} {j : Nat} (h : j < l.length) (hq : Sf.rep p l[j] = q) : repL l p (j + 1) = repL l p j ++ [q] := by
  unfold repL
  rw [List.take_succ_eq_append_getElem h, List.map_append, List.map_singleton, hq]
theorem hasK_next {l : List Sf.Par} {p : Sf.Par} {j : Nat} (h : j < l.length) : hasK (l.take (j + 1)) p = (hasK (l.take j) p || l[j].key == p.key) := by
  unfold hasK
  rw [List.take_succ_eq_append_getElem h, List.any_append]; simp
theorem put_yes {l : List Sf.Par} {p : Sf.Par} (h : hasK l p = true) : Sf.put l p = repL l p l.length := by
  unfold Sf.put repL
  rw [if_pos (by exact h), List.take_length]; rfl
theorem hasK_keys (l : List Sf.Par) (p : Sf.Par) : hasK l p = true ↔ p.key ∈ Sf.keys l := by
  unfold hasK Sf.keys
  simp
theorem put_no {l : List Sf.Par} {p : Sf.Par} (h : hasK l p = false) : Sf.put l p = repL l p l.length ++ [p] := by
  have hn : p.key ∉ Sf.keys l := by rw [← hasK_keys, h]; simp
  unfold repL
  rw [Sf.put_new hn, List.take_length, Sf.rep_none hn]
theorem WInv.app {w wr w7 : World} {l : List Sf.Par} {p q : Sf.Par} {j : Nat} {v v7 : Value} (h : WInv w l p j v wr) (o : Obj) (hown : w7.ownsRow (w.heap.size + 1) 72 4 v7 (j + 1) (parsRow (repL l p j) ++ [.string (bA q.key), .int .i64 q.kind, .int .i64 q.n, .string (bA q.text)])) (hg : (wr.alloc o).grownBy w7 v.ownBlock) :
    w7.ownsRow (w.heap.size + 1) 72 4 v7 (j + 1) (parsRow (repL l p j ++ [q])) ∧ CBox w7 w.heap.size 72 (pC p) ∧ Below w.heap.size w w7 ∧ w.heap.size + 1 ≤ w7.heap.size := by
  have hsz := h.sz
  have hs7 := hg.size
  simp at hs7
  refine ⟨by rw [parsRow_snoc]; exact hown, (h.box.alloc o).kept hg (own_ne4 h.row (by omega)), (below_al h.below o).grown hg (by simp; omega) (fun k hk => by have := (h.row.lt k hk).1; omega), by omega⟩

theorem WInv.drew {w wr : World} {l : List Sf.Par} {p : Sf.Par} {j : Nat} {v : Value} (h : WInv w l p j v wr) (q : Nat) : WInv w l p j v (wr.drewN q) := ⟨h.row, h.box, ⟨h.below.os, h.below.tape, h.below.output, h.below.size, h.below.block⟩, h.sz⟩
set_option maxHeartbeats 4000000 in
set_option maxRecDepth 100000 in
theorem rwith_any (A : Option Addr) (cp : Nat) (l : List Sf.Par) (p : Sf.Par) (w : World) (hA : SeenP w A l) (hl : l.length ≤ 1000000) :
    Calls Tryz.prog 93 #[.slice A l.length cp, parV p] w fun e w' => ∃ v, e = .returned v ∧ Below w.heap.size w w' ∧ w'.ownsRow w.heap.size 72 4 v (Sf.put l p).length (parsRow (Sf.put l p)) := by
  obtain ⟨i0, hi, hz0, hz1, hz2⟩ := info_parts info_par
  have HI := Lib.hid hi; have HZ0 := Lib.hid hz0; have HZ1 := Lib.hid hz1; have HZ2 := Lib.hid hz2
  have hst : WInv w l p 0 (.slice none 0 0) (w.alloc (.cells (pC p) 72)) := ⟨World.ownsRow_nil _ _ _ _, CBox.new _ _ _, (Below.refl _ _).alloc (Nat.le_refl _) _, by simp⟩
  have HS := Lib.hid hst
  have HA := Lib.hid hA
  have HB0 := Lib.hid (CBox.new w 72 (pC p))
  clear hi hz0 hz1 hz2 hst hA
  unfold parV pC
  go_enter Tryz.func93, Tryz.ntmps93
  go_wp2_with fail
  go_loopg [5, 6, 7] l.length (fun k v dn i wr => ∃ j, l.length - j = k ∧ j ≤ l.length ∧ i = .int .i64 ((j : Nat) : Int) ∧ dn = .bool (hasK (l.take j) p) ∧ WInv w l p j v wr)
  case atStart => exact ⟨0, rfl, Nat.zero_le _, rfl, rfl, HS.out⟩
  case round =>
    obtain ⟨j, hk, hj, rfl, rfl, hI⟩ := hrel
    obtain ⟨va, vc, rfl⟩ := slice4 hI.row
    have HV := Lib.hid hI
    have hsz := hI.sz
    clear hI HS
    by_cases hjl : j < l.length
    · obtain ⟨g, of, rfl, hab, hcell⟩ := HA.out.below HV.out.below (by omega)
      obtain ⟨a0, a1, a2, a3⟩ := hcell j hjl
      obtain ⟨c0, c1, c2, c3, _, _, _, _⟩ := HV.out.box.all4
      obtain ⟨q, hq⟩ : ∃ q, l[j] = q := ⟨_, rfl⟩
      rw [hq] at a0 a1 a2 a3
      have HQ := Lib.hid hq
      clear hq hcell
      go_wp2_with fail
      go_quiet (fail)
      have HV5 := Lib.hid (HV.out.drew nq)
      obtain ⟨w5, hw5⟩ : ∃ w5, wr.drewN nq = w5 := ⟨_, rfl⟩
      have hab5 : g < w5.heap.size := by rw [← hw5]; exact hab
      have hsz5 : w.heap.size + 1 ≤ w5.heap.size := by rw [← hw5]; exact hsz
      have b0 : w5.cell? ⟨g, of + j * 4, none⟩ = some (.string (bA q.key)) := by rw [← hw5]; exact a0
      have b1 : w5.cell? ⟨g, of + j * 4 + 1, none⟩ = some (.int .i64 q.kind) := by rw [← hw5]; exact a1
      have b2 : w5.cell? ⟨g, of + j * 4 + 2, none⟩ = some (.int .i64 q.n) := by rw [← hw5]; exact a2
      have b3 : w5.cell? ⟨g, of + j * 4 + 3, none⟩ = some (.string (bA q.text)) := by rw [← hw5]; exact a3
      rw [hw5] at HV5 ⊢
      have HK := Lib.hid (hasK_next (p := p) hjl)
      rw [HQ.out] at HK
      clear a0 a1 a2 a3 c0 c1 c2 c3 hab hsz hw5 HV
      obtain ⟨c0, c1, c2, c3, _, _, _, _⟩ := HV5.out.box.all4
      cases hb : (q.key == p.key) with
      | true =>
        have HRP : Hid (Sf.rep p q = p) := Lib.hid (by unfold Sf.rep; rw [if_pos hb])
        rw [hb] at HK
        clear hb b0 b1 b2 b3
        go_wp2_with (at_builtin; refine wpList_append_own _ rfl _ _ 64 rfl (w.heap.size + 1) 72 i0 (.agg zP) 4 48 Tryz.underlying64 HI.out HZ0.out HZ1.out HZ2.out rfl (by decide) _ _ _ rfl (HV5.out.row.alloc _) ⟨w5.heap.size, 0, none⟩ 1 1 [.string (bA p.key), .int .i64 p.kind, .int .i64 p.n, .string (bA p.text)] rfl rfl (cells_new _ #[.string (bA p.key), .int .i64 p.kind, .int .i64 p.n, .string (bA p.text)] _) ?_ ?_ ?_ ?_ ?_)
        · intro u hu; simp at hu; rcases hu with rfl | rfl | rfl | rfl <;> rfl
        · unfold maxLen; omega
        · omega
        · simp; omega
        intro v' w7 hown7 hg7 _
        obtain ⟨r1, r2, r3, r4⟩ := HV5.out.app (q := p) _ hown7 hg7
        obtain ⟨va7, vc7, rfl⟩ := slice4 hown7
        have HR : Hid (WInv w l p (j + 1) (.slice va7 (j + 1) vc7) w7) := Lib.hid ⟨by rw [repL_next hjl (by rw [HQ.out]), HRP.out]; exact r1, r2, r3, r4⟩
        clear hown7 hg7 r1 r2 r3 r4
        go_wp2_with fail
        go_roundg (l.length - (j + 1))
        case measure => omega
        case rel => exact ⟨j + 1, rfl, by omega, by go_num, by rw [HK.out, Bool.or_true], HR.out⟩
      | false =>
        have HRP : Hid (Sf.rep p q = q) := Lib.hid (by unfold Sf.rep; rw [if_neg (by rw [hb]; simp)])
        rw [hb] at HK
        clear hb c0 c1 c2 c3
        go_wp2_with (at_builtin; refine wpList_append_own _ rfl _ _ 64 rfl (w.heap.size + 1) 72 i0 (.agg zP) 4 48 Tryz.underlying64 HI.out HZ0.out HZ1.out HZ2.out rfl (by decide) _ _ _ rfl (HV5.out.row.alloc _) ⟨w5.heap.size, 0, none⟩ 1 1 [.string (bA q.key), .int .i64 q.kind, .int .i64 q.n, .string (bA q.text)] rfl rfl (cells_new _ #[.string (bA q.key), .int .i64 q.kind, .int .i64 q.n, .string (bA q.text)] _) ?_ ?_ ?_ ?_ ?_)
        · intro u hu; simp at hu; rcases hu with rfl | rfl | rfl | rfl <;> rfl
        · unfold maxLen; omega
        · omega
        · simp; omega
        intro v' w7 hown7 hg7 _
        obtain ⟨r1, r2, r3, r4⟩ := HV5.out.app (q := q) _ hown7 hg7
        obtain ⟨va7, vc7, rfl⟩ := slice4 hown7
        have HR : Hid (WInv w l p (j + 1) (.slice va7 (j + 1) vc7) w7) := Lib.hid ⟨by rw [repL_next hjl (by rw [HQ.out]), HRP.out]; exact r1, r2, r3, r4⟩
        clear hown7 hg7 r1 r2 r3 r4
        go_wp2_with fail
        go_roundg (l.length - (j + 1))
        case measure => omega
        case rel => exact ⟨j + 1, rfl, by omega, by go_num, by rw [HK.out, Bool.or_false], HR.out⟩
    · have hjj : j = l.length := by omega
      subst hjj
      rw [List.take_length]
      cases hb : hasK l p with
      | true =>
        have hp := put_yes hb
        have hpl : (repL l p l.length).length = l.length := by unfold repL; simp
        have HP := Lib.hid hp
        have HPL := Lib.hid hpl
        clear hb hp hpl
        go_wp2_with fail
        go_ret
        refine ⟨_, rfl, HV.out.below, ?_⟩
        rw [HP.out, HPL.out]
        exact owns_base4 HV.out.row (by omega)
      | false =>
        have hp := put_no hb
        have hpl : (repL l p l.length ++ [p]).length = l.length + 1 := by unfold repL; simp
        have HP := Lib.hid hp
        have HPL := Lib.hid hpl
        have HV5 := HV
        obtain ⟨w5, rfl⟩ : ∃ w5, wr = w5 := ⟨_, rfl⟩
        obtain ⟨c0, c1, c2, c3, _, _, _, _⟩ := HV5.out.box.all4
        clear hb hp hpl
        go_wp2_with (at_builtin; refine wpList_append_own _ rfl _ _ 64 rfl (w.heap.size + 1) 72 i0 (.agg zP) 4 48 Tryz.underlying64 HI.out HZ0.out HZ1.out HZ2.out rfl (by decide) _ _ _ rfl (HV5.out.row.alloc _) ⟨wr.heap.size, 0, none⟩ 1 1 [.string (bA p.key), .int .i64 p.kind, .int .i64 p.n, .string (bA p.text)] rfl rfl (cells_new _ #[.string (bA p.key), .int .i64 p.kind, .int .i64 p.n, .string (bA p.text)] _) ?_ ?_ ?_ ?_ ?_)
        · intro u hu; simp at hu; rcases hu with rfl | rfl | rfl | rfl <;> rfl
        · unfold maxLen; omega
        · omega
        · simp; omega
        intro v' w7 hown7 hg7 _
        obtain ⟨r1, r2, r3, r4⟩ := HV5.out.app (q := p) _ hown7 hg7
        obtain ⟨va7, vc7, rfl⟩ := slice4 hown7
        have HR := Lib.hid r1
        have HB := Lib.hid r3
        clear hown7 hg7 r1 r2 r3 r4
        go_wp2_with fail
        go_ret
        refine ⟨_, rfl, HB.out, ?_⟩
        rw [HP.out, HPL.out]
        exact owns_base4 HR.out (by omega)
end Go.Proofs.YtgddmihojladfaaGreatDoor
