/- The contract of urlp's parsePort. -/
import Derived.Test.YtehjnidggnfbfaaGreatDoorUrlpRest
import Derived.Maps.Own
namespace Go.Proofs.YtehjnidggnfbfaaGreatDoor
open Go.RowKit
open Go.Maps Go.WideMaps

def portV (o : Option Int) : Value := match o with | some p => .tuple #[.int .i64 p, .int .i64 0] | none => .tuple #[.int .i64 0, .int .i64 32]
theorem lawS : Keyed Tryz.prog 9 := string_keyed Tryz.underlying9
theorem zeroI (w : World) : (zeroValue 3).run Tryz.prog w = .ok (.int .i64 0) w := by kernel_rfl
def dMap : DataW Unit := ((DataW.map []).put (.string Urp.sHttp) (.lit (.int .i64 80))).put (.string Urp.sHttps) (.lit (.int .i64 443))
theorem map_made (w : World) : ∃ w1 w2 : World, (Instr.mapUpdate 52 (.map (some w.heap.size)) (.string ⟨#[104, 116, 116, 112]⟩) (.int .i64 80)).run Tryz.prog (w.alloc (.map #[] 0)) = .ok () w1 ∧
    (Instr.mapUpdate 52 (.map (some w.heap.size)) (.string ⟨#[104, 116, 116, 112, 115]⟩) (.int .i64 443)).run Tryz.prog w1 = .ok () w2 ∧ w2.ownsMap Tryz.prog 9 (plainElem Tryz.prog 3) w.heap.size 2 dMap ∧ Below w.heap.size w w2 := by
  obtain ⟨w1, r1, o1, g1⟩ := (World.ownsMap_made (H := Unit) w Tryz.prog 9 (plainElem Tryz.prog 3)).update lawS Tryz.underlying52 (by unfold maxLen; omega) (key := .string ⟨#[104, 116, 116, 112]⟩) (val := .int .i64 80) (keyOf_string_mk Tryz.underlying9 (by decide)) (plainElem_int Tryz.underlying3 (by decide))
  obtain ⟨w2, r2, o2, g2⟩ := o1.update lawS Tryz.underlying52 (by unfold maxLen; omega) (key := .string ⟨#[104, 116, 116, 112, 115]⟩) (val := .int .i64 443) (keyOf_string_mk Tryz.underlying9 (by decide)) (plainElem_int Tryz.underlying3 (by decide))
  have hb0 : Below w.heap.size w (w.alloc (.map #[] 0)) := (Below.refl _ w).alloc (Nat.le_refl _) _
  have hb1 := hb0.grown g1 (by simp) (fun j hj => by cases hj; exact Nat.le_refl _)
  have hb2 := hb1.grown g2 hb1.size (fun j hj => by cases hj; exact Nat.le_refl _)
  exact ⟨w1, w2, r1, r2, o2, hb2⟩
theorem look_own {w : World} {B : Nat} (h : w.ownsMap Tryz.prog 9 (plainElem Tryz.prog 3) B 2 dMap) (s : List UInt8) (hs : Urp.netB s = true) :
    (Instr.lookup 52 (.map (some B)) (.string (bA s)) false).run Tryz.prog w = .ok (.int .i64 (Urp.own s)) w := by
  have h2 : s = Urp.sHttp ∨ s = Urp.sHttps := by
    unfold Urp.netB at hs
    rw [Bool.or_eq_true, beq_iff_eq, beq_iff_eq] at hs
    exact hs
  have hl : (bA s).size ≤ maxLen := by
    rcases h2 with rfl | rfl <;> decide
  obtain ⟨c, hr, hat, _⟩ := h.lookup_int lawS Tryz.underlying52 Tryz.underlying3 (zeroI w) (key := .string (bA s)) (keyOf_string_mk Tryz.underlying9 hl)
  rw [hr]
  rcases h2 with rfl | rfl
  · have e : dMap.atKey (.string (bA Urp.sHttp).data.toList) (.lit (.int .i64 0)) = .lit (.int .i64 80) := by rfl
    rw [e] at hat
    rw [← (Lit.int.inj (DataW.lit.inj hat)).2]; rfl
  · have e : dMap.atKey (.string (bA Urp.sHttps).data.toList) (.lit (.int .i64 0)) = .lit (.int .i64 443) := by rfl
    rw [e] at hat
    rw [← (Lit.int.inj (DataW.lit.inj hat)).2]; rfl
theorem own_bd (s : List UInt8) : 0 ≤ Urp.own s ∧ Urp.own s ≤ 443 := by unfold Urp.own; split <;> decide
theorem numV_ok {p : List UInt8} {m : Int} (h : Oct.numOk p m = true) : Oct.numV p m = Oct.val p := by unfold Oct.numV; rw [if_pos h]

set_option maxHeartbeats 1000000 in
theorem parsePort_any (s p : List UInt8) (w : World) (hs : Urp.netB s = true) (hp : p.length ≤ 4000) : Calls Tryz.prog 70 #[.string (bA s), .string (bA p)] w fun e w' => e = .returned (portV (Urp.portOf s p)) ∧ Below w.heap.size w w' := by
  have hnum := fun W => number_any (bA p) 65535 W (by rw [bA_size]; unfold maxLen; omega) (by omega) (by omega)
  have hmm := @run_makeMap Tryz.prog
  obtain ⟨o, ho⟩ : ∃ o, Urp.portOf s p = o := ⟨_, rfl⟩
  rw [ho]
  unfold Urp.portOf at ho
  cases he : p.isEmpty with
  | true =>
    rw [he, if_pos rfl] at ho
    subst ho
    go_enter Tryz.func70, Tryz.ntmps70
    go_wp2_with fail
    go_ret2
    exact ⟨rfl, Below.refl _ _⟩
  | false =>
    rw [he, if_neg (by simp)] at ho
    cases hk : Oct.numOk p 65535 with
    | false =>
      rw [hk, if_neg (by simp)] at ho
      subst ho
      have hnum' : ∀ W, Calls Tryz.prog 95 #[.string (bA p), .int .i64 65535] W fun e w' => e = .returned (.tuple #[.int .i64 (Oct.numV p 65535), .bool false]) ∧ W = w' := fun W => by rw [← hk]; exact hnum W
      have HN := Lib.hid hnum'
      clear hnum hnum' hk
      go_enter Tryz.func70, Tryz.ntmps70
      go_wp2_with fail
      refine (HN.out _).mono ?_
      rintro e w1 ⟨rfl, rfl⟩
      go_wp2_with fail
      go_ret2
      exact ⟨rfl, Below.refl _ _⟩
    | true =>
      rw [hk, if_pos rfl] at ho
      have hnum' : ∀ W, Calls Tryz.prog 95 #[.string (bA p), .int .i64 65535] W fun e w' => e = .returned (.tuple #[.int .i64 (Oct.val p), .bool true]) ∧ W = w' := fun W => by rw [← numV_ok hk, ← hk]; exact hnum W
      have HN := Lib.hid hnum'
      clear hnum hnum' hk
      obtain ⟨w1, w2, r1, r2, o2, hb⟩ := map_made w
      have hlk := look_own o2 s hs
      obtain ⟨x, hx⟩ : ∃ x, Oct.val p = x := ⟨_, rfl⟩
      obtain ⟨y, hy⟩ : ∃ y, Urp.own s = y := ⟨_, rfl⟩
      rw [hx, hy] at ho
      rw [hy] at hlk
      have HX := Lib.hid hx
      have HB := Lib.hid hb
      clear hx hy o2 hb hs
      by_cases hxy : x = y
      · rw [if_pos hxy] at ho
        subst ho
        have hb : (x == y) = true := beq_iff_eq.2 hxy
        clear hxy
        go_enter Tryz.func70, Tryz.ntmps70
        go_wp2_with fail
        refine (HN.out _).mono ?_
        rintro e w3 ⟨rfl, rfl⟩
        rw [HX.out]
        go_wp2_with fail
        go_ret2
        exact ⟨rfl, HB.out⟩
      · rw [if_neg hxy] at ho
        subst ho
        have hb : (x == y) = false := beq_eq_false_iff_ne.2 hxy
        clear hxy
        go_enter Tryz.func70, Tryz.ntmps70
        go_wp2_with fail
        refine (HN.out _).mono ?_
        rintro e w3 ⟨rfl, rfl⟩
        rw [HX.out]
        go_wp2_with fail
        go_ret2
        exact ⟨rfl, HB.out⟩
end Go.Proofs.YtehjnidggnfbfaaGreatDoor
