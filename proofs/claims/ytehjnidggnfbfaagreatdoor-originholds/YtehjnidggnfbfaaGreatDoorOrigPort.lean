/- The contract of origin's defaultPort. -/
import Derived.Test.YtehjnidggnfbfaaGreatDoorOrigMath
import Derived.Test.YtehjnidggnfbfaaGreatDoorOrigBare
namespace Go.Proofs.YtehjnidggnfbfaaGreatDoor
open Go.RowKit
open Go.Maps Go.WideMaps

theorem look_port {w : World} {B : Nat} (h : w.ownsMap Tryz.prog 9 (plainElem Tryz.prog 3) B 2 dMap) (s : List UInt8) (hl : s.length ≤ maxLen) :
    (Instr.lookup 52 (.map (some B)) (.string (bA s)) true).run Tryz.prog w = .ok (.tuple #[.int .i64 (dport s), .bool (Urp.netB s)]) w := by
  obtain ⟨v, ps, hr, hv⟩ := h.look_ok lawS Tryz.underlying52 (zeroI w) (plainElem_int Tryz.underlying3 (by decide)) (key := .string (bA s)) (keyOf_string_mk Tryz.underlying9 hl)
  obtain ⟨c, rfl, hc, _⟩ := plainElem_int_inv Tryz.underlying3 hv
  rw [hr]
  have e0 : (bA s).data.toList = s := rfl
  rw [e0] at hc ⊢
  have hd : (dMap : DataW Unit) = .map [(.string Urp.sHttp, .lit (.int .i64 80)), (.string Urp.sHttps, .lit (.int .i64 443))] := by rfl
  rw [hd] at hc ⊢
  by_cases h1 : s = Urp.sHttp
  · subst h1
    have := congrArg Prod.fst hc
    have e : (DataW.map [(Lit.string Urp.sHttp, DataW.lit (.int .i64 80)), (.string Urp.sHttps, .lit (.int .i64 443))] : DataW Unit).atKey (.string Urp.sHttp) (.lit (.int .i64 0)) = .lit (.int .i64 80) := by rfl
    rw [e] at this
    rw [← (Lit.int.inj (DataW.lit.inj this)).2]; rfl
  · by_cases h2 : s = Urp.sHttps
    · subst h2
      have := congrArg Prod.fst hc
      have e : (DataW.map [(Lit.string Urp.sHttp, DataW.lit (.int .i64 80)), (.string Urp.sHttps, .lit (.int .i64 443))] : DataW Unit).atKey (.string Urp.sHttps) (.lit (.int .i64 0)) = .lit (.int .i64 443) := by rfl
      rw [e] at this
      rw [← (Lit.int.inj (DataW.lit.inj this)).2]; rfl
    · have hn : Urp.netB s = false := by unfold Urp.netB; simp [h1, h2]
      have n1 : ¬ Urp.sHttp = s := fun h => h1 h.symm
      have n2 : ¬ Urp.sHttps = s := fun h => h2 h.symm
      have := congrArg Prod.fst hc
      have e : (DataW.map [(Lit.string Urp.sHttp, DataW.lit (.int .i64 80)), (.string Urp.sHttps, .lit (.int .i64 443))] : DataW Unit).atKey (.string s) (.lit (.int .i64 0)) = .lit (.int .i64 0) := by
        simp [DataW.atKey, Lit.sameKey, n1, n2]
      rw [e] at this
      rw [← (Lit.int.inj (DataW.lit.inj this)).2]
      have e3 : Maps.has (DataW.map [(Lit.string Urp.sHttp, DataW.lit (.int .i64 80)), (.string Urp.sHttps, .lit (.int .i64 443))] : DataW Unit) (.string s) = false := by
        simp [Maps.has, Lit.sameKey, n1, n2]
      rw [e3]
      unfold dport
      rw [hn]; rfl

set_option maxHeartbeats 1000000 in
theorem defaultPort_any (s : List UInt8) (w : World) (hl : s.length ≤ maxLen) : Calls Tryz.prog 20 #[.string (bA s)] w fun e w' => e = .returned (.tuple #[.int .i64 (dport s), .bool (Urp.netB s)]) ∧ Below w.heap.size w w' := by
  have hmm := @run_makeMap Tryz.prog
  obtain ⟨w1, w2, r1, r2, o2, hb⟩ := map_made w
  have hlk := look_port o2 s hl
  obtain ⟨x, hx⟩ : ∃ x, dport s = x := ⟨_, rfl⟩
  obtain ⟨y, hy⟩ : ∃ y, Urp.netB s = y := ⟨_, rfl⟩
  rw [hx, hy] at hlk ⊢
  have HB := Lib.hid hb
  clear hx hy o2 hb
  unfold maxLen at hl
  go_enter Tryz.func20, Tryz.ntmps20
  go_wp2_with fail
  go_ret2
  exact ⟨rfl, HB.out⟩
end Go.Proofs.YtehjnidggnfbfaaGreatDoor
