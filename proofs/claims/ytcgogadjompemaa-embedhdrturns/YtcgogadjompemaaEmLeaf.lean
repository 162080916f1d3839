/- The contracts of embedhdr's leaves: the map of resource policies' words; what a word of frame options means; the document's Has. -/
import Derived.Test.YtcgogadjompemaaEmMath2
import Derived.Test.YtcgogadjompemaaHdIter
import Derived.Maps.Own
import Derived.Maps.Views
import Derived.Maps.OwnSet
import Derived.Maps.RangeWalk
namespace Go.Proofs.Ytcgogadjompemaa
open Go.RowKit
open Go.Maps Go.WideMaps

theorem emLaw : Keyed Try.prog 9 := string_keyed Try.underlying9
theorem emZero (w : World) : (zeroValue 3).run Try.prog w = .ok (.int .i64 0) w := by kernel_rfl
def m3 (k1 : List UInt8) (v1 : Int) (k2 : List UInt8) (v2 : Int) (k3 : List UInt8) (v3 : Int) : DataW Unit := (((DataW.map []).put (.string k1) (.lit (.int .i64 v1))).put (.string k2) (.lit (.int .i64 v2))).put (.string k3) (.lit (.int .i64 v3))
theorem m3_at (k1 k2 k3 s : List UInt8) (v1 v2 v3 : Int) : (m3 k1 v1 k2 v2 k3 v3).atKey (.string s) (.lit (.int .i64 0)) = .lit (.int .i64 (if s = k3 then v3 else if s = k2 then v2 else if s = k1 then v1 else 0)) := by
  unfold m3
  by_cases h3 : s = k3
  · rw [if_pos h3]; subst h3
    exact atKey_put_same ⟨_, rfl⟩ (by trivial) _ _
  · rw [if_neg h3, atKey_put_other (fun e => h3 (Lit.string.inj e))]
    by_cases h2 : s = k2
    · rw [if_pos h2]; subst h2
      exact atKey_put_same ⟨_, rfl⟩ (by trivial) _ _
    · rw [if_neg h2, atKey_put_other (fun e => h2 (Lit.string.inj e))]
      by_cases h1 : s = k1
      · rw [if_pos h1]; subst h1
        exact atKey_put_same ⟨_, rfl⟩ (by trivial) _ _
      · rw [if_neg h1, atKey_put_other (fun e => h1 (Lit.string.inj e))]
        rfl
/-- A map that answers f of any text. -/
def LooksE (w : World) (v : Value) (f : List UInt8 → Int) : Prop := ∃ B, ∃ d : DataW Unit, v = .map (some B) ∧ w.ownsMap Try.prog 9 (plainElem Try.prog 3) B 3 d ∧ ∀ s, d.atKey (.string s) (.lit (.int .i64 0)) = .lit (.int .i64 (f s))
theorem LooksE.run {w : World} {v : Value} {f : List UInt8 → Int} (h : LooksE w v f) (s : List UInt8) (hs : s.length ≤ maxLen) : (Instr.lookup 38 v (.string (bA s)) false).run Try.prog w = .ok (.int .i64 (f s)) w := by
  obtain ⟨B, d, rfl, ho, hf⟩ := h
  obtain ⟨c, hr, hat, _⟩ := ho.lookup_int emLaw Try.underlying38 Try.underlying3 (emZero w) (key := .string (bA s)) (keyOf_string_mk Try.underlying9 (by rw [bA_size]; exact hs))
  rw [hr]
  have e : d.atKey (.string (bA s).data.toList) (.lit (.int .i64 0)) = .lit (.int .i64 (f s)) := hf s
  rw [e] at hat
  rw [← (Lit.int.inj (DataW.lit.inj hat)).2]
theorem three_made (w : World) (k1 k2 k3 : List UInt8) (v1 v2 v3 : Int) (l1 : k1.length ≤ maxLen) (l2 : k2.length ≤ maxLen) (l3 : k3.length ≤ maxLen) (i1 : (Lit.int .i64 v1).wf = true) (i2 : (Lit.int .i64 v2).wf = true) (i3 : (Lit.int .i64 v3).wf = true) :
    ∃ w1 w2 w3 : World, (Instr.mapUpdate 38 (.map (some w.heap.size)) (.string (bA k1)) (.int .i64 v1)).run Try.prog (w.alloc (.map #[] 0)) = .ok () w1 ∧
    (Instr.mapUpdate 38 (.map (some w.heap.size)) (.string (bA k2)) (.int .i64 v2)).run Try.prog w1 = .ok () w2 ∧
    (Instr.mapUpdate 38 (.map (some w.heap.size)) (.string (bA k3)) (.int .i64 v3)).run Try.prog w2 = .ok () w3 ∧ Below w.heap.size w w3 ∧
    LooksE w3 (.map (some w.heap.size)) fun s => if s = k3 then v3 else if s = k2 then v2 else if s = k1 then v1 else 0 := by
  obtain ⟨w1, r1, o1, g1⟩ := (World.ownsMap_made (H := Unit) w Try.prog 9 (plainElem Try.prog 3)).update emLaw Try.underlying38 (by unfold maxLen; omega) (key := .string (bA k1)) (val := .int .i64 v1) (keyOf_string_mk Try.underlying9 (by rw [bA_size]; exact l1)) (plainElem_int Try.underlying3 i1)
  obtain ⟨w2, r2, o2, g2⟩ := o1.update emLaw Try.underlying38 (by unfold maxLen; omega) (key := .string (bA k2)) (val := .int .i64 v2) (keyOf_string_mk Try.underlying9 (by rw [bA_size]; exact l2)) (plainElem_int Try.underlying3 i2)
  obtain ⟨w3, r3, o3, g3⟩ := o2.update emLaw Try.underlying38 (by unfold maxLen; omega) (key := .string (bA k3)) (val := .int .i64 v3) (keyOf_string_mk Try.underlying9 (by rw [bA_size]; exact l3)) (plainElem_int Try.underlying3 i3)
  have hb0 : Below w.heap.size w (w.alloc (.map #[] 0)) := (Below.refl _ w).alloc (Nat.le_refl _) _
  have hb1 := hb0.grown g1 (by simp) (fun j hj => by cases hj; exact Nat.le_refl _)
  have hb2 := hb1.grown g2 hb1.size (fun j hj => by cases hj; exact Nat.le_refl _)
  have hb3 := hb2.grown g3 hb2.size (fun j hj => by cases hj; exact Nat.le_refl _)
  exact ⟨w1, w2, w3, r1, r2, r3, hb3, ⟨w.heap.size, m3 k1 v1 k2 v2 k3 v3, rfl, o3, fun s => m3_at k1 k2 k3 s v1 v2 v3⟩⟩
theorem corp_turned (s : List UInt8) : Em.corpW s = if s = Em.wCO then 3 else if s = Em.wSS then 2 else if s = Em.wSO then 1 else 0 := by
  unfold Em.corpW
  by_cases h : s = Em.wSO
  · subst h; rw [if_pos rfl, if_neg (show ¬ Em.wSO = Em.wCO by decide), if_neg (show ¬ Em.wSO = Em.wSS by decide), if_pos rfl]
  · rw [if_neg h]
    by_cases h2 : s = Em.wSS
    · subst h2; rw [if_pos rfl, if_neg (show ¬ Em.wSS = Em.wCO by decide), if_pos rfl]
    · rw [if_neg h2, if_neg h2, if_neg h]
set_option maxRecDepth 20000 in
theorem resourceValues_any (w : World) : Calls Try.prog 21 #[] w fun e w' => ∃ v, e = .returned v ∧ Below w.heap.size w w' ∧ LooksE w' v Em.corpW := by
  have hmm := @run_makeMap Try.prog
  obtain ⟨w1, w2, w3, r1, r2, r3, hb, hl⟩ := three_made w Em.wSO Em.wSS Em.wCO 1 2 3 (by decide) (by decide) (by decide) (by decide) (by decide) (by decide)
  rw [← funext corp_turned] at hl
  have HB := Lib.hid hb; have HL := Lib.hid hl
  clear hb hl
  unfold bA Em.wSO at r1; unfold bA Em.wSS at r2; unfold bA Em.wCO at r3
  go_enter Try.func21, Try.ntmps21
  go_wp2_with fail
  go_ret
  exact ⟨_, rfl, HB.out, HL.out⟩

/-! ### what a word of frame options means -/
/-- A word's meaning: alone, or one of several. -/
def optW (s : List UInt8) (m : Bool) : Int := if s = Em.xA then (if m then 1 else 3) else if s = Em.xS then (if m then 1 else 2) else if s = Em.xD then 1 else 0
theorem frameOption_any (s : List UInt8) (m : Bool) (w : World) : Calls Try.prog 24 #[.string (bA s), .bool m] w fun e w' => e = .returned (.int .i64 (optW s m)) ∧ w = w' := by
  unfold optW
  by_cases h1 : s = Em.xA
  · rw [if_pos h1]
    have e1 : (s == Em.xA) = true := beq_iff_eq.2 h1
    unfold Em.xA at e1
    clear h1
    cases m with
    | true =>
      go_enter Try.func24, Try.ntmps24
      go_wp2_with fail
      go_ret
      exact ⟨rfl, rfl⟩
    | false =>
      go_enter Try.func24, Try.ntmps24
      go_wp2_with fail
      go_ret
      exact ⟨rfl, rfl⟩
  · rw [if_neg h1]
    have e1 : (s == Em.xA) = false := beq_eq_false_iff_ne.2 h1
    unfold Em.xA at e1
    clear h1
    by_cases h2 : s = Em.xS
    · rw [if_pos h2]
      have e2 : (s == Em.xS) = true := beq_iff_eq.2 h2
      unfold Em.xS at e2
      clear h2
      cases m with
      | true =>
        go_enter Try.func24, Try.ntmps24
        go_wp2_with fail
        go_ret
        exact ⟨rfl, rfl⟩
      | false =>
        go_enter Try.func24, Try.ntmps24
        go_wp2_with fail
        go_ret
        exact ⟨rfl, rfl⟩
    · rw [if_neg h2]
      have e2 : (s == Em.xS) = false := beq_eq_false_iff_ne.2 h2
      unfold Em.xS at e2
      clear h2
      by_cases h3 : s = Em.xD
      · rw [if_pos h3]
        have e3 : (s == Em.xD) = true := beq_iff_eq.2 h3
        unfold Em.xD at e3
        clear h3
        go_enter Try.func24, Try.ntmps24
        go_wp2_with fail
        go_ret
        exact ⟨rfl, rfl⟩
      · rw [if_neg h3]
        have e3 : (s == Em.xD) = false := beq_eq_false_iff_ne.2 h3
        unfold Em.xD at e3
        clear h3
        go_enter Try.func24, Try.ntmps24
        go_wp2_with fail
        go_ret
        exact ⟨rfl, rfl⟩
/-- A word that means something settles what the frame options are, whichever it is. -/
theorem opt_found {ws : List (List UInt8)} {s : List UInt8} (hs : s ∈ ws) (h : optW s (Em.many ws) ≠ 0) : Em.xfoW ws = optW s (Em.many ws) := by
  cases hm : Em.many ws with
  | true =>
    rw [hm] at h
    have hk : Em.xD ∈ ws ∨ Em.xS ∈ ws ∨ Em.xA ∈ ws := by
      unfold optW at h
      by_cases h1 : s = Em.xA
      · exact .inr (.inr (h1 ▸ hs))
      · by_cases h2 : s = Em.xS
        · exact .inr (.inl (h2 ▸ hs))
        · by_cases h3 : s = Em.xD
          · exact .inl (h3 ▸ hs)
          · rw [if_neg h1, if_neg h2, if_neg h3] at h; exact absurd rfl h
    have e : optW s true = 1 := by
      unfold optW at h ⊢
      by_cases h1 : s = Em.xA
      · rw [if_pos h1]; rfl
      · by_cases h2 : s = Em.xS
        · rw [if_neg h1, if_pos h2]; rfl
        · by_cases h3 : s = Em.xD
          · rw [if_neg h1, if_neg h2, if_pos h3]
          · rw [if_neg h1, if_neg h2, if_neg h3] at h; exact absurd rfl h
    unfold Em.xfoW
    rw [if_pos hm, if_pos hk, e]
  | false =>
    rw [hm] at h
    have hall : ∀ x ∈ ws, x = s := fun x hx => Em.alone hm hx hs
    unfold Em.xfoW
    rw [if_neg (by rw [hm]; simp)]
    unfold optW at h ⊢
    by_cases h1 : s = Em.xA
    · have n1 : Em.xD ∉ ws := fun hx => absurd ((hall _ hx).trans h1) (by decide)
      have n2 : Em.xS ∉ ws := fun hx => absurd ((hall _ hx).trans h1) (by decide)
      rw [if_neg n1, if_neg n2, if_pos (h1 ▸ hs), if_pos h1]; rfl
    · by_cases h2 : s = Em.xS
      · have n1 : Em.xD ∉ ws := fun hx => absurd ((hall _ hx).trans h2) (by decide)
        rw [if_neg n1, if_pos (h2 ▸ hs), if_neg h1, if_pos h2]; rfl
      · by_cases h3 : s = Em.xD
        · rw [if_pos (h3 ▸ hs), if_neg h1, if_neg h2, if_pos h3]
        · rw [if_neg h1, if_neg h2, if_neg h3] at h; exact absurd rfl h
theorem opt_none {ws : List (List UInt8)} {m : Bool} (h : ∀ s ∈ ws, optW s m = 0) : Em.xfoW ws = 0 := by
  have n1 : Em.xD ∉ ws := fun hx => absurd (h _ hx) (by cases m <;> decide)
  have n2 : Em.xS ∉ ws := fun hx => absurd (h _ hx) (by cases m <;> decide)
  have n3 : Em.xA ∉ ws := fun hx => absurd (h _ hx) (by cases m <;> decide)
  unfold Em.xfoW
  have hk : ¬ (Em.xD ∈ ws ∨ Em.xS ∈ ws ∨ Em.xA ∈ ws) := fun h => h.elim n1 fun h => h.elim n2 n3
  rw [if_neg hk, if_neg n1, if_neg n2, if_neg n3]
  exact ite_self _

/-! ### the set of words -/
/-- A set of words, as a map. -/
def setW (ws : List (List UInt8)) : DataW Unit := setOf (.agg []) (ws.map Lit.string)
theorem setW_nil : setW [] = .map [] := rfl
theorem setW_succ {ws : List (List UInt8)} {k : Nat} (h : k < ws.length) : setW (ws.take (k + 1)) = (setW (ws.take k)).put (.string ws[k]) (.agg []) := by
  unfold setW
  rw [List.take_succ_eq_append_getElem h, List.map_append, List.map_singleton, setOf_snoc]
theorem keyW (ws : List (List UInt8)) : ∀ x ∈ ws.map Lit.string, WideAt.IsKeyLit x := fun x hx => by
  obtain ⟨s, _, rfl⟩ := List.mem_map.1 hx
  trivial
theorem has_setW (ws : List (List UInt8)) (s : List UInt8) : Maps.has (setW ws) (.string s) = true ↔ s ∈ ws := by
  unfold setW
  rw [has_setOf _ _ _ (keyW ws), List.any_eq_true]
  constructor
  · rintro ⟨x, hx, h⟩
    obtain ⟨t, ht, rfl⟩ := List.mem_map.1 hx
    have := (WideAt.sameKey_iff (a := Lit.string t) (b := Lit.string s) trivial).1 h
    rw [← Lit.string.inj this]; exact ht
  · intro h
    exact ⟨.string s, List.mem_map.2 ⟨s, h, rfl⟩, WideAt.sameKey_self trivial⟩
theorem add_put (acc : List (List UInt8)) (w : List UInt8) : addKey (acc.map Lit.string) (.string w) = (Em.put acc w).map Lit.string := by
  unfold addKey Em.put
  by_cases h : w ∈ acc
  · rw [if_pos h, if_pos]
    rw [List.any_eq_true]
    exact ⟨.string w, List.mem_map.2 ⟨w, h, rfl⟩, WideAt.sameKey_self trivial⟩
  · rw [if_neg h, if_neg]
    · simp
    · intro hx
      rw [List.any_eq_true] at hx
      obtain ⟨x, hx, h2⟩ := hx
      obtain ⟨t, ht, rfl⟩ := List.mem_map.1 hx
      have := (WideAt.sameKey_iff (a := Lit.string t) (b := Lit.string w) trivial).1 h2
      exact h (Lit.string.inj this ▸ ht)
theorem fold_put : ∀ (ws acc : List (List UInt8)), (ws.map Lit.string).foldl addKey (acc.map Lit.string) = (ws.foldl Em.put acc).map Lit.string
  | [], _ => rfl
  | w :: ws, acc => by rw [List.map_cons, List.foldl_cons, add_put, fold_put ws, List.foldl_cons]
theorem size_setW (ws : List (List UInt8)) : Maps.size (setW ws) = (Em.uniq ws).length := by
  unfold setW
  rw [size_setOf _ _ (keyW ws)]
  have := fold_put ws []
  rw [List.map_nil] at this
  rw [this, List.length_map]; rfl
theorem many_size (ws : List (List UInt8)) : Em.many ws = decide (1 < Maps.size (setW ws)) := by
  rw [size_setW, ← Em.many_uniq, Em.many_len (Em.uniq_nodup ws)]
/-- What reads as a key of a text IS that text. -/
theorem keyOf_text_inv {P : Program} {k : TypeId} (hk : P.underlying k = some .string) {key : Value} {kl : Lit} (h : keyOf P k key = some kl) : ∃ s : List UInt8, key = .string (bA s) ∧ kl = .string s ∧ s.length ≤ maxLen := by
  rw [keyOf_string hk] at h
  cases key <;> simp [mapKey, hk] at h
  obtain ⟨hl, rfl⟩ := h
  rename_i s
  exact ⟨s.data.toList, rfl, rfl, by simpa using hl⟩
end Go.Proofs.Ytcgogadjompemaa
