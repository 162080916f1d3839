/- A map of directives: its elements are slices of texts, told by where they lie. -/
import Derived.Test.YtcmbckacbdiebaaCsRef1
import Derived.Maps.Own
import Derived.Maps.Views
import Derived.Maps.OwnSet
namespace Go.Proofs.Ytcmbckacbdiebaa
open Go.RowKit
open Go.Maps Go.WideMaps

/-- A slice, told by its length, its room, and where it lies. -/
def sliceD (A : Option Addr) (n c : Nat) : DataW Unit := .agg (.lit (.int .i64 n) :: .lit (.int .i64 c) :: match A with | none => [] | some a => [.lit (.int .i64 a.block), .lit (.int .i64 a.off)])
def sliceElem : Value → Option (DataW Unit × List MemPlace)
  | .slice none n c => some (sliceD none n c, [])
  | .slice (some ⟨g, o, none⟩) n c => some (sliceD (some ⟨g, o, none⟩) n c, [])
  | _ => none
/-- An address of a cell, or none. -/
def Plain (A : Option Addr) : Prop := A = none ∨ ∃ g o, A = some ⟨g, o, none⟩
theorem sliceElem_mk {A : Option Addr} (h : Plain A) (n c : Nat) : sliceElem (.slice A n c) = some (sliceD A n c, []) := by
  rcases h with rfl | ⟨g, o, rfl⟩ <;> rfl
theorem sliceElem_inv {v : Value} {y : DataW Unit × List MemPlace} (h : sliceElem v = some y) : ∃ A n c, v = .slice A n c ∧ Plain A ∧ y = (sliceD A n c, []) := by
  unfold sliceElem at h
  split at h
  · cases h; exact ⟨_, _, _, rfl, .inl rfl, rfl⟩
  · cases h; exact ⟨_, _, _, rfl, .inr ⟨_, _, rfl⟩, rfl⟩
  · cases h
theorem sliceD_inj {A A' : Option Addr} {n n' c c' : Nat} (hA : Plain A) (hA' : Plain A') (h : sliceD A n c = sliceD A' n' c') : A = A' ∧ n = n' ∧ c = c' := by
  unfold sliceD at h
  rcases hA with rfl | ⟨g, o, rfl⟩ <;> rcases hA' with rfl | ⟨g', o', rfl⟩
  · simp at h
    exact ⟨rfl, by omega, by omega⟩
  · simp at h
  · simp at h
  · simp at h
    obtain ⟨h1, h2, h3, h4⟩ := h
    obtain rfl : g = g' := by omega
    obtain rfl : o = o' := by omega
    exact ⟨rfl, by omega, by omega⟩
/-- What a look-up of a known element hands out. -/
theorem slice_of {v : Value} {D : DataW Unit} {ps : List MemPlace} {A : Option Addr} {n c : Nat} (h : sliceElem v = some (D, ps)) (hD : D = sliceD A n c) (hA : Plain A) : v = .slice A n c := by
  obtain ⟨A', n', c', rfl, hp, e⟩ := sliceElem_inv h
  cases e
  obtain ⟨rfl, rfl, rfl⟩ := sliceD_inj hp hA hD
  rfl
theorem csLaw : Keyed Try.prog 9 := string_keyed Try.underlying9
theorem slZero (w : World) : (zeroValue 24).run Try.prog w = .ok (.slice none 0 0) w := by kernel_rfl
theorem KeptT.map {e k : TypeId} {R : Value → Option (DataW Unit × List MemPlace)} {w w' : World} {B n : Nat} {D : DataW Unit} (h : w.ownsMap Try.prog k R B n D) (hg : w.grownBy w' (some B)) : KeptT e w w' := fun g cur hc => by
  refine (hg.block g (Array.getElem?_eq_some_iff.1 hc).1 ?_).trans hc
  intro hb
  cases hb
  obtain ⟨es, clock, hb, _⟩ := h
  rw [hb] at hc
  cases hc
/-- A map that holds the first directive of each name. -/
structure DirMap (w : World) (B n : Nat) (D : DataW Unit) (f : List UInt8 → Option (List (List UInt8))) : Prop where
  owns : w.ownsMap Try.prog 9 sliceElem B n D
  has : ∀ s, Maps.has D (.string s) = (f s).isSome
  at' : ∀ s, ∃ A c, D.atKey (.string s) (sliceD none 0 0) = sliceD A ((f s).getD []).length c ∧ Plain A ∧ TextsIn w A ((f s).getD [])
theorem DirMap.below {w w' : World} {B n : Nat} {D : DataW Unit} {f : List UInt8 → Option (List (List UInt8))} (h : DirMap w B n D f) (hb : Below w.heap.size w w') : DirMap w' B n D f :=
  ⟨h.owns.kept (row := none) (grow_of hb none) (by simp), h.has, fun s => by
    obtain ⟨A, c, h1, h2, h3⟩ := h.at' s
    exact ⟨A, c, h1, h2, h3.below hb⟩⟩
theorem DirMap.nil (w : World) : DirMap (w.alloc (.map #[] 0)) w.heap.size 0 (.map []) fun _ => none :=
  ⟨World.ownsMap_made _ _ _ _, fun _ => rfl, fun _ => ⟨none, 0, rfl, .inl rfl, TextsIn.nil _ _⟩⟩
/-- One directive more, of a new name. -/
theorem DirMap.put {w w' : World} {B n : Nat} {D : DataW Unit} {f g : List UInt8 → Option (List (List UInt8))} {y : List UInt8} {r : List (List UInt8)} {A : Option Addr} {c : Nat} (h : DirMap w B n D f) (hA : Plain A) (hr : TextsIn w A r)
    (hg : w.grownBy w' (some B)) (ho : w'.ownsMap Try.prog 9 sliceElem B (n + 1) (D.put (.string y) (sliceD A r.length c))) (h1 : g y = some r) (h2 : ∀ s, s ≠ y → g s = f s) : DirMap w' B (n + 1) (D.put (.string y) (sliceD A r.length c)) g := by
  have hk : KeptT 9 w w' := KeptT.map h.owns hg
  have hm := h.owns.isMap
  refine ⟨ho, fun s => ?_, fun s => ?_⟩
  · by_cases e : s = y
    · subst e
      rw [has_put_same hm (by trivial), h1]; rfl
    · rw [has_put_other (fun e' => e (Lit.string.inj e')), h2 s e]
      exact h.has s
  · by_cases e : s = y
    · subst e
      refine ⟨A, c, ?_, hA, ?_⟩
      · rw [atKey_put_same hm (by trivial), h1]; rfl
      · rw [h1]; exact hr.kept hk
    · obtain ⟨A', c', x1, x2, x3⟩ := h.at' s
      refine ⟨A', c', ?_, x2, ?_⟩
      · rw [atKey_put_other (fun e' => e (Lit.string.inj e')), h2 s e]; exact x1
      · rw [h2 s e]; exact x3.kept hk
set_option maxHeartbeats 1000000 in
/-- 'l[1:len(l):len(l)]' of texts. -/
theorem texts_three (A : Option Addr) (n c : Nat) (hn : 1 ≤ n) (hc : n ≤ c) (hA : Plain A) : ∃ A2, Plain A2 ∧ (∀ W : World, (Instr.slice 24 (.slice A n c) (some (.int .i64 1)) (some (.int .i64 (n : Int))) (some (.int .i64 (n : Int)))).run Try.prog W = .ok (.slice A2 (n - 1) (n - 1)) W) ∧ (∀ (W : World) (l : List (List UInt8)), l.length = n → TextsIn W A l → TextsIn W A2 (l.drop 1)) := by
  have h1 : (1 : Int) ≤ (n : Int) := by omega
  have h2 : (n : Int) ≤ (c : Int) := by omega
  refine ⟨if n = 1 then A else A.map (·.add (1 * 1)), ?_, fun W => ?_, fun W l hl hs hx => ?_⟩
  · split
    · exact hA
    · rcases hA with rfl | ⟨g, o, rfl⟩
      · exact .inl rfl
      · exact .inr ⟨g, o + 1, by simp [Addr.add]⟩
  · simp [go_sem, h1, h2, Try.underlying24]
  · rw [List.length_drop] at hx
    obtain ⟨g, o, cur, rfl, hg, hcs⟩ := hs (by omega)
    have hd := TextsIn.drop (fun _ => ⟨g, o, cur, rfl, hg, hcs⟩) 1
    rw [if_neg (by omega)]
    have e : Option.map (fun x : Addr => x.add (1 * 1)) (some ⟨g, o, none⟩) = some ⟨g, o + 1, none⟩ := by simp [Addr.add]
    rw [e]
    exact hd (by rw [List.length_drop]; omega)
end Go.Proofs.Ytcmbckacbdiebaa
