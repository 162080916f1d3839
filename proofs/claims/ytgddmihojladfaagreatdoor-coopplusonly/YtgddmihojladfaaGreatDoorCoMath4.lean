/- A parameter's key stands once: so where reports go is told by the first parameter of that key. -/
import Derived.Test.YtgddmihojladfaaGreatDoorCoMath3
namespace Go.Proofs.YtgddmihojladfaaGreatDoor
namespace Co

def isTo (p : Sf.Par) : Bool := p.key == kTo
theorem endp_no : ∀ {l : List Sf.Par} (to : List UInt8), (∀ p ∈ l, isTo p = false) → l.foldl (fun to p => if p.key == kTo && p.kind == 3 then p.text else to) to = to
  | [], _, _ => rfl
  | p :: l, to, h => by
    have hp : (p.key == kTo) = false := h p (by simp)
    rw [List.foldl_cons, hp]
    exact endp_no to fun q hq => h q (by simp [hq])
theorem endp_none {l : List Sf.Par} (h : ∀ p ∈ l, isTo p = false) : endp l = [] := endp_no [] h
theorem endp_split {a b : List Sf.Par} {p : Sf.Par} (h : (Sf.keys (a ++ p :: b)).Nodup) (hp : isTo p = true) : endp (a ++ p :: b) = if p.kind = 3 then p.text else [] := by
  have e : Sf.keys (a ++ p :: b) = Sf.keys a ++ p.key :: Sf.keys b := by simp [Sf.keys]
  rw [e, List.nodup_append, List.nodup_cons] at h
  obtain ⟨_, ⟨hb, _⟩, ha⟩ := h
  have ek : p.key = kTo := beq_iff_eq.1 hp
  have na : ∀ q ∈ a, isTo q = false := fun q hq => by
    cases hx : isTo q with
    | false => rfl
    | true => exact absurd ((beq_iff_eq.1 hx).trans ek.symm) (ha q.key (List.mem_map.2 ⟨q, hq, rfl⟩) p.key (by simp))
  have nb : ∀ q ∈ b, isTo q = false := fun q hq => by
    cases hx : isTo q with
    | false => rfl
    | true => exact absurd (List.mem_map.2 ⟨q, hq, (beq_iff_eq.1 hx).trans ek.symm⟩) hb
  unfold endp
  rw [List.foldl_append, endp_no [] na, List.foldl_cons, endp_no _ nb]
  have e1 : (p.key == kTo) = true := hp
  rw [e1, Bool.true_and]
  by_cases hk : p.kind = 3
  · rw [if_pos hk, if_pos (by rw [hk]; rfl)]
  · rw [if_neg hk, if_neg (by simpa using hk)]
theorem endp_at {l : List Sf.Par} (h : (Sf.keys l).Nodup) {i : Nat} (hi : i < l.length) (hp : isTo l[i] = true) : endp l = if l[i].kind = 3 then l[i].text else [] := by
  have e : l = l.take i ++ l[i] :: l.drop (i + 1) := by
    conv => lhs; rw [← List.take_append_drop i l, List.drop_eq_getElem_cons hi]
  generalize hx : l[i] = p at *
  rw [e] at h ⊢
  exact endp_split h hp
/-- Parameters that are read have each key once. -/
theorem parse_keys {s : List UInt8} {x : Sf.Itm} (h : Sf.parse s = some x) : (Sf.keys x.params).Nodup := by
  obtain ⟨_, _, hv, _⟩ := Sf.parse_ok h
  exact hv.nodup
theorem parse_nil : Sf.parse [] = none := by rfl
theorem comb_none {l : List Hd.Hdr} {n : List UInt8} (h : Hd.hasB l n = false) : Hd.comb l n = [] := by
  unfold Hd.hasB at h
  unfold Hd.comb
  have : Hd.vals l n = [] := by simpa using h
  rw [this]; rfl
/-- Whether a field is there or not, its text alone tells. -/
theorem word_comb (l : List Hd.Hdr) (n : List UInt8) : word l n = ofItem (Sf.parse (Hd.comb l n)) := by
  unfold word
  cases h : Hd.hasB l n with
  | true => rfl
  | false => rw [comb_none h, parse_nil]; rfl
/-! ### the numbers of words -/
def coepF (s : List UInt8) : Int := coepW s
def coopF (p : Bool) (s : List UInt8) : Int := coopW s p
end Co
end Go.Proofs.YtgddmihojladfaaGreatDoor
