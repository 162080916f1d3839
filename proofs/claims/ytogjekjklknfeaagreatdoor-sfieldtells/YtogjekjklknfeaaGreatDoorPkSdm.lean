/- Texts of one layer, joined. -/
import Derived.Test.YtogjekjklknfeaaGreatDoorPkSfm

/- Lists and dictionaries of structured fields: what they are, and members there and back. No program is named here. -/

namespace Go.Proofs.YtogjekjklknfeaaGreatDoor
namespace Sf
open Oct

structure Mem where
  key : List UInt8
  inner : Bool
  item : Itm
  items : List Itm
  params : List Par
def zItm : Itm := ⟨0, 0, [], []⟩
/-- What stands behind blanks and tabs. -/
def tabs (s : List UInt8) : List UInt8 := s.dropWhile fun b => b == 32 || b == 9
/-- Items between brackets, behind the first one. -/
def innF : Nat → List Itm → List UInt8 → Option (Mem × List UInt8)
  | 0, _, _ => none
  | f + 1, acc, s =>
    if (blk s).headD 0 = 41 then
      (match pars ((blk s).drop 1) with
       | none => none
       | some (l, r) => some (⟨[], true, zItm, acc, l⟩, r))
    else if acc ≠ [] ∧ (blk s).length = s.length then none
    else match next (blk s) with
      | none => none
      | some (x, r) => innF f (acc ++ [x]) r
def inn (s : List UInt8) : Option (Mem × List UInt8) := innF (s.length + 1) [] s
def memb (s : List UInt8) : Option (Mem × List UInt8) :=
  if s.headD 0 = 40 then inn (s.drop 1)
  else match next s with
    | none => none
    | some (x, r) => some (⟨[], false, x, [], []⟩, r)
def keyd (s : List UInt8) : Option (Mem × List UInt8) :=
  match keyOf s with
  | none => none
  | some (k, r) =>
    if r.headD 0 = 61 then
      (match memb (r.drop 1) with
       | none => none
       | some (m, b) => some (⟨k, m.inner, m.item, m.items, m.params⟩, b))
    else match pars r with
      | none => none
      | some (l, b) => some (⟨k, false, ⟨6, 1, [], l⟩, [], []⟩, b)
def putM (l : List Mem) (m : Mem) : List Mem := if l.any (fun q => q.key == m.key) then l.map (fun q => if q.key == m.key then m else q) else l ++ [m]
def eith (d : Bool) (s : List UInt8) : Option (Mem × List UInt8) := if d then keyd s else memb s
def addM (d : Bool) (l : List Mem) (m : Mem) : List Mem := if d then putM l m else l ++ [m]
def readF (d : Bool) : Nat → List Mem → List UInt8 → Option (List Mem)
  | 0, _, _ => none
  | f + 1, acc, s =>
    match eith d s with
    | none => none
    | some (m, r) =>
      if tabs r = [] then some (addM d acc m)
      else if (tabs r).headD 0 = 44 then readF d f (addM d acc m) (tabs ((tabs r).drop 1))
      else none
/-- The list, the dictionary that a field is. -/
def readL (d : Bool) (s : List UInt8) : Option (List Mem) :=
  if 4000 < s.length then none else if trimS s = [] then some [] else readF d ((trimS s).length + 1) [] (trimS s)

/-! ### texts -/
def itxt (x : Itm) : List UInt8 := (text x).getD []
def bareB (x : Itm) : Bool := x.kind == 0 && (x.n == 0 && (x.text.isEmpty && x.params.isEmpty))
def jn (sep : List UInt8) : List (List UInt8) → List UInt8
  | [] => []
  | a :: l => a ++ l.flatMap fun b => sep ++ b
/-- May a member be, its key aside? -/
def okM (m : Mem) : Bool :=
  if m.inner then bareB m.item && (m.items.all (fun x => (text x).isSome) && (tailF [] m.params).isSome)
  else (text m.item).isSome && (m.items.isEmpty && m.params.isEmpty)
def mt (m : Mem) : List UInt8 := if m.inner then 40 :: (jn [32] (m.items.map itxt) ++ 41 :: T m.params) else itxt m.item
def keysM (l : List Mem) : List (List UInt8) := l.map (·.key)
def oneB (m : Mem) : Bool := !m.inner && (m.item.kind == 6 && m.item.n == 1)
def dt (m : Mem) : List UInt8 := if oneB m then m.key ++ T m.item.params else m.key ++ 61 :: mt m
def tx (d : Bool) (m : Mem) : List UInt8 := if d then dt m else mt m
def okE (d : Bool) (m : Mem) : Bool := okM m && (if d then keyB m.key else m.key.isEmpty)
def textL (d : Bool) (l : List Mem) : Option (List UInt8) := if l.all (okE d) = true ∧ (d = true → (keysM l).Nodup) then some (jn [44, 32] (l.map (tx d))) else none

/-! ### small things -/
theorem bare_iff {x : Itm} : bareB x = true ↔ x = zItm := by
  obtain ⟨k, n, t, l⟩ := x
  simp [bareB, zItm]
theorem itxt_is {x : Itm} (h : (text x).isSome = true) : text x = some (itxt x) := by
  unfold itxt
  cases hx : text x with
  | none => rw [hx] at h; cases h
  | some t => rfl
/-- What does not go on behind an item. -/
structure Fol (r : List UInt8) : Prop where
  off : Off tokI r
  n61 : r.headD 0 ≠ 61
  n59 : r.headD 0 ≠ 59
theorem fol_nil : Fol [] := ⟨.inl rfl, by decide, by decide⟩
theorem fol_of {c : UInt8} {r : List UInt8} (h : c = 32 ∨ c = 9 ∨ c = 41 ∨ c = 44) : Fol (c :: r) := by
  rcases h with rfl | rfl | rfl | rfl <;> exact ⟨off_cons (by decide), by simp, by simp⟩
theorem fol_head {r : List UInt8} (hn : r ≠ []) (h : r.headD 0 = 32 ∨ r.headD 0 = 9 ∨ r.headD 0 = 41 ∨ r.headD 0 = 44) : Fol r := by
  cases r with
  | nil => exact absurd rfl hn
  | cons c r => exact fol_of h
theorem value_head {s : List UInt8} {p : Par} {r : List UInt8} (h : value s = some (p, r)) : s ≠ [] ∧ s.headD 0 ≠ 40 ∧ s.headD 0 ≠ 41 ∧ s.headD 0 ≠ 32 ∧ s.headD 0 ≠ 9 ∧ s.headD 0 ≠ 44 := by
  cases s with
  | nil => cases h
  | cons c s =>
    refine ⟨by simp, ?_, ?_, ?_, ?_, ?_⟩
    all_goals
      intro hc
      have hc' : c = _ := hc
      rw [hc', value_cons] at h
      rw [if_neg (by decide), if_neg (by decide), if_neg (by decide), if_neg (by decide), if_neg (by decide), if_neg (by decide)] at h
      cases h
theorem next_head {s : List UInt8} {x : Itm} {r : List UInt8} (h : next s = some (x, r)) : s ≠ [] ∧ s.headD 0 ≠ 40 ∧ s.headD 0 ≠ 41 ∧ s.headD 0 ≠ 32 ∧ s.headD 0 ≠ 9 ∧ s.headD 0 ≠ 44 := by
  unfold next at h
  cases hv : value s with
  | none => rw [hv] at h; cases h
  | some y => obtain ⟨p, r'⟩ := y; exact value_head hv
theorem next_itxt {x : Itm} (h : (text x).isSome = true) {r : List UInt8} (hr : Fol r) : next (itxt x ++ r) = some (x, r) := by
  obtain ⟨v, hv, hl, e⟩ := text_ways (itxt_is h)
  rw [e, List.append_assoc]
  exact next_text hv hl hr.off hr.n61 hr.n59
theorem itxt_ends {x : Itm} (h : (text x).isSome = true) : Ends (itxt x) := by
  obtain ⟨v, hv, hl, e⟩ := text_ways (itxt_is h)
  rw [e]; exact ends_text hv hl
theorem itxt_head {x : Itm} (h : (text x).isSome = true) (r : List UInt8) : (itxt x ++ r).headD 0 ≠ 40 ∧ (itxt x ++ r).headD 0 ≠ 41 ∧ (itxt x ++ r).headD 0 ≠ 32 ∧ (itxt x ++ r).headD 0 ≠ 9 ∧ (itxt x ++ r).headD 0 ≠ 44 := by
  have h1 := next_head (next_itxt h fol_nil)
  rw [List.append_nil] at h1
  rw [head_app r h1.1]
  exact h1.2
theorem pars_tail {p : List Par} (hp : Vld p) {r : List UInt8} (hr : Fol r) : pars (T p ++ r) = some (p, r) := by
  have h1 := tail_pars hp.may [] r (by simpa [keys] using hp.nodup) hr.off hr.n61 ((T p ++ r).length + 1) (by omega)
  unfold pars
  rw [h1, parsF_succ, if_neg hr.n59]
  rfl
theorem tail_some {p : List Par} (h : (tailF [] p).isSome = true) : Vld p := by
  cases ht : tailF [] p with
  | none => rw [ht] at h; cases h
  | some t => exact (vld_of ht).1
theorem some_tail {p : List Par} (h : Vld p) : (tailF [] p).isSome = true := by rw [tail_vld h]; rfl
theorem text_some {x : Itm} {v : List UInt8} (h : vtext x.kind x.n x.text = some v) (hl : Vld x.params) : (text x).isSome = true ∧ itxt x = v ++ T x.params := by
  have := text_of h hl
  unfold itxt
  rw [this]; exact ⟨rfl, rfl⟩

/-! ### items between brackets -/
def bod (zs : List (List UInt8 × Itm)) : List UInt8 := zs.flatMap fun q => q.1 ++ itxt q.2
theorem bod_cons (q : List UInt8 × Itm) (zs : List (List UInt8 × Itm)) : bod (q :: zs) = q.1 ++ (itxt q.2 ++ bod zs) := by simp [bod]
theorem space_head {z r : List UInt8} (hz : ∀ c ∈ z, c = 32) (hr : r.headD 0 = 41) (hn : r ≠ []) : Fol (z ++ r) := by
  cases z with
  | nil => exact fol_head hn (.inr (.inr (.inl hr)))
  | cons c z => exact fol_of (.inl (hz c (by simp)))
theorem inn_bod {p : List Par} (hp : Vld p) {r e : List UInt8} (hr : Fol r) (he : ∀ c ∈ e, c = 32) : ∀ (zs : List (List UInt8 × Itm)) (acc : List Itm) (f : Nat),
    (∀ q ∈ zs, (∀ c ∈ q.1, c = 32) ∧ (text q.2).isSome = true) → (acc ≠ [] → ∀ q ∈ zs, q.1 ≠ []) → (∀ q ∈ zs.tail, q.1 ≠ []) → (bod zs ++ (e ++ 41 :: (T p ++ r))).length < f →
    innF f acc (bod zs ++ (e ++ 41 :: (T p ++ r))) = some (⟨[], true, zItm, acc ++ zs.map (·.2), p⟩, r)
  | _, _, 0, _, _, _, hf => by omega
  | [], acc, f + 1, _, _, _, hf => by
    have hb : blk (e ++ 41 :: (T p ++ r)) = 41 :: (T p ++ r) := blk_app he (by simp)
    have e0 : bod [] ++ (e ++ 41 :: (T p ++ r)) = e ++ 41 :: (T p ++ r) := rfl
    rw [e0, innF, hb, if_pos (by rfl)]
    rw [show (41 :: (T p ++ r)).drop 1 = T p ++ r from rfl, pars_tail hp hr]
    simp
  | (z, x) :: zs, acc, f + 1, hq, ha, ht, hf => by
    obtain ⟨hz, hx⟩ := hq (z, x) (by simp)
    have hne : ∀ q ∈ zs, q.1 ≠ [] := fun q h => ht q (by simpa using h)
    have ends := itxt_ends hx
    obtain ⟨R, hR⟩ : ∃ R, bod zs ++ (e ++ 41 :: (T p ++ r)) = R := ⟨_, rfl⟩
    have hfol : Fol R := by
      rw [← hR]
      cases zs with
      | nil => exact space_head (r := 41 :: (T p ++ r)) he rfl (by simp)
      | cons q zs =>
        rw [bod_cons]
        have h1 := hne q (by simp)
        have h2 := (hq q (by simp)).1
        cases hq1 : q.1 with
        | nil => exact absurd hq1 h1
        | cons c z' => exact fol_of (.inl (h2 c (by rw [hq1]; simp)))
    have e1 : bod ((z, x) :: zs) ++ (e ++ 41 :: (T p ++ r)) = z ++ (itxt x ++ R) := by rw [bod_cons, ← hR]; simp
    rw [e1] at hf ⊢
    have hh := itxt_head hx R
    have hb : blk (z ++ (itxt x ++ R)) = itxt x ++ R := blk_app hz hh.2.2.1
    have hl1 : 0 < (itxt x).length := List.length_pos_iff.2 ends.ne
    rw [innF, hb, if_neg hh.2.1, if_neg ?_, next_itxt hx hfol]
    · simp only
      rw [← hR]
      have := inn_bod hp hr he zs (acc ++ [x]) f (fun q h => hq q (by simp [h])) (fun _ => hne) (fun q h => hne q (List.mem_of_mem_tail h)) (by rw [hR]; simp only [List.length_append] at hf; omega)
      rw [this]
      simp
    · rintro ⟨h1, h2⟩
      have h3 := List.length_pos_iff.2 (ha h1 (z, x) (by simp))
      simp only [List.length_append] at h2
      simp only at h3
      omega
def zOf : List Itm → List (List UInt8 × Itm)
  | [] => []
  | x :: l => ([], x) :: l.map fun y => ([32], y)
theorem jn_bod (xs : List Itm) : jn [32] (xs.map itxt) = bod (zOf xs) := by
  cases xs with
  | nil => rfl
  | cons x l => simp [jn, bod, zOf, List.flatMap_map]
/-- The text of a member, whatever does not go on behind it, is read as the member. -/
theorem memb_text {m : Mem} (h : okM m = true) (hk : m.key = []) {r : List UInt8} (hr : Fol r) : memb (mt m ++ r) = some (m, r) := by
  obtain ⟨k, i, x, l, p⟩ := m
  simp only at hk
  subst hk
  cases i with
  | true =>
    have h' : (bareB x && (l.all (fun x => (text x).isSome) && (tailF [] p).isSome)) = true := h
    rw [Bool.and_eq_true, Bool.and_eq_true, List.all_eq_true] at h'
    obtain ⟨h1, h2, h3⟩ := h'
    have hx := bare_iff.1 h1
    subst hx
    have hp := tail_some h3
    have e1 : mt ⟨[], true, zItm, l, p⟩ ++ r = (40 : UInt8) :: (bod (zOf l) ++ ([] ++ 41 :: (T p ++ r))) := by
      simp only [mt, if_pos]
      rw [jn_bod]; simp
    rw [e1, memb, if_pos (by rfl)]
    show innF _ _ _ = _
    simp only [List.drop_succ_cons, List.drop_zero]
    rw [inn_bod hp hr (e := []) (by simp) _ [] _ ?_ (fun h => absurd rfl h) ?_ (by omega)]
    · cases l with
      | nil => rfl
      | cons x l =>
        simp only [zOf, List.map_cons, List.map_map, List.nil_append]
        rw [show ((fun x : List UInt8 × Itm => x.2) ∘ fun y : Itm => (([32] : List UInt8), y)) = id from rfl, List.map_id]
    · intro q hq
      cases l with
      | nil => cases hq
      | cons x l =>
        simp only [zOf, List.mem_cons, List.mem_map] at hq
        rcases hq with rfl | ⟨y, hy, rfl⟩
        · exact ⟨by simp, h2 x (by simp)⟩
        · exact ⟨by simp, h2 y (by simp [hy])⟩
    · intro q hq
      cases l with
      | nil => cases hq
      | cons x l =>
        simp only [zOf, List.tail_cons, List.mem_map] at hq
        obtain ⟨y, _, rfl⟩ := hq
        simp
  | false =>
    have h' : ((text x).isSome && (l.isEmpty && p.isEmpty)) = true := h
    rw [Bool.and_eq_true, Bool.and_eq_true] at h'
    obtain ⟨h1, h2, h3⟩ := h'
    have hl : l = [] := List.isEmpty_iff.1 h2
    have hp : p = [] := List.isEmpty_iff.1 h3
    subst hl; subst hp
    have e1 : mt ⟨[], false, x, [], []⟩ = itxt x := rfl
    rw [e1, memb, if_neg (itxt_head h1 r).1, next_itxt h1 hr]
end Sf
end Go.Proofs.YtogjekjklknfeaaGreatDoor

/- Lists and dictionaries of structured fields: what is read as a member may be, and hangs on no more than its own text. No program is named here. -/

namespace Go.Proofs.YtogjekjklknfeaaGreatDoor
namespace Sf
open Oct

/-- What is read as items between brackets: the text that it takes. -/
structure InnReads (acc : List Itm) (s : List UInt8) (m : Mem) (r c : List UInt8) (xs : List Itm) (p : List Par) : Prop where
  eq : s = c ++ r
  is : m = ⟨[], true, zItm, acc ++ xs, p⟩
  ne : c ≠ []
  hd : acc ≠ [] → c.headD 0 = 32 ∨ c.headD 0 = 41
  la : c.getLastD 0 ≠ 32
  no : r.headD 0 ≠ 59
  loc : ∀ r', Fol r' → ∀ f, c.length < f → innF f acc (c ++ r') = some (m, r')
  txt : ∀ x ∈ xs, (text x).isSome = true
  vld : Vld p
  len : (if acc = [] then (jn [32] (xs.map itxt)).length else (xs.flatMap fun y => 32 :: itxt y).length) + 1 + (T p).length ≤ c.length
theorem jn_cons (x : Itm) (xs : List Itm) : (jn [32] ((x :: xs).map itxt)).length = (itxt x).length + (xs.flatMap fun y => 32 :: itxt y).length := by
  simp [jn, List.flatMap_map]
theorem inn_reads : ∀ (f : Nat) (acc : List Itm) (s : List UInt8) (m : Mem) (r : List UInt8), innF f acc s = some (m, r) → ∃ c xs p, InnReads acc s m r c xs p
  | 0, _, _, _, _, h => by cases h
  | f + 1, acc, s, m, r, h => by
    obtain ⟨z, hz, hz32⟩ := blk_cut s
    obtain ⟨B, hB⟩ : ∃ B, blk s = B := ⟨_, rfl⟩
    rw [hB] at hz
    rw [innF, hB] at h
    split at h
    · rename_i h41
      cases B with
      | nil => cases h41
      | cons c0 t =>
        have : c0 = 41 := h41
        subst this
        simp only [List.drop_succ_cons, List.drop_zero] at h
        cases hp : pars t with
        | none => rw [hp] at h; cases h
        | some y =>
          obtain ⟨l, r1⟩ := y
          rw [hp] at h
          simp only [Option.some.injEq, Prod.mk.injEq] at h
          obtain ⟨hm, rfl⟩ := h
          obtain ⟨b, q⟩ := pars_reads _ _ _ _ _ vld_nil hp
          refine ⟨z ++ 41 :: b, [], l, ?_⟩
          refine ⟨by rw [hz, q.eq]; simp, by rw [← hm]; simp, by simp, ?_, ?_, q.no, ?_, by simp, q.vld, ?_⟩
          · intro _
            cases z with
            | nil => exact .inr rfl
            | cons c z => exact .inl (hz32 c (by simp))
          · rw [last_app z (by simp)]
            rcases q.be with rfl | ⟨_, h2⟩
            · decide
            · by_cases hb : b = []
              · rw [hb]; decide
              · rw [show (41 :: b) = [41] ++ b from rfl, last_app [41] hb]; exact h2
          · intro r' hr' f' hf'
            cases f' with
            | zero => omega
            | succ f' =>
              have e : z ++ 41 :: b ++ r' = z ++ 41 :: (b ++ r') := by simp
              rw [e, innF, blk_app hz32 (by show (41 : UInt8) ≠ 32; decide), if_pos (by rfl)]
              simp only [List.drop_succ_cons, List.drop_zero]
              unfold pars
              rw [q.loc r' hr'.off hr'.n61 hr'.n59 _ (by simp; omega)]
              simp only
              rw [hm]
          · have h1 := q.len
            have h3 : (T []).length = 0 := rfl
            have h4 : (jn [32] (([] : List Itm).map itxt)).length = 0 := rfl
            simp only [List.length_append, List.length_cons, h4, List.flatMap_nil, List.length_nil]
            split <;> omega
    · rename_i h41
      split at h
      · cases h
      · rename_i hc
        cases hn : next B with
        | none => rw [hn] at h; cases h
        | some y =>
          obtain ⟨x, r1⟩ := y
          rw [hn] at h
          simp only at h
          obtain ⟨cx, v, q⟩ := next_reads hn
          obtain ⟨c1, xs, p, q1⟩ := inn_reads f (acc ++ [x]) r1 m r h
          obtain ⟨ht1, ht2⟩ := text_some q.txt q.vld
          have hcx : 0 < cx.length := List.length_pos_iff.2 q.ends.ne
          have hzl : acc ≠ [] → z ≠ [] := by
            intro ha hz0
            apply hc
            refine ⟨ha, ?_⟩
            rw [hz, hz0]; rfl
          have hacc : acc ++ [x] ≠ [] := by simp
          refine ⟨z ++ (cx ++ c1), x :: xs, p, ?_⟩
          refine ⟨by rw [hz, q.eq, q1.eq]; simp, by rw [q1.is]; simp, by simp [q.ends.ne], ?_, ?_, q1.no, ?_, ?_, q1.vld, ?_⟩
          · intro ha
            cases z with
            | nil => exact absurd rfl (hzl ha)
            | cons c z => exact .inl (hz32 c (by simp))
          · rw [last_app z (by simp [q.ends.ne]), last_app cx q1.ne]; exact q1.la
          · intro r' hr' f' hf'
            cases f' with
            | zero => omega
            | succ f' =>
              have e : z ++ (cx ++ c1) ++ r' = z ++ (cx ++ (c1 ++ r')) := by simp
              have hh : (cx ++ (c1 ++ r')).headD 0 = cx.headD 0 := head_app _ q.ends.ne
              have hB0 : B.headD 0 = cx.headD 0 := by rw [q.eq]; exact head_app _ q.ends.ne
              have hfol : Fol (c1 ++ r') := by
                refine fol_head (by simp [q1.ne]) ?_
                rw [head_app r' q1.ne]
                rcases q1.hd hacc with h | h
                · exact .inl h
                · exact .inr (.inr (.inl h))
              rw [e, innF, blk_app hz32 (by rw [hh]; exact q.ends.hd), if_neg (by rw [hh, ← hB0]; exact h41), if_neg ?_, q.loc _ hfol.off hfol.n61 hfol.n59]
              · exact q1.loc r' hr' f' (by simp only [List.length_append] at hf'; omega)
              · rintro ⟨h1, h2⟩
                have := List.length_pos_iff.2 (hzl h1)
                simp only [List.length_append] at h2
                omega
          · intro y hy
            rcases List.mem_cons.1 hy with rfl | hy
            · exact ht1
            · exact q1.txt y hy
          · have h1 := q1.len
            rw [if_neg hacc] at h1
            have h2 := q.len
            rw [← ht2] at h2
            split
            · rw [jn_cons]
              simp only [List.length_append]
              omega
            · rename_i ha
              have := List.length_pos_iff.2 (hzl ha)
              simp only [List.flatMap_cons, List.length_append, List.length_cons]
              omega
/-- What is read as a member: the text that it takes. -/
structure MemReads (d : Bool) (s : List UInt8) (m : Mem) (r c : List UInt8) : Prop where
  eq : s = c ++ r
  ends : Ends c
  h9 : c.headD 0 ≠ 9
  no : r.headD 0 ≠ 59
  loc : ∀ r', Fol r' → eith d (c ++ r') = some (m, r')
  ok : okE d m = true
  len : (tx d m).length ≤ c.length
theorem memb_reads {s : List UInt8} {m : Mem} {r : List UInt8} (h : memb s = some (m, r)) : ∃ c, MemReads false s m r c := by
  unfold memb at h
  split at h
  · rename_i h40
    cases s with
    | nil => cases h40
    | cons c0 t =>
      have : c0 = 40 := h40
      subst this
      simp only [List.drop_succ_cons, List.drop_zero] at h
      obtain ⟨c, xs, p, q⟩ := inn_reads _ _ _ _ _ h
      have hm := q.is
      rw [List.nil_append] at hm
      refine ⟨40 :: c, ⟨by rw [q.eq]; rfl, ⟨by simp, by show (40 : UInt8) ≠ 32; decide, ?_⟩, by show (40 : UInt8) ≠ 9; decide, q.no, ?_, ?_, ?_⟩⟩
      · rw [show (40 :: c) = [40] ++ c from rfl, last_app [40] q.ne]; exact q.la
      · intro r' hr'
        show memb (40 :: (c ++ r')) = _
        unfold memb
        rw [if_pos (by rfl)]
        exact q.loc r' hr' _ (by simp; omega)
      · rw [hm]
        have h1 : bareB zItm = true := rfl
        have h2 : xs.all (fun x => (text x).isSome) = true := List.all_eq_true.2 q.txt
        simp [okE, okM, h1, h2, some_tail q.vld]
      · have h1 := q.len
        rw [if_pos rfl] at h1
        rw [hm]
        simp only [tx, mt, if_pos, List.length_cons]
        simp only [Bool.false_eq_true, if_false]
        simp only [List.length_cons, List.length_append]
        omega
  · rename_i h40
    cases hn : next s with
    | none => rw [hn] at h; cases h
    | some y =>
      obtain ⟨x, r1⟩ := y
      rw [hn] at h
      simp only [Option.some.injEq, Prod.mk.injEq] at h
      obtain ⟨rfl, rfl⟩ := h
      obtain ⟨c, v, q⟩ := next_reads hn
      obtain ⟨ht1, ht2⟩ := text_some q.txt q.vld
      have hh := next_head hn
      have hsc : s.headD 0 = c.headD 0 := by rw [q.eq]; exact head_app _ q.ends.ne
      refine ⟨c, ⟨q.eq, q.ends, by rw [← hsc]; exact hh.2.2.2.2.1, q.no, ?_, ?_, ?_⟩⟩
      · intro r' hr'
        show memb (c ++ r') = _
        unfold memb
        rw [if_neg (by rw [head_app r' q.ends.ne, ← hsc]; exact h40), q.loc r' hr'.off hr'.n61 hr'.n59]
      · simp [okE, okM, ht1]
      · have := q.len
        rw [← ht2] at this
        exact this
theorem okE_false {m : Mem} (h : okE false m = true) : okM m = true ∧ m.key = [] := by
  simp only [okE, Bool.and_eq_true] at h
  exact ⟨h.1, by simpa using h.2⟩
theorem okM_key (k : List UInt8) (m : Mem) : okM ⟨k, m.inner, m.item, m.items, m.params⟩ = okM m := rfl
theorem mt_key (k : List UInt8) (m : Mem) : mt ⟨k, m.inner, m.item, m.items, m.params⟩ = mt m := rfl
theorem dt_len (m : Mem) (h : okM m = true) : (dt m).length ≤ m.key.length + 1 + (mt m).length := by
  unfold dt
  split
  · rename_i h1
    simp only [oneB, Bool.and_eq_true, Bool.not_eq_true'] at h1
    obtain ⟨hi, _⟩ := h1
    have h2 : (text m.item).isSome = true := by
      unfold okM at h
      rw [if_neg (by rw [hi]; simp)] at h
      simp only [Bool.and_eq_true] at h
      exact h.1
    obtain ⟨v, _, _, e⟩ := text_ways (itxt_is h2)
    have e2 : mt m = itxt m.item := by unfold mt; rw [if_neg (by rw [hi]; simp)]
    rw [e2, e]
    simp only [List.length_append]
    omega
  · simp only [List.length_append, List.length_cons]; omega
theorem keyd_reads {s : List UInt8} {m : Mem} {r : List UInt8} (h : keyd s = some (m, r)) : ∃ c, MemReads true s m r c := by
  unfold keyd at h
  cases hk : keyOf s with
  | none => rw [hk] at h; cases h
  | some y =>
    obtain ⟨k, r0⟩ := y
    rw [hk] at h
    simp only at h
    obtain ⟨e1, e2, e3⟩ := keyOf_ways hk
    have ke := key_ends e2
    have k9 : k.headD 0 ≠ 9 := by
      intro h9
      have hm := head_mem ke.ne
      rw [h9] at hm
      have := List.all_eq_true.1 (keyB_all e2).1 _ hm
      revert this; decide
    split at h
    · rename_i h61
      cases r0 with
      | nil => cases h61
      | cons c0 t =>
        have : c0 = 61 := h61
        subst this
        simp only [List.drop_succ_cons, List.drop_zero] at h
        cases hm : memb t with
        | none => rw [hm] at h; cases h
        | some y =>
          obtain ⟨m0, b⟩ := y
          rw [hm] at h
          simp only [Option.some.injEq, Prod.mk.injEq] at h
          obtain ⟨rfl, rfl⟩ := h
          obtain ⟨c, q⟩ := memb_reads hm
          obtain ⟨o1, o2⟩ := okE_false q.ok
          refine ⟨k ++ 61 :: c, ⟨by rw [e1, q.eq]; simp, ?_, by rw [head_app _ ke.ne]; exact k9, q.no, ?_, ?_, ?_⟩⟩
          · exact ends_app ke.ne ke.hd (by simp) (by rw [show (61 :: c) = [61] ++ c from rfl, last_app [61] q.ends.ne]; exact q.ends.la)
          · intro r' hr'
            show keyd _ = _
            have e : k ++ 61 :: c ++ r' = k ++ 61 :: (c ++ r') := by simp
            have hl := q.loc r' hr'
            have hl' : memb (c ++ r') = some (m0, r') := hl
            unfold keyd
            rw [e, keyOf_back e2 (off_cons (by decide))]
            simp only
            rw [if_pos (by rfl)]
            simp only [List.drop_succ_cons, List.drop_zero]
            rw [hl']
          · simp only [okE, okM_key, Bool.and_eq_true]
            exact ⟨o1, by simpa using e2⟩
          · have h1 := dt_len ⟨k, m0.inner, m0.item, m0.items, m0.params⟩ (by rw [okM_key]; exact o1)
            rw [mt_key] at h1
            have h2 : (mt m0).length ≤ c.length := q.len
            simp only [tx, if_pos, List.length_append, List.length_cons]
            simp only at h1
            omega
    · rename_i h61
      cases hp : pars r0 with
      | none => rw [hp] at h; cases h
      | some y =>
        obtain ⟨l, b⟩ := y
        rw [hp] at h
        simp only [Option.some.injEq, Prod.mk.injEq] at h
        obtain ⟨rfl, rfl⟩ := h
        obtain ⟨c, q⟩ := pars_reads _ _ _ _ _ vld_nil hp
        have hbe : c = [] ∨ c.headD 0 = 59 := by
          rcases q.be with h | h
          · exact .inl h
          · exact .inr h.1
        refine ⟨k ++ c, ⟨by rw [e1, q.eq]; simp, ?_, by rw [head_app _ ke.ne]; exact k9, q.no, ?_, ?_, ?_⟩⟩
        · by_cases hc : c = []
          · rw [hc, List.append_nil]; exact ke
          · rcases q.be with h | h
            · exact absurd h hc
            · exact ends_app ke.ne ke.hd hc h.2
        · intro r' hr'
          show keyd _ = _
          obtain ⟨o1, o2⟩ := off_tail hbe hr'.off hr'.n61
          unfold keyd
          rw [List.append_assoc, keyOf_back e2 (off_key o1)]
          simp only
          rw [if_neg o2]
          unfold pars
          rw [q.loc r' hr'.off hr'.n61 hr'.n59 _ (by simp; omega)]
        · obtain ⟨h1, _⟩ := text_some (x := ⟨6, 1, [], l⟩) (vt6 (.inr rfl)) q.vld
          simp [okE, okM, h1, e2]
        · have h1 := q.len
          have h3 : (T []).length = 0 := rfl
          have h4 : tx true ⟨k, false, ⟨6, 1, [], l⟩, [], []⟩ = k ++ T l := rfl
          rw [h4]
          simp only [List.length_append]
          omega
theorem eith_reads {d : Bool} {s : List UInt8} {m : Mem} {r : List UInt8} (h : eith d s = some (m, r)) : ∃ c, MemReads d s m r c := by
  cases d with
  | true => exact keyd_reads h
  | false => exact memb_reads h
/-- The text of a member of a list or of a dictionary is read as the member. -/
theorem eith_text {d : Bool} {m : Mem} (h : okE d m = true) {r : List UInt8} (hr : Fol r) : eith d (tx d m ++ r) = some (m, r) := by
  cases d with
  | false =>
    obtain ⟨h1, h2⟩ := okE_false h
    exact memb_text h1 h2 hr
  | true =>
    simp only [okE, Bool.and_eq_true] at h
    obtain ⟨h1, h2⟩ := h
    replace h2 : keyB m.key = true := by simpa using h2
    show keyd (dt m ++ r) = _
    unfold dt
    split
    · rename_i h3
      simp only [oneB, Bool.and_eq_true, Bool.not_eq_true', beq_iff_eq] at h3
      obtain ⟨k, i, ⟨xk, xn, xt, xl⟩, l, p⟩ := m
      simp only at h3 h2 ⊢
      obtain ⟨rfl, rfl, rfl⟩ := h3
      have h1' : ((text ⟨6, 1, xt, xl⟩).isSome && (l.isEmpty && p.isEmpty)) = true := h1
      rw [Bool.and_eq_true, Bool.and_eq_true] at h1'
      obtain ⟨h4, h5, h6⟩ := h1'
      have hl : l = [] := List.isEmpty_iff.1 h5
      have hp : p = [] := List.isEmpty_iff.1 h6
      subst hl; subst hp
      obtain ⟨v, hv, hvl, _⟩ := text_ways (itxt_is h4)
      have hxt : xt = [] := (vtext_num hv).2.2.1 rfl
      subst hxt
      have hvl' : Vld xl := hvl
      obtain ⟨o1, o2⟩ := off_tail (T_head hvl'.may) hr.off hr.n61
      unfold keyd
      rw [List.append_assoc, keyOf_back h2 (off_key o1)]
      simp only
      rw [if_neg o2, pars_tail hvl' hr]
    · obtain ⟨k, i, x, l, p⟩ := m
      have e : k ++ 61 :: mt ⟨k, i, x, l, p⟩ ++ r = k ++ 61 :: (mt ⟨[], i, x, l, p⟩ ++ r) := by
        rw [show mt ⟨k, i, x, l, p⟩ = mt ⟨[], i, x, l, p⟩ from rfl]; simp
      have hm := memb_text (m := ⟨[], i, x, l, p⟩) (by rw [← h1]; rfl) rfl hr
      simp only at h2 ⊢
      unfold keyd
      rw [e, keyOf_back h2 (off_cons (by decide))]
      simp only
      rw [if_pos (by rfl)]
      simp only [List.drop_succ_cons, List.drop_zero]
      rw [hm]
end Sf
end Go.Proofs.YtogjekjklknfeaaGreatDoor

/- Lists and dictionaries of structured fields: there and back. No program is named here. -/

namespace Go.Proofs.YtogjekjklknfeaaGreatDoor
namespace Sf
open Oct

/-! ### blanks and tabs -/
def tbB (c : UInt8) : Bool := c == 32 || c == 9
theorem tabs_cut (s : List UInt8) : ∃ z, s = z ++ tabs s ∧ ∀ c ∈ z, tbB c = true := by
  refine ⟨s.takeWhile tbB, (List.takeWhile_append_dropWhile).symm, ?_⟩
  intro c hc
  exact List.all_eq_true.1 (List.all_takeWhile (p := tbB) (l := s)) c hc
theorem tabs_app {z x : List UInt8} (hz : ∀ c ∈ z, tbB c = true) (hx : x = [] ∨ tbB (x.headD 0) = false) : tabs (z ++ x) = x := by
  have e : tabs (z ++ x) = x.dropWhile tbB := List.dropWhile_append_of_pos hz
  rw [e]
  cases x with
  | nil => rfl
  | cons c x =>
    rcases hx with h | h
    · cases h
    · exact List.dropWhile_cons_of_neg (by rw [show tbB c = false from h]; simp)
theorem tabs_off (s : List UInt8) : tabs s = [] ∨ tbB ((tabs s).headD 0) = false := by
  unfold tabs
  induction s with
  | nil => exact .inl rfl
  | cons c s ih =>
    cases h : tbB c with
    | true => rw [List.dropWhile_cons_of_pos (by exact h)]; exact ih
    | false => rw [List.dropWhile_cons_of_neg (by rw [show (c == 32 || c == 9) = false from h]; simp)]; exact .inr h
theorem tabs_more {s : List UInt8} (w : List UInt8) (h : tabs s ≠ []) : tabs (s ++ w) = tabs s ++ w := by
  obtain ⟨z, hz, hz1⟩ := tabs_cut s
  have h2 : tbB ((tabs s).headD 0) = false := by
    rcases tabs_off s with h0 | h0
    · exact absurd h0 h
    · exact h0
  have := tabs_app (x := tabs s ++ w) hz1 (.inr (by rw [head_app w h]; exact h2))
  rw [← List.append_assoc, ← hz] at this
  exact this
theorem tabs_len (s : List UInt8) : (tabs s).length ≤ s.length := (List.dropWhile_suffix _).length_le
theorem fol_tabs {z : List UInt8} (hz : ∀ c ∈ z, tbB c = true) (b : List UInt8) : Fol (z ++ 44 :: b) := by
  cases z with
  | nil => exact fol_of (.inr (.inr (.inr rfl)))
  | cons c z =>
    have := hz c (by simp)
    simp only [tbB, Bool.or_eq_true, beq_iff_eq] at this
    rcases this with h | h
    · exact fol_of (.inl h)
    · exact fol_of (.inr (.inl h))
theorem MemReads.head {d : Bool} {s : List UInt8} {m : Mem} {r c : List UInt8} (q : MemReads d s m r c) : s ≠ [] ∧ tbB (s.headD 0) = false ∧ r.length < s.length := by
  have h1 := q.ends.ne
  refine ⟨by rw [q.eq]; simp [h1], ?_, by rw [q.eq, List.length_append]; have := List.length_pos_iff.2 h1; omega⟩
  rw [q.eq, head_app r h1]
  have h2 := q.ends.hd
  have h3 := q.h9
  unfold tbB
  rw [Bool.or_eq_false_iff]
  exact ⟨beq_eq_false_iff_ne.2 h2, beq_eq_false_iff_ne.2 h3⟩
theorem readF_fuel (d : Bool) : ∀ (f g : Nat) (acc : List Mem) (s : List UInt8), s.length < f → s.length < g → readF d f acc s = readF d g acc s
  | 0, _, _, _, h, _ => by omega
  | _ + 1, 0, _, _, _, h => by omega
  | f + 1, g + 1, acc, s, h1, h2 => by
    rw [readF, readF]
    cases he : eith d s with
    | none => rfl
    | some y =>
      obtain ⟨m, r⟩ := y
      obtain ⟨c, q⟩ := eith_reads he
      have hr := q.head.2.2
      simp only
      split
      · rfl
      · split
        · have h3 := tabs_len r
          have h4 := tabs_len ((tabs r).drop 1)
          have h5 : ((tabs r).drop 1).length ≤ (tabs r).length := by simp
          exact readF_fuel d f g _ _ (by omega) (by omega)
        · rfl

/-! ### one more of a key -/
theorem anyM (l : List Mem) (k : List UInt8) : (l.any fun q => q.key == k) = true ↔ k ∈ keysM l := by
  unfold keysM
  simp
theorem putM_new {l : List Mem} {m : Mem} (h : m.key ∉ keysM l) : putM l m = l ++ [m] := by
  unfold putM
  rw [if_neg (by rw [anyM]; exact h)]
def repM (m q : Mem) : Mem := if q.key == m.key then m else q
theorem putM_old {l : List Mem} {m : Mem} (h : m.key ∈ keysM l) : putM l m = l.map (repM m) := by
  unfold putM
  rw [if_pos (by rw [anyM]; exact h)]; rfl
theorem repM_key (m q : Mem) : (repM m q).key = q.key := by
  unfold repM
  split
  · rename_i h; exact (beq_iff_eq.1 h).symm
  · rfl
theorem keys_repM (l : List Mem) (m : Mem) : keysM (l.map (repM m)) = keysM l := by
  unfold keysM
  rw [List.map_map]
  exact List.map_congr_left (fun q _ => repM_key m q)
theorem repM_none {l : List Mem} {m : Mem} (h : m.key ∉ keysM l) : l.map (repM m) = l := by
  have : ∀ q ∈ l, repM m q = q := by
    intro q hq
    unfold repM
    rw [if_neg]
    intro he
    exact h (by rw [← beq_iff_eq.1 he]; exact List.mem_map_of_mem hq)
  rw [List.map_congr_left this, List.map_id']
def sumL (d : Bool) (l : List Mem) : Nat := (l.map fun m => (tx d m).length + 2).sum
theorem sumL_cons (d : Bool) (m : Mem) (l : List Mem) : sumL d (m :: l) = (tx d m).length + 2 + sumL d l := by simp [sumL]
theorem sumL_app (d : Bool) (a b : List Mem) : sumL d (a ++ b) = sumL d a + sumL d b := by simp [sumL]
theorem sum_repM (d : Bool) {m : Mem} : ∀ {l : List Mem}, (keysM l).Nodup → sumL d (l.map (repM m)) ≤ sumL d l + ((tx d m).length + 2)
  | [], _ => by simp [sumL]
  | q :: l, h => by
    have h' : (q.key :: keysM l).Nodup := h
    rw [List.nodup_cons] at h'
    rw [List.map_cons, sumL_cons, sumL_cons]
    by_cases e : q.key = m.key
    · have e1 : repM m q = m := by unfold repM; rw [if_pos (beq_iff_eq.2 e)]
      rw [e1, repM_none (by rw [← e]; exact h'.1)]
      omega
    · have e1 : repM m q = q := by unfold repM; rw [if_neg (by simpa using e)]
      have := sum_repM d (m := m) h'.2
      rw [e1]
      omega
/-- What a dictionary's, a list's members are. -/
structure VldM (d : Bool) (l : List Mem) : Prop where
  ok : ∀ m ∈ l, okE d m = true
  nodup : d = true → (keysM l).Nodup
theorem vldM_nil (d : Bool) : VldM d [] := ⟨by simp, fun _ => List.nodup_nil⟩
theorem add_vld {d : Bool} {l : List Mem} {m : Mem} (h : VldM d l) (hm : okE d m = true) : VldM d (addM d l m) ∧ sumL d (addM d l m) ≤ sumL d l + ((tx d m).length + 2) := by
  cases d with
  | false =>
    show VldM false (l ++ [m]) ∧ sumL false (l ++ [m]) ≤ _
    refine ⟨⟨fun q hq => ?_, fun h => by cases h⟩, by rw [sumL_app, sumL_cons]; simp [sumL]⟩
    rcases List.mem_append.1 hq with h1 | h1
    · exact h.ok q h1
    · simp at h1; rw [h1]; exact hm
  | true =>
    show VldM true (putM l m) ∧ sumL true (putM l m) ≤ _
    have hn := h.nodup rfl
    by_cases hk : m.key ∈ keysM l
    · rw [putM_old hk]
      refine ⟨⟨fun q hq => ?_, fun _ => by rw [keys_repM]; exact hn⟩, sum_repM true hn⟩
      obtain ⟨p, hp, rfl⟩ := List.mem_map.1 hq
      unfold repM
      split
      · exact hm
      · exact h.ok p hp
    · rw [putM_new hk]
      refine ⟨⟨fun q hq => ?_, fun _ => ?_⟩, by rw [sumL_app, sumL_cons]; simp [sumL]⟩
      · rcases List.mem_append.1 hq with h1 | h1
        · exact h.ok q h1
        · simp at h1; rw [h1]; exact hm
      · have e : keysM (l ++ [m]) = keysM l ++ [m.key] := by simp [keysM]
        rw [e, List.nodup_append]
        exact ⟨hn, by simp, by intro a ha b hb; simp at hb; subst hb; intro e; subst e; exact hk ha⟩
/-! ### what is read -/
structure RdReads (d : Bool) (acc : List Mem) (s : List UInt8) (l : List Mem) : Prop where
  vld : VldM d l
  len : sumL d l ≤ sumL d acc + 3 * s.length
  ne : l ≠ []
  loc : ∀ (z b : List UInt8), (∀ c ∈ z, tbB c = true) → ∀ f g, (s ++ (z ++ 44 :: b)).length < f → b.length < g → readF d f acc (s ++ (z ++ 44 :: b)) = readF d g l (tabs b)
theorem add_ne (d : Bool) (l : List Mem) (m : Mem) : addM d l m ≠ [] := by
  cases d with
  | false => show l ++ [m] ≠ []; simp
  | true =>
    show putM l m ≠ []
    unfold putM
    split
    · rename_i h
      intro h0
      have : l = [] := List.map_eq_nil_iff.1 h0
      subst this
      cases h
    · simp
theorem read_reads (d : Bool) : ∀ (f : Nat) (acc : List Mem) (s : List UInt8) (l : List Mem), VldM d acc → readF d f acc s = some l → RdReads d acc s l
  | 0, _, _, _, _, h => by cases h
  | f + 1, acc, s, l, hv, h => by
    rw [readF] at h
    cases he : eith d s with
    | none => rw [he] at h; cases h
    | some y =>
      obtain ⟨m, r⟩ := y
      rw [he] at h
      simp only at h
      obtain ⟨c, q⟩ := eith_reads he
      obtain ⟨v1, v2⟩ := add_vld hv q.ok
      have hc := List.length_pos_iff.2 q.ends.ne
      have hql := q.len
      have hsl : s.length = c.length + r.length := by rw [q.eq, List.length_append]
      split at h
      · rename_i ht
        cases h
        refine ⟨v1, by omega, add_ne d acc m, ?_⟩
        intro z b hz f' g hf' hg
        cases f' with
        | zero => omega
        | succ f' =>
          obtain ⟨y, hy, hy1⟩ := tabs_cut r
          rw [ht, List.append_nil] at hy
          have hry : ∀ c ∈ r ++ z, tbB c = true := by
            intro c hc
            rcases List.mem_append.1 hc with h | h
            · rw [hy] at h; exact hy1 c h
            · exact hz c h
          have e : s ++ (z ++ 44 :: b) = c ++ ((r ++ z) ++ 44 :: b) := by rw [q.eq]; simp
          rw [e] at hf' ⊢
          rw [readF, q.loc _ (fol_tabs hry b)]
          simp only
          rw [tabs_app hry (.inr (by simp [tbB])), if_neg (by simp), if_pos (by rfl)]
          simp only [List.drop_succ_cons, List.drop_zero]
          have h4 := tabs_len b
          simp only [List.length_append, List.length_cons] at hf'
          exact readF_fuel d _ _ _ _ (by omega) (by omega)
      · rename_i ht
        split at h
        · rename_i h44
          have hu : ∃ u, tabs r = 44 :: u := by
            cases hr : tabs r with
            | nil => exact absurd hr ht
            | cons a u => rw [hr] at h44; exact ⟨u, by rw [show a = 44 from h44]⟩
          obtain ⟨u, hu⟩ := hu
          rw [hu] at h
          simp only [List.drop_succ_cons, List.drop_zero] at h
          have q1 := read_reads d f _ _ _ v1 h
          have h4 := tabs_len u
          have h5 := tabs_len r
          rw [hu, List.length_cons] at h5
          have hune : tabs u ≠ [] := by
            intro h0
            rw [h0] at h
            cases f with
            | zero => cases h
            | succ f =>
              rw [readF] at h
              cases he2 : eith d [] with
              | none => rw [he2] at h; cases h
              | some y => obtain ⟨m', r'⟩ := y; obtain ⟨_, q'⟩ := eith_reads he2; exact absurd rfl q'.head.1
          refine ⟨q1.vld, by have := q1.len; omega, q1.ne, ?_⟩
          intro z b hz f' g hf' hg
          cases f' with
          | zero => omega
          | succ f' =>
            obtain ⟨W, hW⟩ : ∃ W, z ++ 44 :: b = W := ⟨_, rfl⟩
            have e : s ++ W = c ++ (r ++ W) := by rw [q.eq]; simp
            have hfol : Fol (r ++ W) := by
              obtain ⟨y, hy, hy1⟩ := tabs_cut r
              rw [hu] at hy
              rw [hy, List.append_assoc, List.cons_append]
              exact fol_tabs hy1 _
            rw [hW] at hf' ⊢
            rw [e] at hf' ⊢
            rw [readF, q.loc _ hfol]
            simp only
            rw [tabs_more W ht, hu, List.cons_append, if_neg (by simp), if_pos (by rfl)]
            simp only [List.drop_succ_cons, List.drop_zero]
            rw [tabs_more W hune, ← hW]
            refine q1.loc z b hz f' g ?_ hg
            rw [hW]
            simp only [List.length_append] at hf' ⊢
            omega
        · cases h
/-! ### back -/
theorem tx_ends {d : Bool} {m : Mem} (h : okE d m = true) : tx d m ≠ [] ∧ tbB ((tx d m).headD 0) = false ∧ Ends (tx d m) := by
  have h1 := eith_text h fol_nil
  rw [List.append_nil] at h1
  obtain ⟨c, q⟩ := eith_reads h1
  have h2 := q.eq
  rw [List.append_nil] at h2
  exact ⟨q.head.1, q.head.2.1, by rw [h2]; exact q.ends⟩
theorem jn_two (a : List UInt8) (b : List UInt8) (l : List (List UInt8)) : jn [44, 32] (a :: b :: l) = a ++ 44 :: 32 :: jn [44, 32] (b :: l) := by simp [jn]
theorem read_text {d : Bool} : ∀ (l : List Mem) (acc : List Mem) (f : Nat), l ≠ [] → (∀ m ∈ l, okE d m = true) → (d = true → (keysM acc ++ keysM l).Nodup) → (jn [44, 32] (l.map (tx d))).length < f → readF d f acc (jn [44, 32] (l.map (tx d))) = some (acc ++ l)
  | _, _, 0, _, _, _, hf => by omega
  | [], _, _, h, _, _, _ => absurd rfl h
  | [m], acc, f + 1, _, hm, hn, _ => by
    have e : jn [44, 32] ([m].map (tx d)) = tx d m ++ [] := by simp [jn]
    rw [e, readF, eith_text (hm m (by simp)) fol_nil]
    simp only
    rw [if_pos (by rfl)]
    cases d with
    | false => rfl
    | true =>
      have hk : m.key ∉ keysM acc := by
        intro hc
        have := hn rfl
        rw [List.nodup_append] at this
        exact this.2.2 _ hc _ (by simp [keysM]) rfl
      show some (putM acc m) = _
      rw [putM_new hk]
  | m :: m2 :: l, acc, f + 1, _, hm, hn, hf => by
    have e : jn [44, 32] ((m :: m2 :: l).map (tx d)) = tx d m ++ 44 :: 32 :: jn [44, 32] ((m2 :: l).map (tx d)) := jn_two _ _ _
    have hadd : addM d acc m = acc ++ [m] := by
      cases d with
      | false => rfl
      | true =>
        have hk : m.key ∉ keysM acc := by
          intro hc
          have := hn rfl
          rw [List.nodup_append] at this
          exact this.2.2 _ hc _ (by simp [keysM]) rfl
        exact putM_new hk
    have h2 := tx_ends (hm m2 (by simp))
    have hj : tabs (32 :: jn [44, 32] ((m2 :: l).map (tx d))) = jn [44, 32] ((m2 :: l).map (tx d)) := by
      refine tabs_app (z := [32]) (by simp [tbB]) (.inr ?_)
      show tbB ((tx d m2 ++ _).headD 0) = false
      rw [head_app _ h2.1]; exact h2.2.1
    rw [e] at hf ⊢
    rw [readF, eith_text (hm m (by simp)) (fol_of (.inr (.inr (.inr rfl))))]
    simp only
    have ht : tabs (44 :: 32 :: jn [44, 32] ((m2 :: l).map (tx d))) = 44 :: 32 :: jn [44, 32] ((m2 :: l).map (tx d)) := tabs_app (z := []) (by simp) (.inr (by simp [tbB]))
    rw [ht, if_neg (by simp), if_pos (by rfl)]
    simp only [List.drop_succ_cons, List.drop_zero]
    rw [hj, hadd, read_text (m2 :: l) (acc ++ [m]) f (by simp) (fun q hq => hm q (List.mem_cons_of_mem _ hq)) (fun h => by have := hn h; simpa [keysM] using this) (by simp only [List.length_append, List.length_cons] at hf; omega)]
    simp
theorem jn_ends {d : Bool} : ∀ {l : List Mem}, l ≠ [] → (∀ m ∈ l, okE d m = true) → Ends (jn [44, 32] (l.map (tx d)))
  | [], h, _ => absurd rfl h
  | [m], _, hm => by
    have e : jn [44, 32] ([m].map (tx d)) = tx d m := by simp [jn]
    rw [e]; exact (tx_ends (hm m (by simp))).2.2
  | m :: m2 :: l, _, hm => by
    have e : jn [44, 32] ((m :: m2 :: l).map (tx d)) = tx d m ++ 44 :: 32 :: jn [44, 32] ((m2 :: l).map (tx d)) := jn_two _ _ _
    have h1 := (tx_ends (hm m (by simp))).2.2
    have h2 := jn_ends (d := d) (l := m2 :: l) (by simp) (fun q hq => hm q (List.mem_cons_of_mem _ hq))
    rw [e]
    refine ends_app h1.ne h1.hd (by simp) ?_
    rw [show (44 :: 32 :: jn [44, 32] ((m2 :: l).map (tx d))) = [44, 32] ++ jn [44, 32] ((m2 :: l).map (tx d)) from rfl, last_app _ h2.ne]
    exact h2.la
theorem textL_ways {d : Bool} {l : List Mem} {t : List UInt8} (h : textL d l = some t) : VldM d l ∧ t = jn [44, 32] (l.map (tx d)) := by
  unfold textL at h
  split at h
  · rename_i hc
    cases h
    exact ⟨⟨fun m hm => List.all_eq_true.1 hc.1 m hm, hc.2⟩, rfl⟩
  · cases h
theorem textL_of {d : Bool} {l : List Mem} (h : VldM d l) : textL d l = some (jn [44, 32] (l.map (tx d))) := by
  unfold textL
  rw [if_pos ⟨List.all_eq_true.2 h.ok, h.nodup⟩]
/-- Members that may be are read from their text. -/
theorem read_back {d : Bool} {l : List Mem} {t : List UInt8} (h : textL d l = some t) (ht : t.length ≤ 4000) : readL d t = some l := by
  obtain ⟨hv, rfl⟩ := textL_ways h
  unfold readL
  rw [if_neg (by omega)]
  by_cases hl : l = []
  · subst hl; rfl
  · have he := jn_ends hl hv.ok
    rw [trim_ends he, if_neg he.ne, read_text l [] _ hl hv.ok (fun h => by simpa [keysM] using hv.nodup h) (by omega)]
    simp
theorem jn_sum (d : Bool) (l : List Mem) : (jn [44, 32] (l.map (tx d))).length ≤ sumL d l := by
  cases l with
  | nil => simp [jn, sumL]
  | cons m l =>
    rw [sumL_cons]
    simp only [List.map_cons, jn, List.length_append]
    have : ((l.map (tx d)).flatMap fun b => [44, 32] ++ b).length = sumL d l := by
      induction l with
      | nil => rfl
      | cons q l ih => rw [sumL_cons, List.map_cons, List.flatMap_cons, List.length_append, ih]; simp
    omega
/-- How a field is read. -/
theorem readL_ways {d : Bool} {s : List UInt8} {l : List Mem} (h : readL d s = some l) : s.length ≤ 4000 ∧ ((trimS s = [] ∧ l = []) ∨ (trimS s ≠ [] ∧ readF d ((trimS s).length + 1) [] (trimS s) = some l)) := by
  unfold readL at h
  split at h
  · cases h
  · split at h
    · rename_i h1 h2
      cases h
      exact ⟨by omega, .inl ⟨h2, rfl⟩⟩
    · rename_i h1 h2
      exact ⟨by omega, .inr ⟨h2, h⟩⟩
/-- What is read may be, and is read again as itself. -/
theorem read_again {d : Bool} {s : List UInt8} {l : List Mem} (h : readL d s = some l) (hs : s.length ≤ 1000) : ∃ t, textL d l = some t ∧ t.length ≤ 4000 ∧ readL d t = some l := by
  obtain ⟨_, ⟨_, rfl⟩ | ⟨_, h1⟩⟩ := readL_ways h
  · exact ⟨[], textL_of (vldM_nil d), by simp, rfl⟩
  · have q := read_reads d _ _ _ _ (vldM_nil d) h1
    have h2 := q.len
    have h3 := trim_len s
    have h4 := jn_sum d l
    have h5 : sumL d [] = 0 := rfl
    have h6 := textL_of q.vld
    exact ⟨_, h6, by omega, read_back h6 (by omega)⟩
end Sf
end Go.Proofs.YtogjekjklknfeaaGreatDoor

/- Lists and dictionaries of structured fields: joins, keys, items between brackets. No program is named here. -/

namespace Go.Proofs.YtogjekjklknfeaaGreatDoor
namespace Sf
open Oct

theorem trim_pad {z1 x z2 : List UInt8} (h1 : ∀ c ∈ z1, c = 32) (hx : Ends x) (h2 : ∀ c ∈ z2, c = 32) : trimS (z1 ++ (x ++ z2)) = x := by
  obtain ⟨b, hb⟩ := last_split hx.ne
  unfold trimS
  rw [blk_app h1 (by rw [head_app z2 hx.ne]; exact hx.hd), List.reverse_append]
  have e : z2.reverse.dropWhile (fun b => b == 32) = [] := by
    have := List.dropWhile_append_of_pos (p := fun b : UInt8 => b == 32) (l₁ := z2.reverse) (l₂ := []) (fun c hc => by rw [h2 c (List.mem_reverse.1 hc)]; rfl)
    simpa using this
  rw [List.dropWhile_append_of_pos (fun c hc => by rw [h2 c (List.mem_reverse.1 hc)]; rfl)]
  have e2 : x.reverse = x.getLastD 0 :: b.reverse := by
    conv => lhs; rw [hb]
    simp
  have hl := hx.la
  rw [e2, List.dropWhile_cons, if_neg (by simpa using hl), ← e2, List.reverse_reverse]
theorem trim_cut {s : List UInt8} (h : trimS s ≠ []) : ∃ z1 z2, s = z1 ++ (trimS s ++ z2) ∧ (∀ c ∈ z1, c = 32) ∧ (∀ c ∈ z2, c = 32) ∧ Ends (trimS s) := by
  obtain ⟨z1, e1, h1⟩ := blk_cut s
  have e2 : (blk s).reverse.takeWhile (fun b => b == 32) ++ (blk s).reverse.dropWhile (fun b => b == 32) = (blk s).reverse := List.takeWhile_append_dropWhile
  have e3 : blk s = trimS s ++ ((blk s).reverse.takeWhile (fun b => b == 32)).reverse := by
    have := congrArg List.reverse e2
    rw [List.reverse_append, List.reverse_reverse] at this
    exact this.symm
  have h2 : ∀ c ∈ ((blk s).reverse.takeWhile (fun b => b == 32)).reverse, c = 32 := by
    intro c hc
    have := List.all_eq_true.1 (List.all_takeWhile (p := fun b : UInt8 => b == 32) (l := (blk s).reverse)) c (List.mem_reverse.1 hc)
    exact beq_iff_eq.1 this
  refine ⟨z1, _, by rw [← e3]; exact e1, h1, h2, ⟨h, ?_, ?_⟩⟩
  · have hb : (blk s).headD 0 = (trimS s).headD 0 := by rw [e3, head_app _ h]; 
    rw [← hb]
    intro h32
    have hne : blk s ≠ [] := by rw [e3]; simp [h]
    have : ∀ t : List UInt8, blk t ≠ [] → (blk t).headD 0 ≠ 32 := by
      intro t
      unfold blk
      induction t with
      | nil => intro h; exact absurd rfl h
      | cons c t ih =>
        by_cases hc : c = 32
        · subst hc; rw [List.dropWhile_cons_of_pos (by rfl)]; exact ih
        · rw [List.dropWhile_cons_of_neg (by simpa using hc)]; intro _; exact hc
    exact this s hne h32
  · have : ∀ t : List UInt8, t.dropWhile (fun b => b == 32) ≠ [] → (t.dropWhile (fun b => b == 32)).headD 0 ≠ 32 := by
      intro t
      induction t with
      | nil => intro h; exact absurd rfl h
      | cons c t ih =>
        by_cases hc : c = 32
        · subst hc; rw [List.dropWhile_cons_of_pos (by rfl)]; exact ih
        · rw [List.dropWhile_cons_of_neg (by simpa using hc)]; intro _; exact hc
    have e4 : (trimS s).reverse = (blk s).reverse.dropWhile (fun b => b == 32) := by unfold trimS; rw [List.reverse_reverse]
    have h5 := this (blk s).reverse (by rw [← e4]; simp [h])
    rw [← e4] at h5
    obtain ⟨b, hb⟩ := last_split h
    rw [hb] at h5 ⊢
    simpa using h5
theorem readF_acc : ∀ (f : Nat) (a acc : List Mem) (s : List UInt8), readF false f (a ++ acc) s = (readF false f acc s).map fun l => a ++ l
  | 0, _, _, _ => rfl
  | f + 1, a, acc, s => by
    rw [readF, readF]
    cases eith false s with
    | none => rfl
    | some y =>
      obtain ⟨m, r⟩ := y
      simp only
      have e : addM false (a ++ acc) m = a ++ addM false acc m := by show a ++ acc ++ [m] = a ++ (acc ++ [m]); simp
      split
      · rw [e]; rfl
      · split
        · rw [e, readF_acc f a (addM false acc m)]
        · rfl
theorem tb32 {z : List UInt8} (h : ∀ c ∈ z, c = 32) : ∀ c ∈ z, tbB c = true := fun c hc => by rw [h c hc]; rfl
theorem readF_head {d : Bool} {f : Nat} {acc : List Mem} {s : List UInt8} {l : List Mem} (h : readF d f acc s = some l) : s ≠ [] ∧ tbB (s.headD 0) = false := by
  cases f with
  | zero => cases h
  | succ f =>
    rw [readF] at h
    cases he : eith d s with
    | none => rw [he] at h; cases h
    | some y => obtain ⟨m, r⟩ := y; obtain ⟨c, q⟩ := eith_reads he; exact ⟨q.head.1, q.head.2.1⟩
/-- A field, and one more behind a comma. -/
theorem read_more {d : Bool} {s w : List UInt8} {l : List Mem} (h : readL d s = some l) (hl : l ≠ []) (z b : List UInt8) (hz : ∀ c ∈ z, tbB c = true) (hb : tabs b = w) (hw : w ≠ []) (hlast : Ends w) (hbw : ∃ y, b = y ++ w) (z4 : List UInt8) (hz4 : ∀ c ∈ z4, c = 32) (hlen : (s ++ (z ++ 44 :: (b ++ z4))).length ≤ 4000) :
    readL d (s ++ (z ++ 44 :: (b ++ z4))) = readF d (w.length + 1) l w := by
  obtain ⟨_, ⟨_, h0⟩ | ⟨h1, h2⟩⟩ := readL_ways h
  · exact absurd h0 hl
  obtain ⟨z1, z2, e, hz1, hz2, he⟩ := trim_cut h1
  obtain ⟨A, hA⟩ : ∃ A, trimS s = A := ⟨_, rfl⟩
  rw [hA] at e he h1 h2
  obtain ⟨y, hy⟩ := hbw
  have hb0 : b ≠ [] := by rw [hy]; simp [hw]
  have q := read_reads d _ _ _ _ (vldM_nil d) h2
  have e1 : s ++ (z ++ 44 :: (b ++ z4)) = z1 ++ ((A ++ ((z2 ++ z) ++ 44 :: b)) ++ z4) := by rw [e]; simp
  have hbl : b.getLastD 0 ≠ 32 := by rw [hy, last_app y hw]; exact hlast.la
  have he2 : Ends (A ++ ((z2 ++ z) ++ 44 :: b)) := by
    refine ends_app he.ne he.hd (by simp) ?_
    rw [last_app _ (by simp), show (44 :: b) = [44] ++ b from rfl, last_app [44] hb0]
    exact hbl
  unfold readL
  rw [if_neg (by omega), e1, trim_pad hz1 he2 hz4, if_neg he2.ne]
  have hzz : ∀ c ∈ z2 ++ z, tbB c = true := by
    intro c hc
    rcases List.mem_append.1 hc with h | h
    · exact tb32 hz2 c h
    · exact hz c h
  rw [q.loc (z2 ++ z) b hzz _ (b.length + 1) (by omega) (by omega), hb]
  have hwb : w.length ≤ b.length := by rw [← hb]; exact tabs_len b
  exact readF_fuel d _ _ _ _ (by omega) (by omega)
/-- Two lists with a comma between are one. -/
theorem read_joins {a b : List UInt8} {l m : List Mem} (ha : readL false a = some l) (hb : readL false b = some m) (hl : l ≠ []) (hm : m ≠ []) (hlen : a.length + b.length + 4 ≤ 4000) : readL false (a ++ ([9, 44, 32, 32] ++ b)) = some (l ++ m) := by
  obtain ⟨_, ⟨_, h0⟩ | ⟨h1, h2⟩⟩ := readL_ways hb
  · exact absurd h0 hm
  obtain ⟨z3, z4, e, hz3, hz4, he⟩ := trim_cut h1
  obtain ⟨B, hB⟩ : ∃ B, trimS b = B := ⟨_, rfl⟩
  rw [hB] at e he h1 h2
  have hh := readF_head h2
  have hz : ∀ c ∈ ([32, 32] ++ z3 : List UInt8), tbB c = true := by
    intro c hc
    rcases List.mem_append.1 hc with h | h
    · simp at h; rw [h]; rfl
    · exact tb32 hz3 c h
  have ht : tabs (([32, 32] ++ z3) ++ B) = B := tabs_app hz (.inr hh.2)
  have e1 : a ++ ([9, 44, 32, 32] ++ b) = a ++ ([9] ++ 44 :: ((([32, 32] ++ z3) ++ B) ++ z4)) := by rw [e]; simp
  have hlb : (a ++ ([9, 44, 32, 32] ++ b)).length ≤ 4000 := by simp; omega
  rw [e1] at hlb ⊢
  rw [read_more ha hl [9] _ (by simp [tbB]) ht h1 he ⟨_, rfl⟩ z4 hz4 hlb]
  have := readF_acc (B.length + 1) l [] B
  rw [List.append_nil, h2] at this
  rw [this]; rfl
/-- A field that is an item is a list of it. -/
theorem read_item {a : List UInt8} {x : Itm} (h : parse a = some x) : readL false a = some [⟨[], false, x, [], []⟩] := by
  obtain ⟨h1, h2⟩ := parse_ways h
  have hh := next_head h2
  have he : eith false (trimS a) = some (⟨[], false, x, [], []⟩, []) := by
    show memb _ = _
    unfold memb
    rw [if_neg hh.2.1, h2]
  unfold readL
  rw [if_neg (by omega), if_neg hh.1, readF, he]
  rfl
/-! ### one more of a key -/
def m77 (k : List UInt8) : Mem := ⟨k, false, ⟨1, 77, [], []⟩, [], []⟩
theorem text77 : text ⟨1, 77, [], []⟩ = some [55, 55] := by
  have := text_of (x := ⟨1, 77, [], []⟩) (vt1 (by decide) (by decide)) vld_nil
  rw [itoa77] at this
  exact this
theorem tx77 (k : List UInt8) : tx true (m77 k) = k ++ [61, 55, 55] := by
  show dt (m77 k) = _
  unfold dt
  rw [if_neg (by simp [oneB, m77])]
  show k ++ 61 :: itxt ⟨1, 77, [], []⟩ = _
  unfold itxt
  rw [text77]; rfl
theorem ok77 {k : List UInt8} (h : keyB k = true) : okE true (m77 k) = true := by
  have : okM (m77 k) = true := by
    show ((text ⟨1, 77, [], []⟩).isSome && _) = true
    rw [text77]; rfl
  unfold okE
  rw [this, Bool.true_and]
  exact h
theorem read_keys {s : List UInt8} {l : List Mem} (h : readL true s = some l) {k : List UInt8} (hk : k ∈ keysM l) (hlen : s.length + k.length + 4 ≤ 4000) : readL true (s ++ (44 :: (k ++ [61, 55, 55]))) = some (l.map (repM (m77 k))) := by
  have hl : l ≠ [] := by rintro rfl; cases hk
  obtain ⟨_, ⟨_, h0⟩ | ⟨h1, h2⟩⟩ := readL_ways h
  · exact absurd h0 hl
  have q := read_reads true _ _ _ _ (vldM_nil true) h2
  obtain ⟨m, hm, rfl⟩ := List.mem_map.1 hk
  have hkb : keyB m.key = true := by
    have := q.vld.ok m hm
    simp only [okE, Bool.and_eq_true] at this
    simpa using this.2
  have h7 := tx_ends (ok77 hkb)
  rw [tx77] at h7
  have ht : tabs (m.key ++ [61, 55, 55]) = m.key ++ [61, 55, 55] := tabs_app (z := []) (by simp) (.inr h7.2.1)
  have := read_more h hl [] (m.key ++ [61, 55, 55]) (by simp) ht h7.1 h7.2.2 ⟨[], rfl⟩ [] (by simp) (by simp; omega)
  rw [List.append_nil, List.nil_append] at this
  rw [this, readF]
  have he := eith_text (ok77 hkb) fol_nil
  rw [List.append_nil, tx77] at he
  rw [he]
  simp only
  rw [if_pos (by rfl)]
  show some (putM l (m77 m.key)) = _
  rw [putM_old (by exact hk)]
theorem read_nodup {s : List UInt8} {l : List Mem} (h : readL true s = some l) : (keysM l).Nodup ∧ ∀ m ∈ l, keyB m.key = true := by
  obtain ⟨_, ⟨_, rfl⟩ | ⟨h1, h2⟩⟩ := readL_ways h
  · exact ⟨List.nodup_nil, by simp⟩
  · have q := read_reads true _ _ _ _ (vldM_nil true) h2
    refine ⟨q.vld.nodup rfl, fun m hm => ?_⟩
    have := q.vld.ok m hm
    simp only [okE, Bool.and_eq_true] at this
    simpa using this.2
theorem repM_set {l : List Mem} {m : Mem} (hn : (keysM l).Nodup) {i : Nat} (hi : i < l.length) (hk : l[i].key = m.key) : l.map (repM m) = l.set i m := by
  apply List.ext_getElem (by simp)
  intro j h1 h2
  have hj : j < l.length := by simpa using h1
  simp only [List.getElem_map, List.getElem_set]
  unfold repM
  by_cases e : i = j
  · subst e
    rw [if_pos (beq_iff_eq.2 hk), if_pos rfl]
  · rw [if_neg e, if_neg]
    intro he
    have hkj : l[j].key = l[i].key := by rw [hk]; exact beq_iff_eq.1 he
    have h3 : (keysM l)[j]'(by simpa [keysM] using hj) = (keysM l)[i]'(by simpa [keysM] using hi) := by simpa [keysM] using hkj
    exact e ((List.getElem_inj hn).1 h3).symm
/-! ### items between brackets -/
theorem okM_inner (l : List Itm) (p : List Par) : okM ⟨[], true, zItm, l, p⟩ = (l.all (fun x => (text x).isSome) && (tailF [] p).isSome) := by
  have h1 : okM ⟨[], true, zItm, l, p⟩ = (bareB zItm && (l.all (fun x => (text x).isSome) && (tailF [] p).isSome)) := rfl
  rw [h1, show bareB zItm = true from rfl, Bool.true_and]
theorem read_items {l : List Itm} {p : List Par} (hl : ∀ x ∈ l, (text x).isSome = true) (hp : Vld p) (hlen : (40 :: ((l.flatMap fun x => 32 :: itxt x) ++ ([32, 32] ++ 41 :: T p))).length ≤ 4000) :
    readL false (40 :: ((l.flatMap fun x => 32 :: itxt x) ++ ([32, 32] ++ 41 :: T p))) = some [⟨[], true, zItm, l, p⟩] := by
  have e1 : (l.flatMap fun x => 32 :: itxt x) = bod (l.map fun x => ([32], x)) := by simp [bod, List.flatMap_map]
  have hi := inn_bod hp fol_nil (e := [32, 32]) (by simp) (l.map fun x => ([32], x)) [] ((bod (l.map fun x => ([32], x)) ++ ([32, 32] ++ 41 :: (T p ++ []))).length + 1)
    (fun q hq => by obtain ⟨x, hx, rfl⟩ := List.mem_map.1 hq; exact ⟨by simp, hl x hx⟩) (fun h => absurd rfl h)
    (fun q hq => by obtain ⟨x, _, rfl⟩ := List.mem_map.1 (List.mem_of_mem_tail hq); simp) (by omega)
  rw [List.append_nil, ← e1, List.map_map, show ((fun x : List UInt8 × Itm => x.2) ∘ fun y : Itm => (([32] : List UInt8), y)) = id from rfl, List.map_id, List.nil_append] at hi
  obtain ⟨U, hU⟩ : ∃ U, (l.flatMap fun x => 32 :: itxt x) ++ ([32, 32] ++ 41 :: T p) = U := ⟨_, rfl⟩
  rw [hU] at hi hlen ⊢
  have he : eith false (40 :: U) = some (⟨[], true, zItm, l, p⟩, []) := by
    have h1 : eith false (40 :: U) = memb (40 :: U) := rfl
    rw [h1, memb, if_pos (by rfl)]
    exact hi
  have hends : Ends (40 :: U) := by
    refine ⟨by simp, by show (40 : UInt8) ≠ 32; decide, ?_⟩
    rw [← hU]
    have e2 : 40 :: ((l.flatMap fun x => 32 :: itxt x) ++ ([32, 32] ++ 41 :: T p)) = (40 :: ((l.flatMap fun x => 32 :: itxt x) ++ [32, 32])) ++ 41 :: T p := by simp
    rw [e2, last_app _ (by simp)]
    rcases T_last hp with h | h
    · rw [h]; decide
    · by_cases h0 : T p = []
      · rw [h0]; decide
      · rw [show (41 :: T p) = [41] ++ T p from rfl, last_app [41] h0]; exact h
  unfold readL
  rw [if_neg (by omega), trim_ends hends, if_neg hends.ne, readF, he]
  rfl
end Sf
end Go.Proofs.YtogjekjklknfeaaGreatDoor

/- Lists and dictionaries of structured fields: how reading goes on, step by step. No program is named here. -/

namespace Go.Proofs.YtogjekjklknfeaaGreatDoor
namespace Sf
open Oct

theorem next_short {s : List UInt8} {x : Itm} {r : List UInt8} (h : next s = some (x, r)) : r.length < s.length := by
  obtain ⟨c, v, q⟩ := next_reads h
  have := List.length_pos_iff.2 q.ends.ne
  rw [q.eq, List.length_append]; omega
theorem blk_short (s : List UInt8) : (blk s).length ≤ s.length := (List.dropWhile_suffix _).length_le
theorem innF_fuel : ∀ (f g : Nat) (acc : List Itm) (s : List UInt8), s.length < f → s.length < g → innF f acc s = innF g acc s
  | 0, _, _, _, h, _ => by omega
  | _ + 1, 0, _, _, _, h => by omega
  | f + 1, g + 1, acc, s, h1, h2 => by
    rw [innF, innF]
    split
    · rfl
    · split
      · rfl
      · cases hn : next (blk s) with
        | none => rfl
        | some y =>
          obtain ⟨x, r⟩ := y
          have h3 := next_short hn
          have h4 := blk_short s
          exact innF_fuel f g _ _ (by omega) (by omega)
theorem next_nil : next [] = none := rfl
/-- Behind nothing but blanks there is no item. -/
theorem inn_end {acc : List Itm} {s : List UInt8} (h : blk s = []) : innF (s.length + 1) acc s = none := by
  rw [innF, h, if_neg (by decide)]
  split
  · rfl
  · rw [next_nil]
theorem inn_shut {acc : List Itm} {s t : List UInt8} (h : blk s = 41 :: t) : innF (s.length + 1) acc s = match pars t with | none => none | some (l, r) => some (⟨[], true, zItm, acc, l⟩, r) := by
  rw [innF, h, if_pos (by rfl)]; rfl
theorem inn_tight {acc : List Itm} {s t : List UInt8} {c : UInt8} (h : blk s = c :: t) (hc : c ≠ 41) (ha : acc ≠ []) (hl : (c :: t).length = s.length) : innF (s.length + 1) acc s = none := by
  rw [innF, h, if_neg (by exact hc), if_pos ⟨ha, hl⟩]
theorem inn_none {acc : List Itm} {s t : List UInt8} {c : UInt8} (h : blk s = c :: t) (hc : c ≠ 41) (hn : next (c :: t) = none) : innF (s.length + 1) acc s = none := by
  rw [innF, h, if_neg (by exact hc)]
  split
  · rfl
  · rw [hn]
theorem inn_step {acc : List Itm} {s t r : List UInt8} {c : UInt8} {x : Itm} (h : blk s = c :: t) (hc : c ≠ 41) (ha : acc = [] ∨ (c :: t).length ≠ s.length) (hn : next (c :: t) = some (x, r)) : innF (s.length + 1) acc s = innF (r.length + 1) (acc ++ [x]) r := by
  rw [innF, h, if_neg (by exact hc), if_neg (by rintro ⟨h1, h2⟩; rcases ha with h | h; exact h1 h; exact h h2), hn]
  have h3 := next_short hn
  have h4 := blk_short s
  rw [h] at h4
  exact innF_fuel _ _ _ _ (by omega) (by omega)
theorem read_step {d : Bool} {acc : List Mem} {s r u : List UInt8} {m : Mem} (he : eith d s = some (m, r)) (hu : tabs r = 44 :: u) : readF d (s.length + 1) acc s = readF d ((tabs u).length + 1) (addM d acc m) (tabs u) := by
  obtain ⟨c, q⟩ := eith_reads he
  have h1 := q.head.2.2
  have h2 := tabs_len r
  have h3 := tabs_len u
  rw [hu, List.length_cons] at h2
  rw [readF, he]
  simp only
  rw [hu, if_neg (by simp), if_pos (by rfl)]
  simp only [List.drop_succ_cons, List.drop_zero]
  exact readF_fuel d _ _ _ _ (by omega) (by omega)
theorem read_last {d : Bool} {acc : List Mem} {s r : List UInt8} {m : Mem} (he : eith d s = some (m, r)) (hu : tabs r = []) : readF d (s.length + 1) acc s = some (addM d acc m) := by
  rw [readF, he]
  simp only
  rw [if_pos hu]
theorem read_off {d : Bool} {acc : List Mem} {s r u : List UInt8} {m : Mem} {c : UInt8} (he : eith d s = some (m, r)) (hu : tabs r = c :: u) (hc : c ≠ 44) : readF d (s.length + 1) acc s = none := by
  rw [readF, he]
  simp only
  rw [hu, if_neg (by simp), if_neg (by exact hc)]
theorem read_no {d : Bool} {acc : List Mem} {s : List UInt8} (he : eith d s = none) : readF d (s.length + 1) acc s = none := by
  rw [readF, he]
theorem eith_nil (d : Bool) : eith d [] = none := by
  cases d <;> rfl
theorem read_nil {d : Bool} {acc : List Mem} {f : Nat} : readF d f acc [] = none := by
  cases f with
  | zero => rfl
  | succ f => rw [readF, eith_nil]
theorem eith_short {d : Bool} {s r : List UInt8} {m : Mem} (he : eith d s = some (m, r)) : r.length < s.length := by
  obtain ⟨c, q⟩ := eith_reads he
  exact q.head.2.2
theorem add_len (d : Bool) (l : List Mem) (m : Mem) : (addM d l m).length ≤ l.length + 1 := by
  cases d with
  | false => show (l ++ [m]).length ≤ _; simp
  | true =>
    show (putM l m).length ≤ _
    unfold putM
    split <;> simp
end Sf
end Go.Proofs.YtogjekjklknfeaaGreatDoor
