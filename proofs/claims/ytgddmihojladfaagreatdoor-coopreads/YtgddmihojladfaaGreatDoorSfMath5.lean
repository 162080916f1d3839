/- Items of structured fields: there and back. No program is named here. -/
import Derived.Test.YtgddmihojladfaaGreatDoorSfMath4
namespace Go.Proofs.YtgddmihojladfaaGreatDoor
namespace Sf
open Oct

theorem last_split {a : List UInt8} (h : a ≠ []) : ∃ b, a = b ++ [a.getLastD 0] := by
  refine ⟨a.dropLast, ?_⟩
  have e : a.getLastD 0 = a.getLast h := by rw [List.getLastD_eq_getLast?, List.getLast?_eq_some_getLast h]; rfl
  rw [e]
  exact (List.dropLast_concat_getLast h).symm
theorem trim_ends {a : List UInt8} (h : Ends a) : trimS a = a := by
  have e1 : blk a = a := by
    have := blk_app (z := []) (x := a) (by simp) h.hd
    exact this
  obtain ⟨b, hb⟩ := last_split h.ne
  have hl := h.la
  unfold trimS
  rw [e1]
  have e2 : a.reverse = a.getLastD 0 :: b.reverse := by
    conv => lhs; rw [hb]
    simp
  rw [e2, List.dropWhile_cons, if_neg (by simpa using hl), ← e2, List.reverse_reverse]
theorem trim_len (s : List UInt8) : (trimS s).length ≤ s.length := by
  unfold trimS blk
  rw [List.length_reverse]
  have h1 := (List.dropWhile_suffix (p := fun b : UInt8 => b == 32) (l := (s.dropWhile fun b => b == 32).reverse)).length_le
  have h2 := (List.dropWhile_suffix (p := fun b : UInt8 => b == 32) (l := s)).length_le
  rw [List.length_reverse] at h1
  omega
theorem vtext_ends {k n : Int} {t v : List UInt8} (h : vtext k n t = some v) : Ends v := by
  have h1 := value_back h (r := []) (.inl rfl)
  rw [List.append_nil] at h1
  obtain ⟨a, t', q⟩ := value_reads h1
  have := q.eq
  rw [List.append_nil] at this
  rw [this]
  exact q.ends
theorem vld_nil : Vld [] := ⟨List.nodup_nil, fun _ h => by cases h⟩
theorem T_last {l : List Par} (h : Vld l) : T l = [] ∨ (T l).getLastD 0 ≠ 32 := by
  have h1 := tail_pars h.may [] [] (by simpa [keys] using h.nodup) (.inl rfl) (by decide) ((T l).length + 1) (by simp)
  rw [List.append_nil, List.nil_append] at h1
  have h2 : parsF ((T l).length + 1) [] (T l) = some (l, []) := by rw [h1]; rfl
  obtain ⟨b, q⟩ := pars_reads _ _ _ _ _ vld_nil h2
  have := q.eq
  rw [List.append_nil] at this
  rw [this]
  rcases q.be with h | h
  · exact .inl h
  · exact .inr h.2
/-- An item may be just if it has a text. -/
theorem text_ways {x : Itm} {t : List UInt8} (h : text x = some t) : ∃ v, vtext x.kind x.n x.text = some v ∧ Vld x.params ∧ t = v ++ T x.params := by
  unfold text at h
  cases hv : vtext x.kind x.n x.text with
  | none => rw [hv] at h; cases h
  | some v =>
    rw [hv] at h
    simp only at h
    cases ht : tailF [] x.params with
    | none => rw [ht] at h; cases h
    | some b =>
      rw [ht] at h
      cases h
      obtain ⟨h1, h2⟩ := vld_of ht
      exact ⟨v, rfl, h1, by rw [h2]⟩
theorem text_of {x : Itm} {v : List UInt8} (h : vtext x.kind x.n x.text = some v) (hl : Vld x.params) : text x = some (v ++ T x.params) := by
  unfold text
  rw [h, tail_vld hl]
  rfl
theorem ends_text {k n : Int} {t v : List UInt8} (h : vtext k n t = some v) {l : List Par} (hl : Vld l) : Ends (v ++ T l) := by
  have e := vtext_ends h
  rcases T_last hl with h0 | h0
  · rw [h0, List.append_nil]; exact e
  · by_cases hn : T l = []
    · rw [hn, List.append_nil]; exact e
    · exact ends_app e.ne e.hd hn h0
/-- The text of an item, whatever does not go on behind it, is read as the item. -/
theorem next_text {k n : Int} {t v : List UInt8} (h : vtext k n t = some v) {l : List Par} (hl : Vld l) {r : List UInt8} (hr : Off tokI r) (h61 : r.headD 0 ≠ 61) (h59 : r.headD 0 ≠ 59) : next (v ++ (T l ++ r)) = some (⟨k, n, t, l⟩, r) := by
  obtain ⟨o1, _⟩ := off_tail (T_head hl.may) hr h61
  unfold next
  rw [value_back h o1]
  simp only
  have h1 := tail_pars hl.may [] r (by simpa [keys] using hl.nodup) hr h61 ((T l ++ r).length + 1) (by omega)
  unfold pars
  rw [h1, parsF_succ, if_neg h59]
  rfl
theorem parse_text {x : Itm} {t : List UInt8} (h : text x = some t) (ht : t.length ≤ 4000) : parse t = some x := by
  obtain ⟨v, hv, hl, rfl⟩ := text_ways h
  unfold parse
  rw [if_neg (by omega), trim_ends (ends_text hv hl)]
  have := next_text hv hl (r := []) (.inl rfl) (by decide) (by decide)
  rw [List.append_nil] at this
  rw [this]
  rfl
/-- What is read as an item: the text that it takes. -/
structure NextReads (s : List UInt8) (x : Itm) (r c v : List UInt8) : Prop where
  eq : s = c ++ r
  ends : Ends c
  no : r.headD 0 ≠ 59
  loc : ∀ r', Off tokI r' → r'.headD 0 ≠ 61 → r'.headD 0 ≠ 59 → next (c ++ r') = some (x, r')
  txt : vtext x.kind x.n x.text = some v
  vld : Vld x.params
  len : (v ++ T x.params).length ≤ c.length
theorem next_reads {s : List UInt8} {x : Itm} {r : List UInt8} (h : next s = some (x, r)) : ∃ c v, NextReads s x r c v := by
  unfold next at h
  cases hv : value s with
  | none => rw [hv] at h; cases h
  | some y =>
    obtain ⟨v, r1⟩ := y
    rw [hv] at h
    simp only at h
    cases hp : pars r1 with
    | none => rw [hp] at h; cases h
    | some y =>
      obtain ⟨l, r2⟩ := y
      rw [hp] at h
      cases h
      obtain ⟨a, t, q⟩ := value_reads hv
      obtain ⟨b, qq⟩ := pars_reads _ _ _ _ _ vld_nil hp
      have hbe : b = [] ∨ b.headD 0 = 59 := by
        rcases qq.be with h | h
        · exact .inl h
        · exact .inr h.1
      refine ⟨a ++ b, t, ⟨by rw [q.eq, qq.eq]; simp, ?_, qq.no, ?_, q.txt, qq.vld, ?_⟩⟩
      · by_cases hb : b = []
        · rw [hb, List.append_nil]; exact q.ends
        · rcases qq.be with h | h
          · exact absurd h hb
          · exact ends_app q.ends.ne q.ends.hd hb h.2
      · intro r' hr' h61 h59
        obtain ⟨o1, _⟩ := off_tail hbe hr' h61
        unfold next
        rw [List.append_assoc, q.loc _ o1]
        simp only
        unfold pars
        rw [qq.loc r' hr' h61 h59 _ (by simp; omega)]
      · have h1 := qq.len
        have h2 := q.len
        have h3 : (T []).length = 0 := rfl
        simp only [List.length_append]
        omega
theorem parse_ways {s : List UInt8} {x : Itm} (h : parse s = some x) : s.length ≤ 4000 ∧ next (trimS s) = some (x, []) := by
  unfold parse at h
  split at h
  · cases h
  · rename_i hl
    cases hn : next (trimS s) with
    | none => rw [hn] at h; cases h
    | some y =>
      obtain ⟨x', r⟩ := y
      rw [hn] at h
      simp only at h
      split at h
      · rename_i hr; cases h; rw [hr]; exact ⟨by omega, rfl⟩
      · cases h
/-- What is read may be, and its text is no longer. -/
theorem parse_ok {s : List UInt8} {x : Itm} (h : parse s = some x) : ∃ v, vtext x.kind x.n x.text = some v ∧ Vld x.params ∧ text x = some (v ++ T x.params) ∧ (v ++ T x.params).length ≤ s.length := by
  obtain ⟨_, hn⟩ := parse_ways h
  obtain ⟨c, v, q⟩ := next_reads hn
  have e := q.eq
  rw [List.append_nil] at e
  have := trim_len s
  rw [e] at this
  exact ⟨v, q.txt, q.vld, text_of q.txt q.vld, by have := q.len; omega⟩
theorem parse_again {s : List UInt8} {x : Itm} (h : parse s = some x) : ∃ t, text x = some t ∧ t.length ≤ s.length ∧ parse t = some x := by
  obtain ⟨v, _, _, h3, h4⟩ := parse_ok h
  have h5 := (parse_ways h).1
  exact ⟨_, h3, h4, parse_text h3 (by omega)⟩
/-- The item alone is what stands ahead of the rest. -/
theorem rest_alone {s : List UInt8} {x : Itm} {r : List UInt8} (h : next s = some (x, r)) (hl : s.length ≤ 4000) : ∃ c, s = c ++ r ∧ 0 < c.length ∧ r.headD 0 ≠ 59 ∧ parse c = some x := by
  obtain ⟨c, v, q⟩ := next_reads h
  refine ⟨c, q.eq, List.length_pos_iff.2 q.ends.ne, q.no, ?_⟩
  have h1 := q.loc [] (.inl rfl) (by decide) (by decide)
  rw [List.append_nil] at h1
  have h2 : c.length ≤ s.length := by rw [q.eq]; simp
  unfold parse
  rw [if_neg (by omega), trim_ends q.ends, h1]
  rfl
theorem itoa77 : Lib.itoa 77 = [55, 55] := by
  unfold Lib.itoa
  rw [if_neg (by decide), show (77 : Int).toNat = 77 from rfl, Lib.decDigits, dif_neg (by decide), dec_small (by decide)]
  rfl
def p77 (k : List UInt8) : Par := ⟨k, 1, 77, []⟩
theorem pt77 {k : List UInt8} (hk : keyB k = true) : ptext (p77 k) = some (59 :: (k ++ [61, 55, 55])) := by
  unfold ptext p77
  simp only
  rw [if_pos hk, vt1 (by decide) (by decide), itoa77]
  rfl
/-- One more value of a key that is there takes the old one's place. -/
theorem parse_last {x : Itm} {t : List UInt8} (h : text x = some t) {k : List UInt8} (hk : k ∈ keys x.params) (hl : (t ++ 59 :: (k ++ [61, 55, 55])).length ≤ 4000) :
    parse (t ++ 59 :: (k ++ [61, 55, 55])) = some ⟨x.kind, x.n, x.text, x.params.map (rep (p77 k))⟩ := by
  obtain ⟨v, hv, hvl, rfl⟩ := text_ways h
  obtain ⟨q, hq, rfl⟩ := List.mem_map.1 hk
  have hkb : keyB q.key = true := by
    have := pt_some (hvl.may q hq)
    unfold ptext at this
    split at this
    · assumption
    · cases this
  have hpt := pt77 hkb
  have hen : Ends (v ++ T x.params ++ 59 :: (q.key ++ [61, 55, 55])) := by
    have e := vtext_ends hv
    have e2 := ends_app e.ne e.hd (b := T x.params ++ 59 :: (q.key ++ [61, 55, 55])) (by simp) (by
      rw [last_app _ (by simp), show (59 :: (q.key ++ [61, 55, 55])) = (59 :: q.key) ++ [61, 55, 55] by simp, last_app _ (by decide)]
      decide)
    rw [List.append_assoc]; exact e2
  unfold parse
  rw [if_neg (by omega), trim_ends hen]
  have o1 : Off tokI (59 :: (q.key ++ [61, 55, 55])) := off_cons (by decide)
  have o2 : (59 :: (q.key ++ [61, 55, 55])).headD 0 ≠ 61 := by show (59 : UInt8) ≠ 61; decide
  obtain ⟨o3, _⟩ := off_tail (T_head hvl.may) o1 o2
  have h1 := tail_pars hvl.may [] _ (by simpa [keys] using hvl.nodup) o1 o2 ((T x.params ++ 59 :: (q.key ++ [61, 55, 55])).length + 1) (by omega)
  obtain ⟨t', e, ho⟩ := one_back (r := []) hpt (.inl rfl) (by decide)
  rw [List.append_nil] at ho
  have e' : t' = q.key ++ [61, 55, 55] := (List.cons.inj e).2.symm
  rw [e'] at ho
  have h2 : parsF ((59 :: (q.key ++ [61, 55, 55])).length + 1) ([] ++ x.params) (59 :: (q.key ++ [61, 55, 55])) = some (x.params.map (rep (p77 q.key)), []) := by
    rw [parsF_succ, if_pos (show (59 :: (q.key ++ [61, 55, 55])).headD 0 = 59 from rfl), show (59 :: (q.key ++ [61, 55, 55])).drop 1 = q.key ++ [61, 55, 55] from rfl, ho, List.nil_append]
    simp only
    rw [put_old (p := p77 q.key) (by exact hk)]
    rfl
  have h3 : next (v ++ T x.params ++ 59 :: (q.key ++ [61, 55, 55])) = some (⟨x.kind, x.n, x.text, x.params.map (rep (p77 q.key))⟩, []) := by
    unfold next
    rw [List.append_assoc, value_back hv o3]
    simp only
    unfold pars
    rw [h1, h2]
    rfl
  rw [h3]
  rfl
theorem rep_at {l : List Par} (h : (keys l).Nodup) {i j : Nat} (hi : i < l.length) (hj : j < l.length) : (l.map (rep (p77 l[i].key)))[j]? = some (if j = i then p77 l[i].key else l[j]) := by
  rw [List.getElem?_map, List.getElem?_eq_getElem hj]
  simp only [Option.map_some]
  unfold rep
  by_cases e : j = i
  · subst e
    rw [if_pos rfl, if_pos (by simp [p77])]
  · rw [if_neg e, if_neg]
    intro he
    have he' : l[j].key = l[i].key := by simpa [p77] using he
    have hki : i < (keys l).length := by simpa [keys] using hi
    have hkj : j < (keys l).length := by simpa [keys] using hj
    have : (keys l)[j] = (keys l)[i] := by simpa [keys] using he'
    have hp := List.pairwise_iff_getElem.1 h
    rcases Nat.lt_or_gt_of_ne e with hlt | hlt
    · exact hp j i hkj hki hlt this
    · exact hp i j hki hkj hlt this.symm
end Sf
end Go.Proofs.YtgddmihojladfaaGreatDoor
