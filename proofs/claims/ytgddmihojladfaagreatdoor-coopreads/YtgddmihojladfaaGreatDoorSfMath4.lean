/- Items of structured fields: parameters, there and back. No program is named here. -/
import Derived.Test.YtgddmihojladfaaGreatDoorSfMath3
namespace Go.Proofs.YtgddmihojladfaaGreatDoor
namespace Sf
open Oct

/-! ### keys -/
theorem keyOf_ways {s k r : List UInt8} (h : keyOf s = some (k, r)) : s = k ++ r ∧ keyB k = true ∧ Off keyI r := by
  cases s with
  | nil => cases h
  | cons c s =>
    simp only [keyOf] at h
    split at h
    · rename_i hc
      cases h
      refine ⟨by rw [List.cons_append, tw_dw], ?_, dw_off _ _⟩
      show (key1I c.toNat && allB keyI (tw keyI s)) = true
      rw [hc, tw_all]; rfl
    · cases h
theorem keyOf_back {k r : List UInt8} (h : keyB k = true) (hr : Off keyI r) : keyOf (k ++ r) = some (k, r) := by
  cases k with
  | nil => cases h
  | cons c k =>
    simp only [keyB, Bool.and_eq_true] at h
    obtain ⟨e1, e2⟩ := tw_app h.2 hr
    rw [List.cons_append]
    simp only [keyOf]
    rw [if_pos h.1, e1, e2]
theorem keyB_all {k : List UInt8} (h : keyB k = true) : allB keyI k = true ∧ k ≠ [] := by
  cases k with
  | nil => cases h
  | cons c k =>
    simp only [keyB, Bool.and_eq_true] at h
    refine ⟨?_, by simp⟩
    unfold allB
    rw [List.all_cons, Bool.and_eq_true]
    refine ⟨?_, h.2⟩
    unfold keyI; rw [h.1]; rfl
theorem key_ends {k : List UInt8} (h : keyB k = true) : Ends k := ends_all (by decide) (keyB_all h).1 (keyB_all h).2
theorem blk_cut (s : List UInt8) : ∃ z, s = z ++ blk s ∧ ∀ c ∈ z, c = 32 := by
  refine ⟨s.takeWhile fun b => b == 32, (List.takeWhile_append_dropWhile).symm, ?_⟩
  intro c hc
  have := List.all_takeWhile (p := fun b : UInt8 => b == 32) (l := s)
  rw [List.all_eq_true] at this
  exact beq_iff_eq.1 (this c hc)
theorem blk_app {z x : List UInt8} (hz : ∀ c ∈ z, c = 32) (hx : x.headD 0 ≠ 32) : blk (z ++ x) = x := by
  induction z with
  | nil =>
    cases x with
    | nil => rfl
    | cons c x =>
      have hx' : c ≠ 32 := hx
      unfold blk
      rw [List.nil_append, List.dropWhile_cons, if_neg (by simpa using hx')]
  | cons c z ih =>
    have h1 : c = 32 := hz c (by simp)
    have h2 := ih (fun d hd => hz d (List.mem_cons_of_mem _ hd))
    unfold blk at h2 ⊢
    rw [List.cons_append, List.dropWhile_cons, if_pos (by rw [h1]; rfl), h2]
theorem off_key {r : List UInt8} (h : Off tokI r) : Off keyI r := h.mono key_tok

/-! ### one parameter -/
structure OneReads (s : List UInt8) (p : Par) (r a t : List UInt8) : Prop where
  eq : s = a ++ r
  ne : a ≠ []
  la : a.getLastD 0 ≠ 32
  loc : ∀ r', Off tokI r' → r'.headD 0 ≠ 61 → one (a ++ r') = some (p, r')
  txt : ptext p = some t
  len : t.length ≤ a.length + 1
theorem one_reads {s : List UInt8} {p : Par} {r : List UInt8} (h : one s = some (p, r)) : ∃ a t, OneReads s p r a t := by
  obtain ⟨z, hz, hz2⟩ := blk_cut s
  unfold one at h
  cases hk : keyOf (blk s) with
  | none => rw [hk] at h; cases h
  | some x =>
    obtain ⟨k, r1⟩ := x
    rw [hk] at h
    simp only at h
    obtain ⟨e1, e2, e3⟩ := keyOf_ways hk
    have ke := key_ends e2
    have hb : ∀ y, blk (z ++ (k ++ y)) = k ++ y := fun y => blk_app hz2 (by rw [head_app y ke.ne]; exact ke.hd)
    split at h
    · rename_i h61
      have e4 : r1 = 61 :: r1.drop 1 := by
        cases r1 with
        | nil => cases h61
        | cons c y => have : c = 61 := h61; rw [this]; rfl
      cases hv : value (r1.drop 1) with
      | none => rw [hv] at h; cases h
      | some x =>
        obtain ⟨v, r2⟩ := x
        rw [hv] at h
        cases h
        obtain ⟨a, t, ⟨q1, q2, q3, q4, q5⟩⟩ := value_reads hv
        refine ⟨z ++ (k ++ 61 :: a), 59 :: (k ++ (if v.kind = 6 ∧ v.n = 1 then [] else 61 :: t)), ⟨?_, ?_, ?_, ?_, ?_, ?_⟩⟩
        · have h5 : s = z ++ (k ++ 61 :: (a ++ r)) := by rw [hz, e1]; rw [e4, q1]
          rw [h5]; simp
        · simp
        · rw [last_app z (by simp), last_app k (by simp), show (61 :: a) = [61] ++ a from rfl, last_app [61] q2.ne]
          exact q2.la
        · intro r' hr' _
          have e5 : z ++ (k ++ 61 :: a) ++ r' = z ++ (k ++ 61 :: (a ++ r')) := by simp
          unfold one
          rw [e5, hb, keyOf_back e2 (off_cons (by decide))]
          simp only
          rw [if_pos (show (61 :: (a ++ r')).headD 0 = 61 from rfl), show (61 :: (a ++ r')).drop 1 = a ++ r' from rfl, q3 r' hr']
        · unfold ptext
          rw [if_pos e2, q4]
          rfl
        · split
          · simp; omega
          · simp; omega
    · rename_i h61
      cases h
      refine ⟨z ++ k, 59 :: (k ++ []), ⟨?_, by simp [ke.ne], by rw [last_app z ke.ne]; exact ke.la, ?_, ?_, by simp⟩⟩
      · rw [List.append_assoc, ← e1]; exact hz
      · intro r' hr' h61'
        unfold one
        rw [List.append_assoc, hb, keyOf_back e2 (off_key hr')]
        simp only
        rw [if_neg h61']
      · unfold ptext
        rw [if_pos e2, vt6 (.inr rfl)]
        rfl
theorem one_len {s : List UInt8} {p : Par} {r : List UInt8} (h : one s = some (p, r)) : r.length < s.length := by
  obtain ⟨a, t, q⟩ := one_reads h
  rw [q.eq, List.length_append]
  have : 0 < a.length := List.length_pos_iff.2 q.ne
  omega
theorem one_back {p : Par} {t r : List UInt8} (h : ptext p = some t) (hr : Off tokI r) (h61 : r.headD 0 ≠ 61) : ∃ t', t = 59 :: t' ∧ one (t' ++ r) = some (p, r) := by
  obtain ⟨pk, pd, pn, pt⟩ := p
  unfold ptext at h
  simp only at h
  split at h
  · rename_i hk
    have ke := key_ends hk
    have hb : ∀ y, blk (pk ++ y) = pk ++ y := fun y => by
      have := blk_app (z := []) (x := pk ++ y) (by simp) (by rw [head_app y ke.ne]; exact ke.hd)
      exact this
    cases hv : vtext pd pn pt with
    | none => rw [hv] at h; cases h
    | some v =>
      rw [hv] at h
      cases h
      refine ⟨_, rfl, ?_⟩
      by_cases hc : pd = 6 ∧ pn = 1
      · rw [if_pos hc, List.append_nil]
        unfold one
        rw [hb, keyOf_back hk (off_key hr)]
        simp only
        rw [if_neg h61, hc.1, hc.2]
        have : pt = [] := (vtext_num hv).2.2.1 (by rw [hc.1]; rfl)
        rw [this]
      · rw [if_neg hc]
        unfold one
        rw [List.append_assoc, List.cons_append, hb, keyOf_back hk (off_cons (by decide))]
        simp only
        rw [if_pos (show (61 :: (v ++ r)).headD 0 = 61 from rfl), show (61 :: (v ++ r)).drop 1 = v ++ r from rfl, value_back hv hr]
        rfl
  · cases h

/-! ### lists of parameters -/
def keys (l : List Par) : List (List UInt8) := l.map (·.key)
def pt (p : Par) : List UInt8 := (ptext p).getD []
/-- The text of parameters. -/
def T (l : List Par) : List UInt8 := l.flatMap pt
structure Vld (l : List Par) : Prop where
  nodup : (keys l).Nodup
  may : ∀ q ∈ l, (ptext q).isSome = true
theorem pt_some {p : Par} (h : (ptext p).isSome = true) : ptext p = some (pt p) := by
  obtain ⟨t, ht⟩ := Option.isSome_iff_exists.1 h
  unfold pt; rw [ht]; rfl
theorem T_cons (p : Par) (l : List Par) : T (p :: l) = pt p ++ T l := by simp [T]
theorem T_app (a b : List Par) : T (a ++ b) = T a ++ T b := by simp [T]
theorem tail_of {l : List Par} (hm : ∀ q ∈ l, (ptext q).isSome = true) : ∀ seen, (seen ++ keys l).Nodup → tailF seen l = some (T l) := by
  induction l with
  | nil => intro seen _; rfl
  | cons p l ih =>
    intro seen hn
    have hk : keys (p :: l) = p.key :: keys l := rfl
    rw [hk] at hn
    have hns : p.key ∉ seen := by
      intro hc
      rw [List.nodup_append] at hn
      exact hn.2.2 _ hc _ (by simp) rfl
    have h2 := ih (fun q hq => hm q (List.mem_cons_of_mem _ hq)) (seen ++ [p.key]) (by simpa using hn)
    rw [tailF, if_neg hns, pt_some (hm p (by simp)), h2, T_cons]
    rfl
theorem tail_vld {l : List Par} (h : Vld l) : tailF [] l = some (T l) := tail_of h.may [] (by simpa using h.nodup)
theorem vld_tail : ∀ {l : List Par} {seen : List (List UInt8)} {t : List UInt8}, seen.Nodup → tailF seen l = some t → (seen ++ keys l).Nodup ∧ (∀ q ∈ l, (ptext q).isSome = true) ∧ t = T l := by
  intro l
  induction l with
  | nil => intro seen t hs h; cases h; exact ⟨by simpa [keys] using hs, (fun _ h => by cases h), rfl⟩
  | cons p l ih =>
    intro seen t hs h
    rw [tailF] at h
    split at h
    · cases h
    · rename_i hns
      cases hp : ptext p with
      | none => rw [hp] at h; cases h
      | some a =>
        rw [hp] at h
        simp only at h
        cases ht : tailF (seen ++ [p.key]) l with
        | none => rw [ht] at h; cases h
        | some b =>
          rw [ht] at h
          cases h
          have hs2 : (seen ++ [p.key]).Nodup := by
            rw [List.nodup_append]
            exact ⟨hs, by simp, by intro a ha b hb e; simp at hb; rw [e, hb] at ha; exact hns ha⟩
          obtain ⟨h1, h2, h3⟩ := ih hs2 ht
          refine ⟨by simpa [keys] using h1, ?_, ?_⟩
          · intro q hq
            rcases List.mem_cons.1 hq with rfl | hq
            · rw [hp]; rfl
            · exact h2 q hq
          · rw [T_cons, h3]; unfold pt; rw [hp]; rfl
theorem vld_of {l : List Par} {t : List UInt8} (h : tailF [] l = some t) : Vld l ∧ t = T l := by
  obtain ⟨h1, h2, h3⟩ := vld_tail List.nodup_nil h
  exact ⟨⟨by simpa using h1, h2⟩, h3⟩
theorem any_key (l : List Par) (k : List UInt8) : (l.any fun q => q.key == k) = true ↔ k ∈ keys l := by
  simp [keys, List.any_eq_true]
theorem put_new {l : List Par} {p : Par} (h : p.key ∉ keys l) : put l p = l ++ [p] := by
  unfold put
  rw [if_neg (by rw [any_key]; exact h)]
def rep (p : Par) (q : Par) : Par := if q.key == p.key then p else q
theorem rep_key (p q : Par) : (rep p q).key = q.key := by
  unfold rep
  split
  · rename_i h; exact (beq_iff_eq.1 h).symm
  · rfl
theorem put_old {l : List Par} {p : Par} (h : p.key ∈ keys l) : put l p = l.map (rep p) := by
  unfold put
  rw [if_pos (by rw [any_key]; exact h)]
  rfl
theorem keys_rep (l : List Par) (p : Par) : keys (l.map (rep p)) = keys l := by
  unfold keys
  rw [List.map_map]
  exact List.map_congr_left (fun q _ => rep_key p q)
theorem rep_none {l : List Par} {p : Par} (h : p.key ∉ keys l) : l.map (rep p) = l := by
  have : ∀ q ∈ l, rep p q = q := by
    intro q hq
    unfold rep
    rw [if_neg]
    intro e
    exact h (by rw [← beq_iff_eq.1 e]; exact List.mem_map.2 ⟨q, hq, rfl⟩)
  exact (List.map_congr_left this).trans (List.map_id' l)
theorem rep_len {p : Par} : ∀ {l : List Par}, (keys l).Nodup → (T (l.map (rep p))).length ≤ (T l).length + (pt p).length
  | [], _ => by simp [T]
  | q :: l, h => by
    have hk : keys (q :: l) = q.key :: keys l := rfl
    rw [hk, List.nodup_cons] at h
    rw [List.map_cons, T_cons, T_cons]
    by_cases e : q.key = p.key
    · have e1 : rep p q = p := by unfold rep; rw [if_pos (beq_iff_eq.2 e)]
      rw [e1, rep_none (by rw [← e]; exact h.1)]
      simp; omega
    · have e1 : rep p q = q := by unfold rep; rw [if_neg (by simpa using e)]
      have := rep_len (p := p) h.2
      rw [e1]
      simp only [List.length_append]
      omega
theorem put_vld {l : List Par} {p : Par} (h : Vld l) (hp : (ptext p).isSome = true) : Vld (put l p) ∧ (T (put l p)).length ≤ (T l).length + (pt p).length := by
  by_cases hk : p.key ∈ keys l
  · rw [put_old hk]
    refine ⟨⟨by rw [keys_rep]; exact h.nodup, ?_⟩, rep_len h.nodup⟩
    intro q hq
    obtain ⟨q0, hq0, rfl⟩ := List.mem_map.1 hq
    unfold rep
    split
    · exact hp
    · exact h.may q0 hq0
  · rw [put_new hk]
    refine ⟨⟨?_, ?_⟩, by rw [T_app]; simp [T]⟩
    · have : keys (l ++ [p]) = keys l ++ [p.key] := by simp [keys]
      rw [this, List.nodup_append]
      exact ⟨h.nodup, by simp, by intro a ha b hb e; simp at hb; rw [e, hb] at ha; exact hk ha⟩
    · intro q hq
      rcases List.mem_append.1 hq with hq | hq
      · exact h.may q hq
      · simp at hq; rw [hq]; exact hp

/-! ### reading parameters -/
theorem parsF_succ (f : Nat) (acc : List Par) (s : List UInt8) : parsF (f + 1) acc s = if s.headD 0 = 59 then
      (match one (s.drop 1) with
       | none => none
       | some (p, r) => parsF f (put acc p) r)
    else some (acc, s) := rfl
theorem parsF_fuel : ∀ (f g : Nat) (acc : List Par) (s : List UInt8), s.length < f → s.length < g → parsF f acc s = parsF g acc s
  | 0, _, _, _, h, _ => by omega
  | _ + 1, 0, _, _, _, h => by omega
  | f + 1, g + 1, acc, s, h1, h2 => by
    rw [parsF_succ, parsF_succ]
    split
    · rename_i h59
      cases ho : one (s.drop 1) with
      | none => rfl
      | some x =>
        obtain ⟨p, r⟩ := x
        have := one_len ho
        have h3 : (s.drop 1).length ≤ s.length - 1 := by simp
        have h4 : 0 < s.length := by
          cases s with
          | nil => cases h59
          | cons a b => simp
        exact parsF_fuel f g (put acc p) r (by omega) (by omega)
    · rfl
structure ParsReads (acc : List Par) (s : List UInt8) (l : List Par) (r b : List UInt8) : Prop where
  eq : s = b ++ r
  no : r.headD 0 ≠ 59
  be : b = [] ∨ (b.headD 0 = 59 ∧ b.getLastD 0 ≠ 32)
  vld : Vld l
  len : (T l).length ≤ (T acc).length + b.length
  loc : ∀ r', Off tokI r' → r'.headD 0 ≠ 61 → r'.headD 0 ≠ 59 → ∀ f, b.length < f → parsF f acc (b ++ r') = some (l, r')
theorem off_tail {b r : List UInt8} (hb : b = [] ∨ b.headD 0 = 59) (hr : Off tokI r) (h61 : r.headD 0 ≠ 61) : Off tokI (b ++ r) ∧ (b ++ r).headD 0 ≠ 61 := by
  rcases hb with rfl | hb
  · exact ⟨hr, h61⟩
  · cases b with
    | nil => exact ⟨hr, h61⟩
    | cons c b =>
      have : c = 59 := hb
      subst this
      exact ⟨off_cons (by decide), by show (59 : UInt8) ≠ 61; decide⟩
theorem pars_reads : ∀ (f : Nat) (acc : List Par) (s : List UInt8) (l : List Par) (r : List UInt8), Vld acc → parsF f acc s = some (l, r) → ∃ b, ParsReads acc s l r b
  | 0, _, _, _, _, _, h => by cases h
  | f + 1, acc, s, l, r, hv, h => by
    rw [parsF_succ] at h
    split at h
    · rename_i h59
      cases ho : one (s.drop 1) with
      | none => rw [ho] at h; cases h
      | some x =>
        obtain ⟨p, r1⟩ := x
        rw [ho] at h
        simp only at h
        obtain ⟨a, t, q⟩ := one_reads ho
        have hp : (ptext p).isSome = true := by rw [q.txt]; rfl
        obtain ⟨v1, v2⟩ := put_vld hv hp
        obtain ⟨b, qq⟩ := pars_reads f (put acc p) r1 l r v1 h
        have hs : s = 59 :: (a ++ (b ++ r)) := by
          cases s with
          | nil => cases h59
          | cons c s =>
            have : c = 59 := h59
            rw [this, ← qq.eq, ← q.eq]
            rfl
        have hpt : (pt p).length ≤ a.length + 1 := by
          unfold pt; rw [q.txt]; exact q.len
        have hbe : b = [] ∨ b.headD 0 = 59 := by
          rcases qq.be with h | h
          · exact .inl h
          · exact .inr h.1
        refine ⟨59 :: (a ++ b), ⟨by rw [hs]; simp, qq.no, .inr ⟨rfl, ?_⟩, qq.vld, ?_, ?_⟩⟩
        · rw [show (59 :: (a ++ b)) = [59] ++ (a ++ b) from rfl, last_app [59] (by simp [q.ne])]
          rcases qq.be with rfl | ⟨_, h2⟩
          · rw [List.append_nil]; exact q.la
          · by_cases hb0 : b = []
            · rw [hb0, List.append_nil]; exact q.la
            · rw [last_app a hb0]; exact h2
        · have := qq.len
          simp only [List.length_cons, List.length_append]
          omega
        · intro r' hr' h61 h59' f' hf'
          cases f' with
          | zero => omega
          | succ f' =>
            have e : (59 :: (a ++ b)) ++ r' = 59 :: (a ++ (b ++ r')) := by simp
            simp only [List.length_cons, List.length_append] at hf'
            rw [e, parsF_succ, if_pos (show (59 :: (a ++ (b ++ r'))).headD 0 = 59 from rfl), show (59 :: (a ++ (b ++ r'))).drop 1 = a ++ (b ++ r') from rfl]
            obtain ⟨o1, o2⟩ := off_tail hbe hr' h61
            rw [q.loc (b ++ r') o1 o2]
            exact qq.loc r' hr' h61 h59' f' (by omega)
    · rename_i h59
      cases h
      refine ⟨[], ⟨rfl, h59, .inl rfl, hv, by simp, ?_⟩⟩
      intro r' _ _ h59' f' hf'
      cases f' with
      | zero => simp at hf'
      | succ f' => rw [List.nil_append, parsF_succ, if_neg h59']
theorem T_head {l : List Par} (hm : ∀ q ∈ l, (ptext q).isSome = true) : T l = [] ∨ (T l).headD 0 = 59 := by
  cases l with
  | nil => exact .inl rfl
  | cons p l =>
    refine .inr ?_
    obtain ⟨t', e, _⟩ := one_back (r := []) (pt_some (hm p (by simp))) (.inl rfl) (by decide)
    rw [T_cons, e]
    rfl
/-- The text of parameters that may be is read as these, behind those that are there. -/
theorem tail_pars {l : List Par} (hm : ∀ q ∈ l, (ptext q).isSome = true) : ∀ (acc : List Par) (r : List UInt8), (keys acc ++ keys l).Nodup → Off tokI r → r.headD 0 ≠ 61 → ∀ f, (T l ++ r).length < f → parsF f acc (T l ++ r) = parsF (r.length + 1) (acc ++ l) r := by
  induction l with
  | nil =>
    intro acc r _ _ _ f hf
    rw [List.append_nil]
    have e : T [] ++ r = r := rfl
    rw [e] at hf ⊢
    exact parsF_fuel _ _ _ _ hf (by omega)
  | cons p l ih =>
    intro acc r hn hr h61 f hf
    have hml : ∀ q ∈ l, (ptext q).isSome = true := fun q hq => hm q (List.mem_cons_of_mem _ hq)
    obtain ⟨o1, o2⟩ := off_tail (T_head hml) hr h61
    obtain ⟨t', e, ho⟩ := one_back (pt_some (hm p (by simp))) o1 o2
    cases f with
    | zero => omega
    | succ f =>
      have hk : keys (p :: l) = p.key :: keys l := rfl
      rw [hk] at hn
      have hns : p.key ∉ keys acc := by
        intro hc
        rw [List.nodup_append] at hn
        exact hn.2.2 _ hc _ (by simp) rfl
      rw [T_cons, e] at hf ⊢
      have e2 : (59 :: t' ++ T l) ++ r = 59 :: (t' ++ (T l ++ r)) := by simp
      rw [e2] at hf ⊢
      rw [parsF_succ, if_pos (show (59 :: (t' ++ (T l ++ r))).headD 0 = 59 from rfl), show (59 :: (t' ++ (T l ++ r))).drop 1 = t' ++ (T l ++ r) from rfl, ho]
      simp only
      rw [put_new hns]
      have h3 := ih hml (acc ++ [p]) r (by simpa [keys] using hn) hr h61 f (by simp only [List.length_cons, List.length_append] at hf ⊢; omega)
      rw [h3]
      simp
end Sf
end Go.Proofs.YtgddmihojladfaaGreatDoor
