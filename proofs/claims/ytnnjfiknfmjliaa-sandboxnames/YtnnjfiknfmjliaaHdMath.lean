/- Header lists: values of a name, their parts, what may be; plain functions and their laws; no program is named here. -/
import Derived.Test.YtnnjfiknfmjliaaOctMath4
namespace Go.Proofs.Ytnnjfiknfmjliaa
namespace Hd

structure Hdr where
  name : List UInt8
  value : List UInt8
  deriving DecidableEq
def foldB (a b : List UInt8) : Bool := Oct.lower a == Oct.lower b
/-- The values of a name. -/
def vals (l : List Hdr) (n : List UInt8) : List (List UInt8) := (l.filter fun h => foldB h.name n).map fun h => Oct.trim h.value
def jn (sep : List UInt8) : List (List UInt8) → List UInt8
  | [] => []
  | a :: l => a ++ l.flatMap fun b => sep ++ b
def comb (l : List Hdr) (n : List UInt8) : List UInt8 := jn [44, 32] (vals l n)
def hasB (l : List Hdr) (n : List UInt8) : Bool := !(vals l n).isEmpty
def badB (c : UInt8) : Bool := c == 0 || c == 10 || c == 13
def okH (h : Hdr) : Bool := Oct.tokenB h.name && (decide (h.value.length ≤ 4000) && h.value.all fun c => !badB c)
def checkB (l : List Hdr) : Bool := decide (l.length ≤ 100) && l.all okH
/-- The parts of a text: o: within quotes; e: behind a backslash there; acc: what the part has so far. -/
def partsF : Bool → Bool → List UInt8 → List UInt8 → List (List UInt8)
  | _, _, acc, [] => [Oct.trim acc]
  | o, e, acc, c :: r =>
    if e then partsF o false (acc ++ [c]) r
    else if c == 34 then partsF (!o) false (acc ++ [c]) r
    else if o && c == 92 then partsF o true (acc ++ [c]) r
    else if !o && c == 44 then Oct.trim acc :: partsF o false [] r
    else partsF o false (acc ++ [c]) r
def parts (s : List UInt8) : List (List UInt8) := partsF false false [] s
def partsL (l : List Hdr) (n : List UInt8) : List (List UInt8) := (vals l n).flatMap parts

/-! ### the steps of the parts -/
section
variable {o : Bool} {acc r : List UInt8} {c : UInt8}
theorem parts_end (o e : Bool) (acc : List UInt8) : partsF o e acc [] = [Oct.trim acc] := rfl
theorem parts_esc : partsF o true acc (c :: r) = partsF o false (acc ++ [c]) r := by rw [partsF, if_pos rfl]
theorem parts_quote : partsF o false acc (34 :: r) = partsF (!o) false (acc ++ [34]) r := by rw [partsF, if_neg (by decide), if_pos (by decide)]
theorem parts_back : partsF true false acc (92 :: r) = partsF true true (acc ++ [92]) r := by rw [partsF, if_neg (by decide), if_neg (by decide), if_pos (by decide)]
theorem parts_comma : partsF false false acc (44 :: r) = Oct.trim acc :: partsF false false [] r := by rw [partsF, if_neg (by decide), if_neg (by decide), if_neg (by decide), if_pos (by decide)]
theorem parts_open (h1 : c ≠ 34) (h2 : c ≠ 92) : partsF true false acc (c :: r) = partsF true false (acc ++ [c]) r := by
  rw [partsF, if_neg (by decide), if_neg (by simpa using h1), if_neg (by simpa using h2), if_neg (by simp)]
theorem parts_shut (h1 : c ≠ 34) (h2 : c ≠ 44) : partsF false false acc (c :: r) = partsF false false (acc ++ [c]) r := by
  rw [partsF, if_neg (by decide), if_neg (by simpa using h1), if_neg (by simp), if_neg (by simpa using h2)]
end

/-! ### laws -/
theorem lower_low (n : List UInt8) : Oct.lower (Oct.lower n) = Oct.lower n := Oct.lower_lower n
theorem fold_low (a n : List UInt8) : foldB a (Oct.lower n) = foldB a n := by unfold foldB; rw [Oct.lower_lower]
theorem vals_low (l : List Hdr) (n : List UInt8) : vals l (Oct.lower n) = vals l n := by
  unfold vals; simp only [fold_low]
theorem vals_app (a b : List Hdr) (n : List UInt8) : vals (a ++ b) n = vals a n ++ vals b n := by
  unfold vals; rw [List.filter_append, List.map_append]
theorem vals_one (h : Hdr) (n : List UInt8) : vals [h] n = if foldB h.name n then [Oct.trim h.value] else [] := by
  unfold vals; cases hf : foldB h.name n <;> simp [hf]
theorem vals_other {l : List Hdr} {h : Hdr} {n : List UInt8} (k : Nat) (hn : foldB h.name n = false) : vals (l.take k ++ [h] ++ l.drop k) (Oct.lower n) = vals l n := by
  rw [vals_low, vals_app, vals_app, vals_one, hn]
  simp only [Bool.false_eq_true, if_false, List.append_nil]
  rw [← vals_app, List.take_append_drop]
theorem partsL_other {l : List Hdr} {h : Hdr} {n : List UInt8} (k : Nat) (hn : foldB h.name n = false) : partsL (l.take k ++ [h] ++ l.drop k) n = partsL l n := by
  unfold partsL
  rw [← vals_low, vals_other k hn]
theorem fold_self (n : List UInt8) : foldB n n = true := by unfold foldB; simp
theorem vals_two (n a b : List UInt8) : vals [⟨n, a⟩, ⟨n, b⟩] n = [Oct.trim a, Oct.trim b] := by
  unfold vals; simp [fold_self]
theorem comb_two (n a b : List UInt8) : comb [⟨n, a⟩, ⟨n, b⟩] n = Oct.trim a ++ [44, 32] ++ Oct.trim b := by
  unfold comb; rw [vals_two]; simp [jn]
theorem comb_one (n s : List UInt8) : comb [⟨n, s⟩] n = Oct.trim s := by
  unfold comb; rw [vals_one, if_pos (fold_self n)]; simp [jn]
theorem has_two (n a b : List UInt8) : hasB [⟨n, a⟩, ⟨n, b⟩] n = true := by unfold hasB; rw [vals_two]; rfl
theorem has_one (n s : List UInt8) : hasB [⟨n, s⟩] n = true := by unfold hasB; rw [vals_one, if_pos (fold_self n)]; rfl
theorem vals_len (l : List Hdr) (n : List UInt8) : (vals l n).length ≤ l.length := by
  unfold vals; rw [List.length_map]; exact List.length_filter_le _ _
theorem vals_each {l : List Hdr} {n : List UInt8} {k : Nat} (h : ∀ x ∈ l, x.value.length ≤ k) : ∀ v ∈ vals l n, v.length ≤ k := fun v hv => by
  unfold vals at hv
  obtain ⟨x, hx, rfl⟩ := List.mem_map.1 hv
  have := h x (List.mem_filter.1 hx |>.1)
  have := Oct.trim_length x.value
  omega
theorem vals_trim {l : List Hdr} {n : List UInt8} : ∀ v ∈ vals l n, Oct.trim v = v := fun v hv => by
  unfold vals at hv
  obtain ⟨x, hx, rfl⟩ := List.mem_map.1 hv
  exact Oct.trim_trim _

theorem partsF_pos : ∀ (r : List UInt8) (o e : Bool) (acc : List UInt8), 0 < (partsF o e acc r).length
  | [], _, _, _ => by simp [partsF]
  | c :: r, o, e, acc => by
    rw [partsF]
    split
    · exact partsF_pos r _ _ _
    split
    · exact partsF_pos r _ _ _
    split
    · exact partsF_pos r _ _ _
    split
    · simp
    · exact partsF_pos r _ _ _
theorem partsF_trim : ∀ (r : List UInt8) (o e : Bool) (acc : List UInt8), ∀ q ∈ partsF o e acc r, Oct.trim q = q
  | [], _, _, _ => fun q hq => by simp [partsF] at hq; subst hq; exact Oct.trim_trim _
  | c :: r, o, e, acc => fun q hq => by
    rw [partsF] at hq
    split at hq
    · exact partsF_trim r _ _ _ q hq
    split at hq
    · exact partsF_trim r _ _ _ q hq
    split at hq
    · exact partsF_trim r _ _ _ q hq
    split at hq
    · rcases List.mem_cons.1 hq with rfl | hq
      · exact Oct.trim_trim _
      · exact partsF_trim r _ _ _ q hq
    · exact partsF_trim r _ _ _ q hq
theorem partsF_len : ∀ (r : List UInt8) (o e : Bool) (acc : List UInt8), (partsF o e acc r).length ≤ 1 + r.countP (fun b => b == 44)
  | [], _, _, _ => by simp [partsF]
  | c :: r, o, e, acc => by
    have hc : r.countP (fun b => b == 44) ≤ (c :: r).countP (fun b => b == 44) := by rw [List.countP_cons]; omega
    rw [partsF]
    split
    · exact Nat.le_trans (partsF_len r _ _ _) (by omega)
    split
    · exact Nat.le_trans (partsF_len r _ _ _) (by omega)
    split
    · exact Nat.le_trans (partsF_len r _ _ _) (by omega)
    split
    · rename_i h
      have h4 : (c == 44) = true := by
        rw [Bool.and_eq_true] at h; exact h.2
      have := partsF_len r o false []
      rw [List.countP_cons, if_pos h4, List.length_cons]; omega
    · exact Nat.le_trans (partsF_len r _ _ _) (by omega)
theorem partsF_each : ∀ (r : List UInt8) (o e : Bool) (acc : List UInt8) (k : Nat), acc.length + r.length ≤ k → ∀ q ∈ partsF o e acc r, q.length ≤ k
  | [], _, _, acc, k => fun h q hq => by simp [partsF] at hq; subst hq; have := Oct.trim_length acc; simp at h; omega
  | c :: r, o, e, acc, k => fun h q hq => by
    simp only [List.length_cons] at h
    have ha : (acc ++ [c]).length + r.length ≤ k := by simp; omega
    rw [partsF] at hq
    split at hq
    · exact partsF_each r _ _ _ k ha q hq
    split at hq
    · exact partsF_each r _ _ _ k ha q hq
    split at hq
    · exact partsF_each r _ _ _ k ha q hq
    split at hq
    · rcases List.mem_cons.1 hq with rfl | hq
      · have := Oct.trim_length acc; omega
      · exact partsF_each r _ _ _ k (by simp; omega) q hq
    · exact partsF_each r _ _ _ k ha q hq
def commaI (x : Int) : Bool := x == 44
theorem comma_b (c : UInt8) : commaI c.toNat = (c == 44) := by
  unfold commaI
  rw [Bool.eq_iff_iff]
  simp only [beq_iff_eq]
  constructor
  · intro h
    have h2 : c.toNat = 44 := by omega
    exact UInt8.toNat_inj.1 h2
  · rintro rfl; rfl
theorem st_count (p : Int → Bool) : ∀ (l : List UInt8) (x : List (List UInt8) × List UInt8), (l.foldl (Oct.stp p) x).1.length = x.1.length + l.countP (fun b => p b.toNat)
  | [], _ => by simp
  | c :: l, x => by
    rw [List.foldl_cons, st_count p l, List.countP_cons]
    unfold Oct.stp
    split
    · rename_i h; simp; omega
    · rename_i h; simp
theorem split_count (p : Int → Bool) (l : List UInt8) : (Oct.split p l).length = 1 + l.countP (fun b => p b.toNat) := by
  unfold Oct.split Oct.st
  rw [List.length_append, st_count]; simp; omega
/-- No quote: the parts are what stands between commas. -/
theorem partsF_plain : ∀ (r : List UInt8) (acc : List UInt8) (d : List (List UInt8)), (∀ b ∈ r, b ≠ 34) → d.map Oct.trim ++ partsF false false acc r = ((r.foldl (Oct.stp commaI) (d, acc)).1 ++ [(r.foldl (Oct.stp commaI) (d, acc)).2]).map Oct.trim
  | [], acc, d, _ => by simp [partsF]
  | c :: r, acc, d, h => by
    have h1 : c ≠ 34 := h c (by simp)
    have hr : ∀ b ∈ r, b ≠ 34 := fun b hb => h b (by simp [hb])
    rw [List.foldl_cons]
    by_cases h2 : c = 44
    · subst h2
      have hs : Oct.stp commaI (d, acc) 44 = (d ++ [acc], []) := by unfold Oct.stp; rw [if_pos (by decide)]
      rw [parts_comma, hs, ← partsF_plain r [] (d ++ [acc]) hr]; simp
    · have hs : Oct.stp commaI (d, acc) c = (d, acc ++ [c]) := by unfold Oct.stp; rw [if_neg (by rw [comma_b]; simpa using h2)]
      rw [parts_shut h1 h2, hs, ← partsF_plain r (acc ++ [c]) d hr]
theorem parts_plain {s : List UInt8} (h : ∀ b ∈ s, b ≠ 34) : parts s = (Oct.split commaI s).map Oct.trim := by
  have := partsF_plain s [] [] h
  simpa [parts, Oct.split, Oct.st] using this
theorem parts_len (s : List UInt8) : 1 ≤ (parts s).length ∧ (parts s).length ≤ (Oct.split commaI s).length := by
  refine ⟨partsF_pos s _ _ _, ?_⟩
  have := partsF_len s false false []
  rw [split_count]
  have e : (fun b : UInt8 => commaI b.toNat) = fun b => b == 44 := funext comma_b
  rw [e]
  exact this
/-- What stands between commas, of all of a name's values. -/
def plainL (v : List (List UInt8)) : List (List UInt8) := v.flatMap fun x => (Oct.split commaI x).map Oct.trim
theorem lens (v : List (List UInt8)) : v.length ≤ (v.flatMap parts).length ∧ (v.flatMap parts).length ≤ (plainL v).length := by
  induction v with
  | nil => simp [plainL]
  | cons a v ih =>
    have h := parts_len a
    unfold plainL at ih ⊢
    simp only [List.flatMap_cons, List.length_append, List.length_cons, List.length_map]
    omega
theorem plain_same {v : List (List UInt8)} (h : ∀ x ∈ v, ∀ b ∈ x, b ≠ 34) : v.flatMap parts = plainL v := by
  unfold plainL
  induction v with
  | nil => rfl
  | cons a v ih =>
    rw [List.flatMap_cons, List.flatMap_cons, parts_plain (h a (by simp)), ih (fun x hx => h x (by simp [hx]))]
theorem partsL_trim {l : List Hdr} {n : List UInt8} : ∀ q ∈ partsL l n, Oct.trim q = q := fun q hq => by
  unfold partsL at hq
  obtain ⟨x, _, hx⟩ := List.mem_flatMap.1 hq
  exact partsF_trim x _ _ _ q hx
/-- One line more, with a byte put behind its value. -/
theorem check_more {l : List Hdr} {h : Hdr} (hl : checkB l = true) (hn : l.length ≤ 90) (hv : h.value.length ≤ 4000) : checkB (l ++ [h]) = (Oct.tokenB h.name && !h.value.any badB) := by
  unfold checkB at hl ⊢
  rw [Bool.and_eq_true] at hl
  rw [List.all_append, hl.2, List.length_append, decide_eq_true (by simp; omega), Bool.true_and, Bool.true_and]
  have e : h.value.all (fun c => !badB c) = !h.value.any badB := by
    rw [List.any_eq_not_all_not]; simp
  simp only [List.all_cons, List.all_nil, Bool.and_true, okH]
  rw [decide_eq_true hv, Bool.true_and, e]
theorem check_tail {l : List Hdr} (hl : checkB l = true) : checkB l.tail = true := by
  unfold checkB at hl ⊢
  rw [Bool.and_eq_true, decide_eq_true_eq] at hl
  rw [Bool.and_eq_true, decide_eq_true_eq]
  refine ⟨by rw [List.length_tail]; omega, List.all_eq_true.2 fun x hx => List.all_eq_true.1 hl.2 x (List.mem_of_mem_tail hx)⟩
end Hd
end Go.Proofs.Ytnnjfiknfmjliaa
