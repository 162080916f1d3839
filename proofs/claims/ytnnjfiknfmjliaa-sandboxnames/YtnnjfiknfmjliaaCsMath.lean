/- Content security policies as plain functions of bytes: their directives, the first of a name, a policy, a head's policies, a policy's text; and the laws of them that the statements claim. No program is named here. -/
import Derived.Test.YtnnjfiknfmjliaaHdMath
import Derived.Test.YtnnjfiknfmjliaaOctMath7
namespace Go.Proofs.Ytnnjfiknfmjliaa
namespace Cs

/-! ### splitting, byte by byte -/
def sp (p : Int → Bool) : List UInt8 → List (List UInt8)
  | [] => [[]]
  | b :: r => if p b.toNat then [] :: sp p r else (b :: (sp p r).headD []) :: (sp p r).tail
theorem sp_cons (p : Int → Bool) (l : List UInt8) : sp p l = (sp p l).headD [] :: (sp p l).tail := by
  cases l with
  | nil => rfl
  | cons b r => unfold sp; split <;> rfl
theorem st_sp (p : Int → Bool) : ∀ (l : List UInt8) (d : List (List UInt8)) (c : List UInt8),
    (l.foldl (Oct.stp p) (d, c)).1 ++ [(l.foldl (Oct.stp p) (d, c)).2] = d ++ (c ++ (sp p l).headD []) :: (sp p l).tail
  | [], d, c => by simp [sp]
  | b :: r, d, c => by
    by_cases h : p b.toNat = true
    · have e : Oct.stp p (d, c) b = (d ++ [c], []) := by unfold Oct.stp; rw [if_pos h]
      have e2 : sp p (b :: r) = [] :: sp p r := by rw [sp, if_pos h]
      rw [List.foldl_cons, e, e2, st_sp p r, List.headD_cons, List.tail_cons, List.nil_append, List.append_nil, ← sp_cons p r, List.append_assoc]
      rfl
    · have e : Oct.stp p (d, c) b = (d, c ++ [b]) := by unfold Oct.stp; rw [if_neg h]
      have e2 : sp p (b :: r) = (b :: (sp p r).headD []) :: (sp p r).tail := by rw [sp, if_neg h]
      rw [List.foldl_cons, e, e2, st_sp p r, List.headD_cons, List.tail_cons, List.append_assoc]
      rfl
theorem split_sp (p : Int → Bool) (l : List UInt8) : Oct.split p l = sp p l := by
  have h := st_sp p l [] []
  unfold Oct.split Oct.st
  rw [h, List.nil_append, List.nil_append, ← sp_cons]
theorem split_more {p : Int → Bool} {c : UInt8} (hc : p c.toNat = false) (l : List UInt8) : Oct.split p (c :: l) = (c :: (Oct.split p l).headD []) :: (Oct.split p l).tail := by
  rw [split_sp, split_sp, sp, if_neg (by rw [hc]; decide)]
theorem split_head (p : Int → Bool) (l : List UInt8) : Oct.split p l = (Oct.split p l).headD [] :: (Oct.split p l).tail := by
  rw [split_sp]; exact sp_cons p l
theorem split_last {p : Int → Bool} {c : UInt8} (hc : p c.toNat = false) (l : List UInt8) : ∃ d x, Oct.split p l = d ++ [x] ∧ Oct.split p (l ++ [c]) = d ++ [x ++ [c]] :=
  ⟨(Oct.st p l).1, (Oct.st p l).2, rfl, by
    have h := Oct.st_no p (Oct.st p l).1 (Oct.st p l).2 l c rfl hc
    unfold Oct.split
    rw [h]⟩
theorem split_plain {p : Int → Bool} {l : List UInt8} (h : ∀ b ∈ l, p b.toNat = false) : Oct.split p l = [l] := by
  unfold Oct.split Oct.st
  rw [Oct.st_plain p l ([], []) h]
  simp
theorem sp_sub (p : Int → Bool) : ∀ (l : List UInt8), ∀ q ∈ sp p l, ∀ b ∈ q, b ∈ l
  | [], q, hq, b, hb => by
    rw [sp, List.mem_singleton] at hq
    rw [hq] at hb; exact hb
  | c :: r, q, hq, b, hb => by
    rw [sp] at hq
    have hr : ∀ q ∈ sp p r, ∀ b ∈ q, b ∈ r := sp_sub p r
    rw [sp_cons p r] at hr
    by_cases hc : p c.toNat = true
    · rw [if_pos hc] at hq
      rcases List.mem_cons.1 hq with rfl | hq
      · simp at hb
      · exact List.mem_cons_of_mem _ (sp_sub p r q hq b hb)
    · rw [if_neg hc] at hq
      rcases List.mem_cons.1 hq with rfl | hq
      · rcases List.mem_cons.1 hb with rfl | hb
        · simp
        · exact List.mem_cons_of_mem _ (hr _ (by simp) b hb)
      · exact List.mem_cons_of_mem _ (hr q (List.mem_cons_of_mem _ hq) b hb)
theorem split_sub {p : Int → Bool} {l q : List UInt8} (hq : q ∈ Oct.split p l) : ∀ b ∈ q, b ∈ l := by
  rw [split_sp] at hq; exact sp_sub p l q hq
theorem words_sub {l w : List UInt8} (hw : w ∈ Oct.words l) : ∀ b ∈ w, b ∈ l := by
  unfold Oct.words at hw
  exact split_sub (List.mem_filter.1 hw).1

/-! ### words, and blanks about them -/
theorem words_any {c : UInt8} (hc : Oct.blankI c.toNat = true) (s t : List UInt8) : Oct.words (s ++ [c] ++ t) = Oct.words s ++ Oct.words t := by
  unfold Oct.words
  rw [Oct.split_glue Oct.blankI s t c hc, List.filter_append]
theorem words_none : Oct.words [] = [] := by decide
theorem words_front {c : UInt8} (hc : Oct.blankI c.toNat = true) (l : List UInt8) : Oct.words (c :: l) = Oct.words l := by
  have := words_any hc [] l
  rw [words_none] at this
  simpa using this
theorem words_back {c : UInt8} (hc : Oct.blankI c.toNat = true) (l : List UInt8) : Oct.words (l ++ [c]) = Oct.words l := by
  have := words_any hc l []
  rw [words_none] at this
  simpa using this

/-! ### policies -/
structure Pol where
  hasAnc : Bool
  anc : List (List UInt8)
  hasBox : Bool
  box : List (List UInt8)
def nA : List UInt8 := [102, 114, 97, 109, 101, 45, 97, 110, 99, 101, 115, 116, 111, 114, 115]
def nB : List UInt8 := [115, 97, 110, 100, 98, 111, 120]
def nH : List UInt8 := [99, 111, 110, 116, 101, 110, 116, 45, 115, 101, 99, 117, 114, 105, 116, 121, 45, 112, 111, 108, 105, 99, 121]
def nHG : List UInt8 := [67, 111, 110, 116, 101, 110, 116, 45, 83, 101, 99, 117, 114, 105, 116, 121, 45, 80, 111, 108, 105, 99, 121]
def semi : Int → Bool := fun x => x == 59
def comma : Int → Bool := fun x => x == 44
/-- The words of each part; of those parts that hold one. -/
def dirs (s : List UInt8) : List (List (List UInt8)) := ((Oct.split semi s).map Oct.words).filter fun w => !w.isEmpty
def named (n : List UInt8) (w : List (List UInt8)) : Bool := Oct.lower (w.headD []) == n
def firstD (ds : List (List (List UInt8))) (n : List UInt8) : Option (List (List UInt8)) := (ds.find? (named n)).map List.tail
def mk (a b : Option (List (List UInt8))) : Pol := ⟨a.isSome, a.getD [], b.isSome, b.getD []⟩
def one (s : List UInt8) : Pol := mk (firstD (dirs s) nA) (firstD (dirs s) nB)
def says (p : Pol) : Bool := p.hasAnc || p.hasBox
/-- The policies of a field's value. -/
def pols (v : List UInt8) : List Pol := ((Oct.split comma v).map one).filter says
def heads (l : List Hd.Hdr) : List Pol := (Hd.vals l nH).flatMap pols
def dirT (n : List UInt8) (l : List (List UInt8)) : List UInt8 := n ++ l.flatMap fun w => 32 :: w
def text (p : Pol) : List UInt8 := (if p.hasAnc then dirT nA p.anc else []) ++ (if p.hasAnc && p.hasBox then [59, 32] else []) ++ (if p.hasBox then dirT nB p.box else [])

/-! ### what stands behind, and before -/
theorem dirs_glue (s t : List UInt8) : dirs (s ++ [59] ++ t) = dirs s ++ dirs t := by
  unfold dirs
  rw [Oct.split_glue semi s t 59 rfl, List.map_append, List.filter_append]
theorem first_app (a b : List (List (List UInt8))) (n : List UInt8) : firstD (a ++ b) n = (firstD a n).or (firstD b n) := by
  unfold firstD
  rw [List.find?_append]
  cases a.find? (named n) <;> simp
theorem one_glue (s t : List UInt8) : one (s ++ [59] ++ t) = ⟨(one s).hasAnc || (one t).hasAnc, if (one s).hasAnc then (one s).anc else (one t).anc, (one s).hasBox || (one t).hasBox, if (one s).hasBox then (one s).box else (one t).box⟩ := by
  unfold one mk
  rw [dirs_glue, first_app, first_app]
  cases firstD (dirs s) nA <;> cases firstD (dirs s) nB <;> simp
def imgX : List UInt8 := [105, 109, 103, 45, 115, 114, 99, 32, 120]
theorem one_img : one imgX = ⟨false, [], false, []⟩ := by unfold one mk; rw [show firstD (dirs imgX) nA = none by decide, show firstD (dirs imgX) nB = none by decide]; rfl
theorem one_other (s : List UInt8) : one (imgX ++ [59] ++ s) = one s := by
  rw [one_glue, one_img]
  simp
theorem one_none {s : List UInt8} : ((one s).hasAnc = false → (one s).anc = []) ∧ ((one s).hasBox = false → (one s).box = []) := by
  unfold one mk
  constructor
  · cases firstD (dirs s) nA <;> simp
  · cases firstD (dirs s) nB <;> simp

/-! ### blanks about a policy, or about a field's value -/
theorem dirs_front {c : UInt8} (hc : Oct.blankI c.toNat = true) (h59 : semi c.toNat = false) (l : List UInt8) : dirs (c :: l) = dirs l := by
  unfold dirs
  have h := split_head semi l
  rw [split_more h59]
  generalize (Oct.split semi l).headD [] = x at h ⊢
  generalize (Oct.split semi l).tail = r at h ⊢
  rw [h, List.map_cons, List.map_cons, words_front hc]
theorem dirs_back {c : UInt8} (hc : Oct.blankI c.toNat = true) (h59 : semi c.toNat = false) (l : List UInt8) : dirs (l ++ [c]) = dirs l := by
  unfold dirs
  obtain ⟨d, x, h1, h2⟩ := split_last h59 l
  rw [h1, h2, List.map_append, List.map_append, List.map_singleton, List.map_singleton, words_back hc]
theorem blank_semi {c : UInt8} (hc : Oct.blankI c.toNat = true) : semi c.toNat = false := by
  unfold semi
  cases h : ((c.toNat : Int) == 59) with
  | false => rfl
  | true =>
    rw [beq_iff_eq] at h
    rw [h] at hc
    exact absurd hc (by decide)
theorem blank_comma {c : UInt8} (hc : Oct.blankI c.toNat = true) : comma c.toNat = false := by
  unfold comma
  cases h : ((c.toNat : Int) == 44) with
  | false => rfl
  | true =>
    rw [beq_iff_eq] at h
    rw [h] at hc
    exact absurd hc (by decide)
theorem one_front {c : UInt8} (hc : Oct.blankI c.toNat = true) (l : List UInt8) : one (c :: l) = one l := by
  unfold one
  rw [dirs_front hc (blank_semi hc)]
theorem one_back {c : UInt8} (hc : Oct.blankI c.toNat = true) (l : List UInt8) : one (l ++ [c]) = one l := by
  unfold one
  rw [dirs_back hc (blank_semi hc)]
theorem pols_front {c : UInt8} (hc : Oct.blankI c.toNat = true) (l : List UInt8) : pols (c :: l) = pols l := by
  unfold pols
  have h := split_head comma l
  rw [split_more (blank_comma hc)]
  generalize (Oct.split comma l).headD [] = x at h ⊢
  generalize (Oct.split comma l).tail = r at h ⊢
  rw [h, List.map_cons, List.map_cons, one_front hc]
theorem pols_back {c : UInt8} (hc : Oct.blankI c.toNat = true) (l : List UInt8) : pols (l ++ [c]) = pols l := by
  unfold pols
  obtain ⟨d, x, h1, h2⟩ := split_last (blank_comma hc) l
  rw [h1, h2, List.map_append, List.map_append, List.map_singleton, List.map_singleton, one_back hc]
theorem pols_pre : ∀ (a l : List UInt8), (∀ b ∈ a, Oct.blankI b.toNat = true) → pols (a ++ l) = pols l
  | [], _, _ => rfl
  | b :: a, l, h => by rw [List.cons_append, pols_front (h b (by simp)), pols_pre a l fun x hx => h x (by simp [hx])]
theorem pols_suf : ∀ (a l : List UInt8), (∀ b ∈ a, Oct.blankI b.toNat = true) → pols (l ++ a) = pols l
  | [], l, _ => by rw [List.append_nil]
  | b :: a, l, h => by rw [show l ++ b :: a = (l ++ [b]) ++ a by simp, pols_suf a (l ++ [b]) fun x hx => h x (by simp [hx]), pols_back (h b (by simp))]
theorem while_all (p : UInt8 → Bool) : ∀ (l : List UInt8), ∀ b ∈ l.takeWhile p, p b = true
  | [], b, hb => by simp at hb
  | c :: l, b, hb => by
    rw [List.takeWhile_cons] at hb
    by_cases h : p c = true
    · rw [if_pos h] at hb
      rcases List.mem_cons.1 hb with rfl | hb
      · exact h
      · exact while_all p l b hb
    · rw [if_neg h] at hb; simp at hb
theorem trim_parts (l : List UInt8) : ∃ a z, l = a ++ Oct.trim l ++ z ∧ (∀ b ∈ a, Oct.blankI b.toNat = true) ∧ ∀ b ∈ z, Oct.blankI b.toNat = true := by
  let p : UInt8 → Bool := fun b => Oct.blankI b.toNat
  have h1 : l = l.takeWhile p ++ l.dropWhile p := (List.takeWhile_append_dropWhile).symm
  have h2 : (l.dropWhile p).reverse = (l.dropWhile p).reverse.takeWhile p ++ (l.dropWhile p).reverse.dropWhile p := (List.takeWhile_append_dropWhile).symm
  have h3 : l.dropWhile p = ((l.dropWhile p).reverse.dropWhile p).reverse ++ ((l.dropWhile p).reverse.takeWhile p).reverse := by
    have := congrArg List.reverse h2
    rwa [List.reverse_reverse, List.reverse_append] at this
  refine ⟨l.takeWhile p, ((l.dropWhile p).reverse.takeWhile p).reverse, ?_, fun b hb => ?_, fun b hb => ?_⟩
  · rw [List.append_assoc]
    show l = l.takeWhile p ++ (((l.dropWhile p).reverse.dropWhile p).reverse ++ _)
    rw [← h3]; exact h1
  · exact while_all p _ b hb
  · rw [List.mem_reverse] at hb
    exact while_all p _ b hb
theorem pols_trim (l : List UInt8) : pols (Oct.trim l) = pols l := by
  obtain ⟨a, z, h, ha, hz⟩ := trim_parts l
  have e : pols l = pols (a ++ Oct.trim l ++ z) := congrArg pols h
  rw [e, pols_suf z _ hz, pols_pre a _ ha]
theorem pols_glue (s t : List UInt8) : pols (s ++ [44] ++ t) = pols s ++ pols t := by
  unfold pols
  rw [Oct.split_glue comma s t 44 rfl, List.map_append, List.filter_append]
theorem fold_name : Hd.foldB nHG nH = true := by decide
theorem heads_one (v : List UInt8) : heads [⟨nHG, v⟩] = pols v := by
  unfold heads
  rw [Hd.vals_one, if_pos (show Hd.foldB nHG nH = true from fold_name)]
  simp [pols_trim]
theorem heads_app (a b : List Hd.Hdr) : heads (a ++ b) = heads a ++ heads b := by
  unfold heads
  rw [Hd.vals_app, List.flatMap_append]
theorem heads_two (a b : List UInt8) : heads [⟨nHG, a⟩, ⟨nHG, b⟩] = pols a ++ pols b := by
  rw [show ([⟨nHG, a⟩, ⟨nHG, b⟩] : List Hd.Hdr) = [⟨nHG, a⟩] ++ [⟨nHG, b⟩] from rfl, heads_app, heads_one, heads_one]
theorem heads_lines (a b : List UInt8) : heads [⟨nHG, a⟩, ⟨nHG, b⟩] = heads [⟨nHG, a ++ [44] ++ b⟩] := by
  rw [heads_two, heads_one, pols_glue]
theorem pols_len (v : List UInt8) : (pols v).length ≤ (Oct.split comma v).length := by
  unfold pols
  exact Nat.le_trans (List.length_filter_le _ _) (by rw [List.length_map]; exact Nat.le_refl _)
theorem lines_len (a b : List UInt8) : (heads [⟨nHG, a⟩, ⟨nHG, b⟩]).length ≤ (Oct.split comma (a ++ [44] ++ b)).length := by
  rw [heads_two, Oct.split_glue comma a b 44 rfl, List.length_append, List.length_append]
  have h1 := pols_len a
  have h2 := pols_len b
  omega

/-! ### there and back -/
/-- A word as one comes out of a directive. -/
def goodW (w : List UInt8) : Prop := w ≠ [] ∧ ∀ b ∈ w, Oct.blankI b.toNat = false ∧ semi b.toNat = false
theorem dirs_good {s : List UInt8} {d : List (List UInt8)} (hd : d ∈ dirs s) : ∀ w ∈ d, goodW w := fun w hw => by
  unfold dirs at hd
  obtain ⟨x, hx, rfl⟩ := List.mem_map.1 (List.mem_filter.1 hd).1
  obtain ⟨h1, h2⟩ := Oct.word_of x w hw
  exact ⟨h1, fun b hb => ⟨h2 b hb, Oct.split_none semi s x hx b (words_sub hw b hb)⟩⟩
theorem first_good {s n : List UInt8} {l : List (List UInt8)} (h : firstD (dirs s) n = some l) : ∀ w ∈ l, goodW w := fun w hw => by
  unfold firstD at h
  cases hf : (dirs s).find? (named n) with
  | none => rw [hf] at h; cases h
  | some d =>
    rw [hf] at h
    cases h
    exact dirs_good (List.mem_of_find?_eq_some hf) w (List.mem_of_mem_tail hw)
theorem one_good (s : List UInt8) : (∀ w ∈ (one s).anc, goodW w) ∧ ∀ w ∈ (one s).box, goodW w := by
  unfold one mk
  constructor
  · cases h : firstD (dirs s) nA with
    | none => simp
    | some l => exact first_good h
  · cases h : firstD (dirs s) nB with
    | none => simp
    | some l => exact first_good h
theorem words_dirT : ∀ (l : List (List UInt8)) (n : List UInt8), goodW n → (∀ w ∈ l, goodW w) → Oct.words (dirT n l) = n :: l
  | [], n, hn, _ => by
    unfold dirT
    rw [List.flatMap_nil, List.append_nil]
    exact Oct.words_one n hn.1 fun b hb => (hn.2 b hb).1
  | w :: l, n, hn, hl => by
    have e : dirT n (w :: l) = n ++ [32] ++ dirT w l := by unfold dirT; simp
    rw [e, Oct.words_glue, words_dirT l w (hl w (by simp)) fun x hx => hl x (by simp [hx]), Oct.words_one n hn.1 fun b hb => (hn.2 b hb).1]
    rfl
theorem dirT_plain {n : List UInt8} {l : List (List UInt8)} (hn : goodW n) (hl : ∀ w ∈ l, goodW w) : ∀ b ∈ dirT n l, semi b.toNat = false := fun b hb => by
  unfold dirT at hb
  rcases List.mem_append.1 hb with hb | hb
  · exact (hn.2 b hb).2
  · obtain ⟨w, hw, hb⟩ := List.mem_flatMap.1 hb
    rcases List.mem_cons.1 hb with rfl | hb
    · rfl
    · exact ((hl w hw).2 b hb).2
theorem dirs_dirT {n : List UInt8} {l : List (List UInt8)} (hn : goodW n) (hl : ∀ w ∈ l, goodW w) : dirs (dirT n l) = [n :: l] := by
  unfold dirs
  rw [split_plain (dirT_plain hn hl), List.map_singleton, words_dirT l n hn hl]
  rfl
theorem good_A : goodW nA := by unfold goodW; decide
theorem good_B : goodW nB := by unfold goodW; decide
theorem dirs_text {p : Pol} (ha : ∀ w ∈ p.anc, goodW w) (hb : ∀ w ∈ p.box, goodW w) : dirs (text p) = (if p.hasAnc then [nA :: p.anc] else []) ++ (if p.hasBox then [nB :: p.box] else []) := by
  have hA := dirs_dirT good_A ha
  have hB := dirs_dirT good_B hb
  unfold text
  cases p.hasAnc <;> cases p.hasBox
  · exact (show dirs [] = [] by decide)
  · simpa using hB
  · simpa using hA
  · have e : dirT nA p.anc ++ [59, 32] ++ dirT nB p.box = dirT nA p.anc ++ [59] ++ (32 :: dirT nB p.box) := by simp
    simp only [if_true, Bool.and_self]
    rw [e, dirs_glue, hA, dirs_front (c := 32) rfl rfl, hB]
theorem one_text {p : Pol} (ha : ∀ w ∈ p.anc, goodW w) (hb : ∀ w ∈ p.box, goodW w) (h1 : p.hasAnc = false → p.anc = []) (h2 : p.hasBox = false → p.box = []) : one (text p) = p := by
  unfold one
  rw [dirs_text ha hb]
  obtain ⟨x, a, y, b⟩ := p
  dsimp only at h1 h2 ⊢
  have n1 : ∀ r, named nA (nA :: r) = true := fun r => (show (Oct.lower nA == nA) = true by decide)
  have n2 : ∀ r, named nB (nA :: r) = false := fun r => (show (Oct.lower nA == nB) = false by decide)
  have n3 : ∀ r, named nB (nB :: r) = true := fun r => (show (Oct.lower nB == nB) = true by decide)
  have n4 : ∀ r, named nA (nB :: r) = false := fun r => (show (Oct.lower nB == nA) = false by decide)
  unfold firstD mk
  cases x <;> cases y
  · rw [h1 rfl, h2 rfl]; rfl
  · rw [h1 rfl]; simp [n3, n4]
  · rw [h2 rfl]; simp [n1, n2]
  · simp [n1, n2, n3]
theorem back (s : List UInt8) : one (text (one s)) = one s := one_text (one_good s).1 (one_good s).2 one_none.1 one_none.2
end Cs
end Go.Proofs.Ytnnjfiknfmjliaa
