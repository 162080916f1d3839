/- What is read is small; how an argument that is an item is opened. -/
import Derived.Test.YtilclhhpmenjaaaGreatDoorSfSame
import Derived.OpenShut
import Derived.Handed
import Derived.ProofKit
import Derived.Deep.Slices
namespace Go.Proofs.YtilclhhpmenjaaaGreatDoor
open Go.ChangeShapes Go.WideShapes Go.ChangeAt Go.RowKit

theorem esc_ge (t : List UInt8) : t.length ≤ (Sf.esc t).length := by
  induction t with
  | nil => simp
  | cons c r ih => rw [Sf.esc]; split <;> simp <;> omega
theorem vtext_short {k n : Int} {t v : List UInt8} (h : Sf.vtext k n t = some v) : t.length ≤ v.length := by
  obtain ⟨_, _, h3, _, _⟩ := Sf.vtext_num h
  by_cases hk : Sf.numK k = true
  · rw [h3 hk]; simp
  · have k1 : k ≠ 1 := by rintro rfl; exact hk rfl
    have k2 : k ≠ 2 := by rintro rfl; exact hk rfl
    have k6 : k ≠ 6 := by rintro rfl; exact hk rfl
    unfold Sf.vtext at h
    split at h
    · cases h
    split at h
    · split at h
      · cases h; have := esc_ge t; simp; omega
      · cases h
    split at h
    · split at h
      · cases h; exact Nat.le_refl _
      · cases h
    split at h
    · split at h
      · cases h; simp; omega
      · cases h
    · cases h
theorem ptext_short {p : Sf.Par} {t : List UInt8} (h : Sf.ptext p = some t) : 1 ≤ t.length ∧ p.key.length ≤ t.length ∧ p.text.length ≤ t.length ∧ -Sf.maxN ≤ p.n ∧ p.n ≤ Sf.maxN := by
  unfold Sf.ptext at h
  split at h
  · cases hv : Sf.vtext p.kind p.n p.text with
    | none => rw [hv] at h; cases h
    | some v =>
      rw [hv] at h
      simp only [Option.map_some, Option.some.injEq] at h
      obtain ⟨h1, h2, h3, _, _⟩ := Sf.vtext_num hv
      have h4 := vtext_short hv
      rw [← h]
      simp only [List.length_cons, List.length_append]
      refine ⟨by omega, by omega, ?_, h1, h2⟩
      split
      · rename_i hk
        rw [h3 (by rw [hk.1]; rfl)]; simp
      · simp only [List.length_cons]; omega
  · cases h
theorem T_short : ∀ {l : List Sf.Par}, (∀ q ∈ l, (Sf.ptext q).isSome = true) → l.length ≤ (Sf.T l).length ∧ ∀ q ∈ l, (Sf.pt q).length ≤ (Sf.T l).length
  | [], _ => ⟨by simp, by simp⟩
  | p :: l, h => by
    obtain ⟨h1, h2⟩ := T_short (l := l) (fun q hq => h q (by simp [hq]))
    have h3 := (ptext_short (Sf.pt_some (h p (by simp)))).1
    rw [Sf.T_cons]
    simp only [List.length_cons, List.length_append]
    refine ⟨by omega, fun q hq => ?_⟩
    simp only [List.mem_cons] at hq
    rcases hq with rfl | hq
    · omega
    · have := h2 q hq; omega
theorem small_text {x : Sf.Itm} {t : List UInt8} (h : Sf.text x = some t) (ht : t.length ≤ 10000) : SmallI x.kind x.n x.text x.params := by
  obtain ⟨v, hv, hl, rfl⟩ := Sf.text_ways h
  simp only [List.length_append] at ht
  obtain ⟨h1, h2⟩ := T_short hl.may
  obtain ⟨a, b, _, _, _⟩ := Sf.vtext_num hv
  have h3 := vtext_short hv
  unfold Sf.maxN at a b
  refine ⟨by omega, by omega, by omega, ⟨by omega, fun p hp => ?_⟩⟩
  have h4 := ptext_short (Sf.pt_some (hl.may p hp))
  have h5 := h2 p hp
  unfold Sf.maxN at h4
  exact ⟨by omega, by omega, by omega, by omega⟩
theorem small_parse {s : List UInt8} {x : Sf.Itm} (h : Sf.parse s = some x) : SmallI x.kind x.n x.text x.params := by
  obtain ⟨t, h1, h2, _⟩ := Sf.parse_again h
  have := (Sf.parse_ways h).1
  exact small_text h1 (by omega)
theorem small_few {k n : Int} {t : List UInt8} {l : List Sf.Par} (h : fewB t l = true) (h0 : -9223372036854775808 ≤ n) (h1 : n ≤ 9223372036854775807) (hl : ∀ p ∈ l, -9223372036854775808 ≤ p.n ∧ p.n ≤ 9223372036854775807) : SmallI k n t l := by
  unfold fewB at h
  simp only [Bool.and_eq_true, decide_eq_true_eq, List.all_eq_true] at h
  obtain ⟨a, b, c⟩ := h
  refine ⟨h0, h1, by omega, ⟨by omega, fun p hp => ?_⟩⟩
  have := c p hp
  have h2 := hl p hp
  exact ⟨h2.1, h2.2, by omega, by omega⟩

/-- What is known of an item that is handed in. -/
structure WideI (W : World) (n : Int) (t : List UInt8) (A : Option Addr) (l : List Sf.Par) : Prop where
  n0 : -9223372036854775808 ≤ n
  n1 : n ≤ 9223372036854775807
  text : t.length ≤ maxLen
  len : l.length ≤ maxLen
  seen : SeenP W A l
  each : ∀ p ∈ l, -9223372036854775808 ≤ p.n ∧ p.n ≤ 9223372036854775807
theorem cellsI : Tryz.prog.cellsOf 25 = 4 := by kernel_rfl
theorem cellsP : Tryz.prog.cellsOf 44 = 4 := by kernel_rfl
section
variable {H : Type} {enc : TypeId × Value → H} {W : World} {b0 : Nat} {v : Value} {d : DataW H} {ps : List MemPlace}
theorem one_str {n : Nat} {c : Value} {y : Option (DataW H × List MemPlace)} (h : DataW.trod enc Tryz.prog W 0 (fun _ => true) true n 9 [c] = y) (hy : y.isSome = true) : ∃ s : ByteArray, c = .string s ∧ s.size ≤ maxLen := by
  obtain ⟨z, rfl⟩ := Option.isSome_iff_exists.1 hy
  obtain ⟨s, e0, _, hn⟩ := DataW.trod_string Tryz.underlying9 h
  simp only [List.cons.injEq, and_true] at e0
  exact ⟨s, e0, hn⟩
theorem one_int {n : Nat} {c : Value} {y : Option (DataW H × List MemPlace)} (h : DataW.trod enc Tryz.prog W 0 (fun _ => true) true n 3 [c] = y) (hy : y.isSome = true) : ∃ i : Int, c = .int .i64 i ∧ -9223372036854775808 ≤ i ∧ i ≤ 9223372036854775807 := by
  obtain ⟨z, rfl⟩ := Option.isSome_iff_exists.1 hy
  obtain ⟨i, e0, _, hn⟩ := DataW.trod_int Tryz.underlying3 h
  simp only [List.cons.injEq, and_true] at e0
  have := bounds_i64 hn
  exact ⟨i, e0, this.1, this.2⟩
instance : Inhabited Sf.Par := ⟨⟨[], 0, 0, []⟩⟩
set_option maxRecDepth 100000 in
set_option maxHeartbeats 1000000 in
theorem open_par {n : Nat} {l : List Value} {y : DataW H × List MemPlace} (h : DataW.trod enc Tryz.prog W 0 (fun _ => true) true n 44 l = some y) :
    ∃ p : Sf.Par, l = (pC p).toList ∧ -9223372036854775808 ≤ p.n ∧ p.n ≤ 9223372036854775807 := by
  obtain ⟨xs, m, _, _, hsz, hlen, hfs⟩ := DataW.trod_struct Tryz.underlying44 h
  rw [cellsP] at hsz
  match l, hsz with
  | [c0, c1, c2, c3], _ =>
    have hlen' : xs.length = 4 := hlen
    have g : ∀ i, i < 4 → (xs[i]?).isSome = true := fun i hi => by rw [List.getElem?_eq_getElem (by omega)]; rfl
    have f0 := hfs 0 _ rfl
    have f1 := hfs 1 _ rfl
    have f2 := hfs 2 _ rfl
    have f3 := hfs 3 _ rfl
    obtain ⟨s0, rfl, _⟩ := one_str f0 (g 0 (by omega))
    obtain ⟨k, rfl, _, _⟩ := one_int f1 (g 1 (by omega))
    obtain ⟨i, rfl, h0, h1⟩ := one_int f2 (g 2 (by omega))
    obtain ⟨s1, rfl, _⟩ := one_str f3 (g 3 (by omega))
    exact ⟨⟨s0.data.toList, k, i, s1.data.toList⟩, rfl, h0, h1⟩
theorem open_pars {n : Nat} {c : Value} {y : DataW H × List MemPlace} (h : DataW.trod enc Tryz.prog W 0 (fun _ => true) true n 23 [c] = some y) :
    ∃ (A : Option Addr) (cp : Nat) (l : List Sf.Par), c = .slice A l.length cp ∧ l.length ≤ maxLen ∧ SeenP W A l ∧ ∀ p ∈ l, -9223372036854775808 ≤ p.n ∧ p.n ≤ 9223372036854775807 := by
  rcases Go.Deep.open_slice Tryz.underlying23 h with ⟨e, _⟩ | ⟨a, len, cap, m, n', D, Pl, e, _, hl, hm, hmm, _, hc⟩
  · simp only [List.cons.injEq, and_true] at e
    subst e
    exact ⟨none, 0, [], rfl, by simp [maxLen], fun h => by simp at h, by simp⟩
  · simp only [List.cons.injEq, and_true] at e
    subst e
    have hm2 : len ≤ m := by rw [hmm]; split <;> omega
    rw [cellsP] at hc
    have each : ∀ i, i < m → ∃ p : Sf.Par, W.cells? 0 (a.add (i * 4)) 4 = some (pC p).toList ∧ -9223372036854775808 ≤ p.n ∧ p.n ≤ 9223372036854775807 := fun i hi => by
      obtain ⟨cs', h1, h2⟩ := hc i hi
      obtain ⟨p, rfl, h3, h4⟩ := open_par h2
      exact ⟨p, h1, h3, h4⟩
    obtain ⟨F, hF⟩ := Go.Deep.choose_lt each
    refine ⟨some a, cap, (List.range len).map F, by simp, by simp; omega, fun h0 => ?_, fun p hp => ?_⟩
    · have h0' : 0 < len := by simpa using h0
      have hcell : ∀ i, i < len → ∀ j, j < 4 → W.cell? ((a.add (i * 4)).add j) = (pC (F i)).toList[j]? := fun i hi j hj => by
        have := (World.cells?_some (hF i (by omega)).1).2.2 j hj
        exact this
      have hz := hcell 0 h0' 0 (by omega)
      have hz' : W.cell? a = some (.string (bA (F 0).key)) := by simpa [Addr.add, pC] using hz
      have hsp := World.cell?_spot hz'
      obtain ⟨g, o, sp⟩ := a
      simp only at hsp
      subst hsp
      refine ⟨g, o, rfl, ?_, fun i hi => ?_⟩
      · exact World.block_lt_of_cell? _ _ hz'
      · have hi' : i < len := by simpa using hi
        have c0 := hcell i hi' 0 (by omega)
        have c1 := hcell i hi' 1 (by omega)
        have c2 := hcell i hi' 2 (by omega)
        have c3 := hcell i hi' 3 (by omega)
        have ad : ∀ j, ((⟨g, o, none⟩ : Addr).add (i * 4)).add j = ⟨g, o + i * 4 + j, none⟩ := fun j => by
          unfold Addr.add
          split <;> split <;> simp_all
        rw [ad] at c0 c1 c2 c3
        have ei : ((List.range len).map F)[i] = F i := by simp
        rw [ei]
        exact ⟨c0, c1, c2, c3⟩
    · obtain ⟨i, hi, rfl⟩ := List.mem_map.1 hp
      have hi' : i < len := by simpa using hi
      exact (hF i (by omega)).2
set_option maxRecDepth 100000 in
set_option maxHeartbeats 1000000 in
theorem open_item (hv : Value.okWide Tryz.prog W .any b0 25 v) (h : DataW.Trod enc Tryz.prog W 0 (fun _ => true) true 25 v d ps) :
    ∃ (k n : Int) (t : List UInt8) (A : Option Addr) (c : Nat) (l : List Sf.Par), v = itmV k n t (.slice A l.length c) ∧ WideI W n t A l := by
  obtain ⟨cs, rfl, hsz⟩ := okWide_struct Tryz.underlying25 hv
  rw [cellsI] at hsz
  obtain ⟨l, rfl⟩ : ∃ l : List Value, cs = l.toArray := ⟨cs.toList, by simp⟩
  have hl : l.length = 4 := by simpa using hsz
  match l, hl with
  | [c0, c1, c2, c3], _ =>
    obtain ⟨fuel, hf⟩ := h
    obtain ⟨xs, m, _, _, _, hlen, hfs⟩ := DataW.trod_struct Tryz.underlying25 hf
    have hlen' : xs.length = 4 := hlen
    have g : ∀ i, i < 4 → (xs[i]?).isSome = true := fun i hi => by rw [List.getElem?_eq_getElem (by omega)]; rfl
    have f0 := hfs 0 _ rfl
    have f1 := hfs 1 _ rfl
    have f2 := hfs 2 _ rfl
    have f3 := hfs 3 _ rfl
    simp only [Value.cells] at f0 f1 f2 f3
    obtain ⟨k, rfl, _, _⟩ := one_int f0 (g 0 (by omega))
    obtain ⟨i, rfl, h0, h1⟩ := one_int f1 (g 1 (by omega))
    obtain ⟨s1, rfl, h2⟩ := one_str f2 (g 2 (by omega))
    obtain ⟨z, hz⟩ := Option.isSome_iff_exists.1 (g 3 (by omega))
    rw [hz] at f3
    obtain ⟨A, cp, l, rfl, h3, h4, h5⟩ := open_pars f3
    exact ⟨k, i, s1.data.toList, A, cp, l, rfl, h0, h1, by simpa using h2, h3, h4, h5⟩
end
end Go.Proofs.YtilclhhpmenjaaaGreatDoor
