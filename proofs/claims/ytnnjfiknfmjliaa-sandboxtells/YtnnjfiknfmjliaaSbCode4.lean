/- The contract of sandbox.Words: the words that a map hands over in whatever order, sorted. -/
import Derived.Test.YtnnjfiknfmjliaaSbCode3
namespace Go.Proofs.Ytnnjfiknfmjliaa
open Go.RowKit
open Go.Maps Go.WideMaps

theorem bA_inj {a b : List UInt8} (h : bA a = bA b) : a = b := by
  have : (bA a).data.toList = (bA b).data.toList := by rw [h]
  exact this
/-- What reads as a key of a text IS that text. -/
theorem keyOf_text_inv {P : Program} {k : TypeId} (hk : P.underlying k = some .string) {key : Value} {kl : Lit} (h : keyOf P k key = some kl) : ∃ s : List UInt8, key = .string (bA s) ∧ kl = .string s ∧ s.length ≤ maxLen := by
  rw [keyOf_string hk] at h
  cases key <;> simp [mapKey, hk] at h
  obtain ⟨hl, rfl⟩ := h
  rename_i s
  exact ⟨s.data.toList, rfl, rfl, by simpa using hl⟩
theorem same_text (s x : List UInt8) : (Lit.string s).sameKey (.string x) = true ↔ s = x := by
  constructor
  · intro h; exact Lit.string.inj ((WideAt.sameKey_iff (a := Lit.string s) (b := Lit.string x) trivial).1 h)
  · rintro rfl; exact WideAt.sameKey_self trivial
theorem kw_has : ∀ i : Fin 6, Maps.has kwD (.string (Sb.nm i.val)) = true := by decide +kernel
theorem kw_size : Maps.size kwD = 6 := by decide +kernel
/-- What has come of the words of the flags that are not there. -/
structure Got (x : Int) (left : Lit → Bool) (cnt : Nat) (is : List Nat) : Prop where
  nodup : is.Nodup
  mem : ∀ i, i ∈ is → i < 6 ∧ Sb.bit x i = false ∧ left (.string (Sb.nm i)) = false
  all : ∀ i, i < 6 → left (.string (Sb.nm i)) = false → Sb.bit x i = false → i ∈ is
  len : is.length + cnt ≤ 6
theorem Got.start (x : Int) : Got x (Maps.has kwD) (Maps.size kwD) [] := by
  refine ⟨List.nodup_nil, fun i h => absurd h (by simp), fun i hi h => ?_, by rw [kw_size]; decide⟩
  rw [kw_has ⟨i, hi⟩] at h; cases h
theorem Got.no {x : Int} {left : Lit → Bool} {cnt cnt' : Nat} {is : List Nat} (h : Got x left cnt is) (hc : cnt' < cnt) {i : Nat} (hi : i < 6) (hb : Sb.bit x i = true) : Got x (fun z => left z && !z.sameKey (.string (Sb.nm i))) cnt' is := by
  refine ⟨h.nodup, fun j hj => ?_, fun j hj hl hx => ?_, by have := h.len; omega⟩
  · obtain ⟨a, b, c⟩ := h.mem j hj
    exact ⟨a, b, by rw [c]; rfl⟩
  · by_cases e : Sb.nm j = Sb.nm i
    · have := Sb.nm_inj j hj i hi e
      rw [this, hb] at hx; cases hx
    · have hs : (Lit.string (Sb.nm j)).sameKey (.string (Sb.nm i)) = false := by
        rw [Bool.eq_false_iff]; intro h; exact e ((same_text _ _).1 h)
      rw [hs, Bool.not_false, Bool.and_true] at hl
      exact h.all j hj hl hx
theorem Got.yes {x : Int} {left : Lit → Bool} {cnt cnt' : Nat} {is : List Nat} (h : Got x left cnt is) (hc : cnt' < cnt) {i : Nat} (hi : i < 6) (hl0 : left (.string (Sb.nm i)) = true) (hb : Sb.bit x i = false) : Got x (fun z => left z && !z.sameKey (.string (Sb.nm i))) cnt' (is ++ [i]) := by
  refine ⟨?_, fun j hj => ?_, fun j hj hl hx => ?_, by have := h.len; simp; omega⟩
  · rw [List.nodup_append]
    refine ⟨h.nodup, by simp, fun a ha b hbm => ?_⟩
    obtain rfl := List.mem_singleton.1 hbm
    rintro rfl
    rw [(h.mem a ha).2.2] at hl0; cases hl0
  · rcases List.mem_append.1 hj with hj | hj
    · obtain ⟨a, b, c⟩ := h.mem j hj
      exact ⟨a, b, by rw [c]; rfl⟩
    · obtain rfl := List.mem_singleton.1 hj
      exact ⟨hi, hb, by rw [(same_text _ _).2 rfl]; simp⟩
  · by_cases e : Sb.nm j = Sb.nm i
    · have := Sb.nm_inj j hj i hi e
      rw [this]; simp
    · have hs : (Lit.string (Sb.nm j)).sameKey (.string (Sb.nm i)) = false := by
        rw [Bool.eq_false_iff]; intro h; exact e ((same_text _ _).1 h)
      rw [hs, Bool.not_false, Bool.and_true] at hl
      exact List.mem_append_left _ (h.all j hj hl hx)
theorem Got.done {x : Int} {left : Lit → Bool} {cnt : Nat} {is : List Nat} (h : Got x left cnt is) (hl : ∀ kl, left kl = false) (i : Nat) : i ∈ is ↔ i < 6 ∧ Sb.bit x i = false :=
  ⟨fun hi => ⟨(h.mem i hi).1, (h.mem i hi).2.1⟩, fun ⟨a, b⟩ => h.all i a (hl _) b⟩
theorem row_nm (is : List Nat) : (is.map Sb.nm).map Oct.strV = is.map encW := by rw [List.map_map]; rfl

set_option maxHeartbeats 4000000 in
set_option maxRecDepth 20000 in
theorem sbWords_any (x : Int) (w : World) : Calls Try.prog 12 #[.int .i64 x] w (RetTexts w (Sb.words x)) := by
  go_enter Try.func12, Try.ntmps12
  go_wp2_with fail
  refine (sbKeys_any w).mono ?_
  rintro e w1 ⟨rfl, hb1, hk1⟩
  have HB2 := Lib.hid (hb1.alloc hb1.size (.cells #[.map (some w.heap.size)] 38))
  have HK2 := Lib.hid (hk1.kept (World.grownBy_alloc w1 (.cells #[.map (some w.heap.size)] 38) none) (by simp))
  have HX2 := Lib.hid (CBox.new w1 38 #[.map (some w.heap.size)])
  have HL1 := Lib.hid hk1.lt
  clear hb1 hk1
  go_wp2_with (first
    | (at_range; refine wpList_range_own _ rfl _ 38 rfl 9 3 sbLaw Try.underlying38 (plainElem Try.prog 3) w.heap.size 6 kwD rfl HK2.out ?_; intro w3 hrg3 hg3 hs3)
    | fail)
  have HB3 := Lib.hid (HB2.out.grown hg3 HB2.out.size (by simp))
  have HX3 := Lib.hid (HX2.out.kept hg3 (by simp))
  have hR : (w1.alloc (.cells #[.map (some w.heap.size)] 38)).heap.size = w1.heap.size + 1 := by simp
  rw [hR] at hrg3 hs3
  rw [hR]
  have HG0 := Lib.hid (Got.start x)
  clear HB2 HK2 HX2 hg3 hR
  have hL := HL1.out
  obtain ⟨B3, hB3⟩ : ∃ B, w.heap.size = B := ⟨_, rfl⟩
  obtain ⟨B2, hB2⟩ : ∃ B, w1.heap.size = B := ⟨_, rfl⟩
  obtain ⟨R, hR⟩ : ∃ B, B2 + 1 = B := ⟨_, rfl⟩
  simp only [hB3, hB2, hR] at hrg3 HX3 hL hs3 ⊢
  clear HL1
  go_frame
  go_loopw [4] (fun v wr => ∃ (left : Lit → Bool) (cnt : Nat) (is : List Nat), wr.ranges Try.prog 9 (plainElem Try.prog 3) B3 R 6 kwD left cnt ∧ Hid (Got x left cnt is) ∧ Hid (wr.ownsRow w3.heap.size 9 1 v (is.map Sb.nm).length ((is.map Sb.nm).map Oct.strV)) ∧ Hid (CBox wr B2 38 #[.map (some B3)]) ∧ Hid (Below B3 w wr) ∧ Hid (w3.heap.size ≤ wr.heap.size))
    (fun _ wr => wr.rangeLeft B3 R)
  case atStart => exact ⟨_, _, [], hrg3, HG0, Lib.hid (World.ownsRow_nil _ _ _ _), HX3, by rw [← hB3]; exact HB3, Lib.hid (Nat.le_refl _)⟩
  case round =>
    obtain ⟨left, cnt, is, hrg, hgot, hown, hbx, hbel, hsz⟩ := hrel
    go_wp2_with (first
      | (at_next; refine wpList_next_ranges _ rfl _ rfl 9 sbLaw (plainElem Try.prog 3) (fun s : List UInt8 => Value.string (bA s)) (fun c : Int => Value.int .i64 c) (fun key kl h => by obtain ⟨s, rfl, _, _⟩ := keyOf_text_inv Try.underlying9 h; exact ⟨s, rfl⟩) (fun v y h => by obtain ⟨c, rfl, _⟩ := plainElem_int_inv Try.underlying3 h; exact ⟨c, rfl⟩) B3 R 6 kwD _ _ rfl hrg ?_ ?_)
      | fail)
    · intro _ hl0
      have hdone := Got.done hgot.out hl0
      have hnd := hgot.out.nodup
      have hlen := hgot.out.len
      have hown' : wr.ownsRow w3.heap.size 9 1 u4 is.length (is.map encW) := by have h := hown.out; rw [row_nm, List.length_map] at h; exact h
      have hso := sortW_any hown' (by omega) hbx.out hrg.owns (by omega) (by omega)
      have HS := Lib.hid hso
      have HE := Lib.hid (fun d hp hs => sorted_is (d := is.toArray) (d' := d) (x := x) hnd hdone hp hs)
      clear hdone hnd hlen hown' hso hl0 hrg
      go_wp2_with fail
      refine HS.out.mono ?_
      rintro e w5 ⟨rfl, d, hp, hs, ho, hb⟩
      have hds := HE.out d hp hs
      have hd : d.toList.length = is.length := by have := hp.1; simpa using this
      have hfin : w5.ownsRow w.heap.size 9 1 u4 (Sb.words x).length ((Sb.words x).map Oct.strV) := by
        have hw : Sb.words x = d.toList.map Sb.nm := by rw [hds]; rfl
        rw [hw, row_nm, List.length_map, hd]
        exact owns_base ho (by omega)
      have HF := Lib.hid hfin
      have HB5 : Hid (Below w.heap.size w w5) := Lib.hid (by rw [hB3]; exact hbel.out.trans (hb.mono (by omega)))
      clear hds hd hfin hp hs ho hb HE HS
      go_wp2_with fail
      go_ret
      exact ⟨_, rfl, HB5.out, HF.out⟩
    · intro s c kl d ps w4 cnt4 hkey hlk hy hat hrg4 hlt4 hg4 hs4 hen
      have hkl : kl = .string s := by
        obtain ⟨t, e1, e2, _⟩ := keyOf_text_inv Try.underlying9 hkey
        rw [e2, bA_inj (Value.string.inj e1)]
      subst hkl
      have hd : d = .lit (.int .i64 c) := by
        obtain ⟨c', ec, h2, _⟩ := plainElem_int_inv Try.underlying3 hy
        cases ec
        exact (Prod.mk.inj h2).1
      subst hd
      have hi : Sb.at s < 6 := by
        rcases Nat.lt_or_ge (Sb.at s) 6 with h | h
        · exact h
        · have a0 := (kw_at s 0).symm.trans (hat _)
          have a1 := (kw_at s 1).symm.trans (hat _)
          rw [if_neg (by omega)] at a0 a1
          have b0 := (Lit.int.inj (DataW.lit.inj a0)).2
          have b1 := (Lit.int.inj (DataW.lit.inj a1)).2
          omega
      have hc : c = ((2 ^ Sb.at s : Nat) : Int) := by
        have a0 := (kw_at s 0).symm.trans (hat _)
        rw [if_pos hi, kv_pow hi] at a0
        exact (Lit.int.inj (DataW.lit.inj a0)).2.symm
      have hs := nm_at s hi
      obtain ⟨i, hii⟩ : ∃ i, Sb.at s = i := ⟨_, rfl⟩
      rw [hii] at hi hc hs
      subst hs
      have hz := pow_zero x i hi
      rw [← hc] at hz
      have hno := fun hb => Got.no hgot.out hlt4 hi hb
      have hyes := fun hb => Got.yes hgot.out hlt4 hi hlk hb
      have hgl := hgot.out.len
      have HO4 := Lib.hid (hown.out.kept hg4 (by
        cases hv : u4.ownBlock with
        | none => exact .inl rfl
        | some k => exact .inr (by intro e; cases e; have := (hown.out.lt R hv).1; omega)))
      have HX4 := Lib.hid (hbx.out.kept hg4 (by rw [← hR]; simp))
      have HB4 := Lib.hid (hbel.out.grown hg4 (by have := hsz.out; omega) (fun j hj => by cases hj; omega))
      have hm4 : (w4.rangeLeft B3 R) < wr.rangeLeft B3 R := by rw [hrg4.left_eq, hrg.left_eq]; exact hlt4
      have HM := Lib.hid hm4; have HNO := Lib.hid hno; have HYES := Lib.hid hyes
      have hen3 : (Instr.entry (.pointer (some ⟨R, 0, none⟩))).run Try.prog w4 = .ok (.tuple #[.string (bA (Sb.nm i)), .int .i64 c]) w4 := hen
      have hwz : w3.heap.size ≤ w4.heap.size := by have := hsz.out; omega
      obtain ⟨b, hb⟩ : ∃ b, Sb.bit x i = b := ⟨_, rfl⟩
      rw [hb] at hz
      have HBB := Lib.hid hb
      clear hkey hlk hy hat hg4 hs4 hen hc hno hyes hgot hown hbx hbel hm4 hrg hlt4 hb
      cases b with
      | true =>
        have hz' : (bits .and .i64 x c == 0) = false := hz
        clear hz
        go_wp2_with fail
        exact ⟨⟨_, _, is, hrg4, Lib.hid (HNO.out HBB.out), HO4, HX4, HB4, Lib.hid hwz⟩, HM.out⟩
      | false =>
        have hz' : (bits .and .i64 x c == 0) = true := hz
        clear hz
        go_wp2_with (first
          | (at_builtin; refine wp_appT rfl _ _ rfl w3.heap.size _ (is.map Sb.nm) [Sb.nm i] rfl (World.ownsRow.alloc HO4.out _) _ _ rfl (seen_fresh1 _ _) (by unfold maxLen; simp; omega) (by simp; omega) (by simp; omega) ?_; intro v6 w6 hown6 hg6 hb6)
          | fail)
        have hg7 : (w4.alloc (.cells #[.string (bA (Sb.nm i))] 9)).grownBy w6 u4.ownBlock := hg6
        have hne : ∀ k, k < w3.heap.size → some k ≠ u4.ownBlock := fun k hk e => by have := (HO4.out.lt k e.symm).1; omega
        have hrg6 := (hrg4.alloc (.cells #[.string (bA (Sb.nm i))] 9)).kept hg7 (hne B3 (by omega)) (hne R (by omega))
        have hb8 : Below B3 w w6 := (HB4.out.alloc (by omega) _).trans (hb6.mono (by omega))
        have hsz6 : w3.heap.size ≤ w6.heap.size := by have := hb6.size; simp at this; omega
        refine ⟨⟨_, _, is ++ [i], hrg6, Lib.hid (HYES.out HBB.out), ?_, Lib.hid ((HX4.out.alloc _).kept hg7 (hne B2 (by omega))), Lib.hid hb8, Lib.hid hsz6⟩, ?_⟩
        · rw [List.map_append]; exact Lib.hid hown6
        · have := HM.out
          rw [hrg4.left_eq] at this
          rw [hrg6.left_eq]; exact this
end Go.Proofs.Ytnnjfiknfmjliaa
