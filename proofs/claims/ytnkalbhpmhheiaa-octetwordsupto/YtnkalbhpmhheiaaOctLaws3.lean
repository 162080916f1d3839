/- The walk of the statement on texts laid one behind the other. -/
import Derived.Test.YtnkalbhpmhheiaaOctLaws1
import Derived.Test.YtnkalbhpmhheiaaOctLaws2
import Derived.Test.YtnkalbhpmhheiaaOctMath4
import Derived.OpenShut
import Derived.Laws.AppendOwnNone
namespace Go.Proofs.Ytnkalbhpmhheiaa
open Go.RowKit

theorem byte_of {b : Int} (h : (Lit.int .u8 b).wf = true) : ∃ c : UInt8, b = (c.toNat : Int) := by
  obtain ⟨h0, h1⟩ := bounds_u8 h
  exact ⟨UInt8.ofNat b.toNat, by simp; omega⟩
theorem conv_one (c : UInt8) (W : World) : (convert 34 9 (.slice (some ⟨W.heap.size, 0, none⟩) 1 1)).run Try.prog (W.alloc (.cells #[.int .u8 (c.toNat : Int)] 5)) = .ok (.string ⟨#[c]⟩) (W.alloc (.cells #[.int .u8 (c.toNat : Int)] 5)) := by
  have := run_convert_bytes_back (P := Try.prog) (W.alloc (.cells #[.int .u8 (c.toNat : Int)] 5)) 34 9 5 ⟨W.heap.size, 0, none⟩ 1 [c] Try.underlying34 Try.underlying5 Try.underlying9 (fun j hj => by
    have : j = 0 := by simpa using hj
    subst this
    show (W.alloc _).cell? ⟨W.heap.size, 0 + 0, none⟩ = _
    rw [World.cell?_alloc_mark]; rfl)
  exact this

theorem size_glue (s t : ByteArray) (c : UInt8) : (s ++ ⟨#[c]⟩ ++ t).size = s.size + 1 + t.size := by
  rw [ByteArray.size_append, ByteArray.size_append]; rfl
theorem list_glue (s t : ByteArray) (c : UInt8) : (s ++ ⟨#[c]⟩ ++ t).data.toList = s.data.toList ++ [c] ++ t.data.toList := by simp
theorem oneCells (ps : List (List UInt8)) : ∀ u ∈ ps.map Oct.strV, u.oneCell' = true := by
  intro u hu
  obtain ⟨p, _, rfl⟩ := List.mem_map.1 hu
  rfl
/-- Behind 'append(a, b...)', a and b two lists of one's own, laid one behind the other: the third list, elder than both, is still there. -/
theorem kept_elder {w w' : World} {b2 b3 : Nat} {v2 v3 : Value} {n2 n3 : Nat} {x2 x3 : List Value} (h2 : w.ownsRow b2 9 1 v2 n2 x2) (h3 : w.ownsRow b3 9 1 v3 n3 x3) (hlt : ∀ k, v2.ownBlock = some k → k < b3) (hg : w.grownBy w' v3.ownBlock) : w'.ownsRow b2 9 1 v2 n2 x2 := by
  refine h2.kept hg ?_
  cases e2 : v2.ownBlock with
  | none => exact .inl rfl
  | some k =>
    refine .inr fun e => ?_
    have a := hlt k e2
    have b := (h3.lt k e.symm).1
    omega

theorem own_both {w : World} {b : Nat} {v : Value} {pa pb : List (List UInt8)} (h : w.ownsRow b 9 1 v (pa.length + pb.length) (pa.map Oct.strV ++ pb.map Oct.strV)) : w.ownsRow b 9 1 v (pa ++ pb).length ((pa ++ pb).map Oct.strV) := by
  simpa using h
theorem glue_below2 {w w2 w3 w4 w5 : World} {row : Option Nat} (h2 : Below w.heap.size w w2) (h3 : Below w2.heap.size w2 w3) (h4 : Below w3.heap.size w3 w4) (hg : w4.grownBy w5 row) (hr : ∀ k, row = some k → w2.heap.size ≤ k) : Below w.heap.size w w5 := by
  have h5 := Below.onto (Below.onto h2 h3) h4
  exact h5.grown hg h5.size (fun k hk => Nat.le_trans h2.size (hr k hk))
theorem glue_below {w w1 w2 w3 w4 w5 : World} {o : Obj} {row : Option Nat} (h1 : Below w.heap.size w w1) (h2 : Below (w1.alloc o).heap.size (w1.alloc o) w2) (h3 : Below w2.heap.size w2 w3) (h4 : Below w3.heap.size w3 w4) (hg : w4.grownBy w5 row) (hr : ∀ k, row = some k → w2.heap.size ≤ k) : Below w.heap.size w w5 :=
  glue_below2 (Below.onto (h1.alloc h1.size o) h2) h3 h4 hg hr
/-- 'append(a, b...)', a and b lists of texts of one's own; b may be nil. -/
theorem wpList_append_two {w : World} {ops : Array Oper} {rest : List Oper} {o : Oper} {a : Act} {Q : Exit → Act → World → Prop} (hgd : o.guard = none) (s x : Operand)
    (ho : o.op = .call { callee := .builtin .append, args := #[s, x], argTypes := #[26, 26] }) (b3 b4 : Nat) (v3 v4 : Value) (pa pb : List (List UInt8)) (hs : a.eval s = v3) (hx : a.eval x = v4)
    (h3 : w.ownsRow b3 9 1 v3 pa.length (pa.map Oct.strV)) (h4 : w.ownsRow b4 9 1 v4 pb.length (pb.map Oct.strV)) (hlen : pa.length + pb.length ≤ 100000) (hb3 : b3 ≤ w.heap.size)
    (h : ∀ v' w', w'.ownsRow b3 9 1 v' (pa ++ pb).length ((pa ++ pb).map Oct.strV) → w.grownBy w' v3.ownBlock → wpList Try.prog ops Q rest (a.put o.dst v') w') : wpList Try.prog ops Q (o :: rest) a w := by
  obtain ⟨i0, hi, hz0, hz1, hz2⟩ := info_parts info_string
  rcases owns_view h4 with ⟨rfl, rfl⟩ | ⟨g, c, rfl, _, _, _, hc⟩
  · refine wpList_append_own_none hgd s x 26 ho b3 9 i0 1 Try.underlying26 hi v3 _ _ hs h3 hx ?_
    exact h v3 w (by simpa using h3) ⟨rfl, rfl, rfl, Nat.le_refl _, fun _ _ _ => rfl⟩
  · refine wpList_append_own _ hgd s x 26 ho b3 9 i0 (.string ⟨#[]⟩) 1 16 Try.underlying26 hi hz0 hz1 hz2 rfl (by decide) v3 _ _ hs h3 ⟨g, 0, none⟩ pb.length c (pb.map Oct.strV) hx (by simp) (h4.cells rfl) (oneCells pb) (by unfold maxLen; omega) (by omega) hb3 ?_
    intro v' w' a1 a2 _
    exact h v' w' (by simpa using a1) a2

set_option maxHeartbeats 1000000 in
theorem walk_OctetGlues (s t : ByteArray) (b : Int) (hs : s.size ≤ maxLen) (ht : t.size ≤ maxLen) (hb : (Lit.int .u8 b).wf = true) (w : World) :
    Calls Try.prog 10 #[.string s, .string t, .int .u8 b] w fun e w' => e = .returned (.bool true) ∧ Below w.heap.size w w' := by
  unfold maxLen at hs ht
  obtain ⟨c, rfl⟩ := byte_of hb
  clear hb
  by_cases hl : s.size ≤ 2000 ∧ t.size ≤ 2000
  · obtain ⟨hl1, hl2⟩ := hl
    have hcv := conv_one c
    have q1 := Oct.split_len (fun x => x == (c.toNat : Int)) s.data.toList
    have q2 := Oct.split_len (fun x => x == (c.toNat : Int)) t.data.toList
    have HG := Lib.hid (Oct.split_glue (fun x => x == (c.toNat : Int)) s.data.toList t.data.toList c (by simp))
    go_enter Try.func10, Try.ntmps10
    go_wp2_with fail
    refine (awake_any _).mono ?_
    rintro e w1 ⟨rfl, hb1⟩
    go_wp2_with fail
    clear hcv
    refine (split_any _ _ _ (by rw [size_glue]; omega)).mono ?_
    rintro e w2 ⟨v2, rfl, hb2, ho2⟩
    rw [list_glue, HG.out] at ho2
    go_wp2_with fail
    refine (split_any _ _ _ (by omega)).mono ?_
    rintro e w3 ⟨v3, rfl, hb3, ho3⟩
    go_wp2_with fail
    refine (split_any _ _ _ (by omega)).mono ?_
    rintro e w4 ⟨v4, rfl, hb4, ho4⟩
    have ho3' := owns_below ho3 hb4
    have ho2' := owns_below (owns_below ho2 hb3) hb4
    have hlen : (Oct.split (fun x => x == (c.toNat : Int)) s.data.toList).length + (Oct.split (fun x => x == (c.toNat : Int)) t.data.toList).length ≤ 100000 := by
      have l1 : s.data.toList.length = s.size := by simp
      have l2 : t.data.toList.length = t.size := by simp
      omega
    have hz4 : w2.heap.size ≤ w4.heap.size := Nat.le_trans hb3.size hb4.size
    go_wp2_with (at_builtin; refine wpList_append_two rfl _ _ rfl _ _ _ _ _ _ rfl rfl ho3' ho4 hlen hz4 ?_)
    intro v5 w5 ho5 hg5
    have ho2'' := kept_elder ho2' ho3' (fun k hk => (ho2.lt k hk).2) hg5
    have ho5' := own_both ho5
    have hb5 : Below w.heap.size w w5 := glue_below hb1 hb2 hb3 hb4 hg5 (fun k hk => (ho3.lt k hk).1)
    clear ho2' ho3' ho4 ho2 ho3 ho5 hg5 hz4 hlen q1 q2 HG hb1 hb2 hb3 hb4
    go_wp2_with fail
    refine (texts_same _ _ _ _ _ _ ho2'' ho5').mono ?_
    rintro e w6 ⟨rfl, hb6⟩
    replace hb6 := Below.onto hb5 hb6
    clear ho2'' ho5' hb5
    have q1 := Oct.words_len s.data.toList
    have q2 := Oct.words_len t.data.toList
    have HG := Lib.hid (Oct.words_glue s.data.toList t.data.toList)
    go_wp2_with fail
    refine (words_any _ _ (by rw [size_glue]; omega)).mono ?_
    rintro e w7 ⟨v7, rfl, hb7, ho7⟩
    rw [list_glue, HG.out] at ho7
    go_wp2_with fail
    refine (words_any _ _ (by omega)).mono ?_
    rintro e w8 ⟨v8, rfl, hb8, ho8⟩
    go_wp2_with fail
    refine (words_any _ _ (by omega)).mono ?_
    rintro e w9 ⟨v9, rfl, hb9, ho9⟩
    have ho8' := owns_below ho8 hb9
    have ho7' := owns_below (owns_below ho7 hb8) hb9
    have hlen : (Oct.words s.data.toList).length + (Oct.words t.data.toList).length ≤ 100000 := by
      have l1 : s.data.toList.length = s.size := by simp
      have l2 : t.data.toList.length = t.size := by simp
      omega
    have hz9 : w7.heap.size ≤ w9.heap.size := Nat.le_trans hb8.size hb9.size
    go_wp2_with (at_builtin; refine wpList_append_two rfl _ _ rfl _ _ _ _ _ _ rfl rfl ho8' ho9 hlen hz9 ?_)
    intro v10 w10 ho10 hg10
    have ho7'' := kept_elder ho7' ho8' (fun k hk => (ho7.lt k hk).2) hg10
    have ho10' := own_both ho10
    have hb10 : Below w.heap.size w w10 := glue_below2 (Below.onto hb6 hb7) hb8 hb9 hg10 (fun k hk => (ho8.lt k hk).1)
    clear ho7' ho8' ho9 ho7 ho8 ho10 hg10 hz9 hlen q1 q2 HG hb6 hb7 hb8 hb9
    go_wp2_with fail
    refine (texts_same _ _ _ _ _ _ ho7'' ho10').mono ?_
    rintro e w11 ⟨rfl, hb11⟩
    go_wp2_with fail
    go_ret
    exact ⟨rfl, Below.onto hb10 hb11⟩
  · go_enter Try.func10, Try.ntmps10
    go_wp2_with fail
    refine (awake_any _).mono ?_
    rintro e w1 ⟨rfl, hb1⟩
    go_wp2_with fail
    all_goals (go_ret; exact ⟨rfl, hb1⟩)
end Go.Proofs.Ytnkalbhpmhheiaa
