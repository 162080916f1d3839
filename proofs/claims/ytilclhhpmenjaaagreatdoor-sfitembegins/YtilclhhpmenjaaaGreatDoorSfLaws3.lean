/- The walk of SfitemRest. -/
import Derived.Test.YtilclhhpmenjaaaGreatDoorSfSame
import Derived.OpenShut
namespace Go.Proofs.YtilclhhpmenjaaaGreatDoor
open Go.RowKit Go.Shelf Go.Maps Go.Deep

/-- Next's two answers. -/
theorem next_some {s : List UInt8} {x : Sf.Itm} {r : List UInt8} (h : Sf.next s = some (x, r)) (w : World) (hs : s.length ≤ 1000000) : Calls Tryz.prog 16 #[.string (bA s)] w fun e w' => ∃ A c, e = .returned (.tuple #[.agg #[.int .i64 x.kind, .int .i64 x.n, .string (bA x.text), .slice A x.params.length c], .string (bA r), .int .i64 0]) ∧ Below w.heap.size w w' ∧ w'.ownsRow w.heap.size 44 4 (.slice A x.params.length c) x.params.length (parsRow x.params) := by
  refine (next_any s w hs).mono ?_
  rintro e w' ⟨hb, ⟨y, r', v, ho, rfl, hw⟩ | ⟨ho, _⟩⟩
  · rw [h] at ho; cases ho
    obtain ⟨A, c, rfl⟩ := slice4 hw
    exact ⟨A, c, rfl, hb, hw⟩
  · rw [h] at ho; cases ho
theorem next_none {s : List UInt8} (h : Sf.next s = none) (w : World) (hs : s.length ≤ 1000000) : Calls Tryz.prog 16 #[.string (bA s)] w fun e w' => e = .returned (.tuple #[.agg #[.int .i64 0, .int .i64 0, .string ⟨#[]⟩, .slice none 0 0], .string ⟨#[]⟩, .int .i64 50]) ∧ Below w.heap.size w w' := by
  refine (next_any s w hs).mono ?_
  rintro e w' ⟨hb, ⟨y, r, v, ho, rfl, hw⟩ | ⟨_, rfl⟩⟩
  · rw [h] at ho; cases ho
  · exact ⟨rfl, hb⟩
theorem IBox.len {W : World} {B : Nat} {k n : Int} {t : List UInt8} {A : Option Addr} {c : Nat} {l : List Sf.Par} (h : IBox W B k n t A c l) : l.length ≤ maxLen := let ⟨_, hr⟩ := h.row; own_len4 hr
theorem head_no {r : List UInt8} (h : r.headD 0 ≠ 59) (h0 : 0 < (bA r).size) : ((bA r)[0].toNat : Int) ≠ 59 := by
  cases r with
  | nil => simp [bA_size] at h0
  | cons c r =>
    intro he
    apply h
    have : c.toNat = 59 := by exact_mod_cast he
    exact UInt8.toNat_inj.1 this

set_option maxHeartbeats 4000000 in
set_option maxRecDepth 100000 in
theorem walk_SfitemRest (s : ByteArray) (w : World) (hs : s.size ≤ maxLen) (hT : Tab w) (hM : TabM w) : Calls Tryz.prog 8 #[.string s] w fun e w' => e = .returned (.bool true) ∧ Below w.heap.size w w' := by
  unfold maxLen at hs
  have H := Lib.hid (awake_any w hT hM)
  clear hT hM
  by_cases hl : 4000 < s.size
  · have hl' : (4000 : Int) < (s.size : Int) := by omega
    go_enter Tryz.func8, Tryz.ntmps8
    go_wp2_with fail
    refine H.out.mono ?_
    rintro e w1 ⟨rfl, hb1⟩
    go_wp2_with fail
    go_ret
    exact ⟨rfl, hb1⟩
  · have hl' : (s.size : Int) ≤ 4000 := by omega
    have hsl : s.data.toList.length = s.size := by simp
    cases hn : Sf.next s.data.toList with
    | none =>
      have H1 : Hid (∀ W : World, Calls Tryz.prog 16 #[.string s] W fun e w' => e = .returned (.tuple #[.agg #[.int .i64 0, .int .i64 0, .string ⟨#[]⟩, .slice none 0 0], .string ⟨#[]⟩, .int .i64 50]) ∧ Below W.heap.size W w') := Lib.hid (fun W => next_none hn W (by omega))
      clear hn hsl
      go_enter Tryz.func8, Tryz.ntmps8
      go_wp2_with fail
      refine H.out.mono ?_
      rintro e w1 ⟨rfl, hb1⟩
      have HB1 := Lib.hid hb1
      clear hb1
      go_wp2_with fail
      refine (H1.out _).mono ?_
      rintro e w2 ⟨rfl, hb2⟩
      have HB2 := Lib.hid (below_al (onto HB1.out hb2) (.cells (iC 0 0 [] (.slice none 0 0)) 25))
      clear hb2
      go_wp2_with fail
      go_ret
      exact ⟨rfl, HB2.out⟩
    | some xr =>
      obtain ⟨x, r⟩ := xr
      obtain ⟨c, hc, hc0, hr0, hp⟩ := Sf.rest_alone hn (by omega)
      have H1 : Hid (∀ W : World, Calls Tryz.prog 16 #[.string s] W fun e w' => ∃ A c, e = .returned (.tuple #[.agg #[.int .i64 x.kind, .int .i64 x.n, .string (bA x.text), .slice A x.params.length c], .string (bA r), .int .i64 0]) ∧ Below W.heap.size W w' ∧ w'.ownsRow W.heap.size 44 4 (.slice A x.params.length c) x.params.length (parsRow x.params)) := Lib.hid (fun W => next_some hn W (by omega))
      have H2 := Lib.hid (fun W => parse_some hp W)
      have hR : ∀ h0 : 0 < (bA r).size, ((bA r)[0].toNat : Int) ≠ 59 := fun h0 => head_no hr0 h0
      have hsz : s.size = (bA c).size + (bA r).size := by rw [← hsl, hc, bA_size, bA_size, List.length_append]
      have hx1 : s.extract (bA c).size s.size = bA r := by rw [Byt.drop_ext, hc, bA_size]; simp
      have hx2 : s.extract 0 (bA c).size = bA c := by rw [Byt.take_ext, hc, bA_size]; simp
      have hc0' : 0 < (bA c).size := hc0
      obtain ⟨R, hRe⟩ : ∃ R, bA r = R := ⟨_, rfl⟩
      obtain ⟨C, hCe⟩ : ∃ C, bA c = C := ⟨_, rfl⟩
      rw [hRe] at H1 hR hsz hx1
      rw [hCe] at H2 hsz hx1 hx2 hc0'
      obtain ⟨xk, xn, xt, xl⟩ := x
      simp only at H1 H2
      clear hn hc hc0 hr0 hp hRe hCe hsl hl
      have hsub : (s.size : Int) - (R.size : Int) = (C.size : Int) := by omega
      have hsn : ((s.size : Int) - (R.size : Int)).toNat = C.size := by omega
      have hn1 : (1 : Int) ≤ (s.size : Int) - (R.size : Int) := by omega
      have hn2 : (s.size : Int) - (R.size : Int) ≤ (s.size : Int) := by omega
      have hn0 : (0 : Int) ≤ (s.size : Int) - (R.size : Int) := by omega
      clear hsz hsub
      by_cases hr : 0 < R.size
      · have hr' : (0 : Int) < (R.size : Int) := by omega
        have hq : ((R[0].toNat : Int) == 59) = false := by rw [beq_eq_false_iff_ne]; exact hR hr
        clear hR
        go_enter Tryz.func8, Tryz.ntmps8
        go_wp2_with fail
        refine H.out.mono ?_
        rintro e w1 ⟨rfl, hb1⟩
        have HB1 := Lib.hid hb1
        clear hb1
        go_wp2_with fail
        refine (H1.out _).mono ?_
        rintro e w2 ⟨A, cp, rfl, hb2, ho2⟩
        have HB2 := Lib.hid (below_al (onto HB1.out hb2) (.cells (iC xk xn xt (.slice A xl.length cp)) 25))
        have HX2 := Lib.hid (IBox.new (k := xk) (n := xn) (t := xt) ho2)
        clear hb2 ho2
        go_wp2_with fail
        refine (H2.out _).mono ?_
        rintro e w3 ⟨A3, cp3, rfl, hb3, ho3⟩
        have HB3 := Lib.hid (below_al (onto HB2.out hb3) (.cells (iC xk xn xt (.slice A3 xl.length cp3)) 25))
        have hX3 := (HX2.out.keep hb3).alloc (.cells (iC xk xn xt (.slice A3 xl.length cp3)) 25)
        have hY3 := IBox.new (k := xk) (n := xn) (t := xt) ho3
        have H4 := Lib.hid (same_any xk xn xk xn xt xt A A3 cp cp3 xl xl _ hX3.seen hY3.seen hX3.len)
        rw [decide_eq_true rfl] at H4
        have hlt := (HX2.out.keep hb3).lt
        obtain ⟨c0, c1, c2, c3⟩ := (HX2.out.keep hb3).cells
        have hne : ¬ w2.heap.size = w3.heap.size := by omega
        clear hb3 ho3 hX3 hY3 HX2
        go_wp2_with fail
        refine H4.out.mono ?_
        rintro e w4 ⟨rfl, hb4⟩
        have HB4 := Lib.hid (onto HB3.out hb4)
        clear hb4 H4
        go_wp2_with fail
        go_ret
        exact ⟨rfl, HB4.out⟩
      · have hr' : decide ((0 : Int) < (R.size : Int)) = false := decide_eq_false (by omega)
        clear hR
        go_enter Tryz.func8, Tryz.ntmps8
        go_wp2_with fail
        refine H.out.mono ?_
        rintro e w1 ⟨rfl, hb1⟩
        have HB1 := Lib.hid hb1
        clear hb1
        go_wp2_with fail
        refine (H1.out _).mono ?_
        rintro e w2 ⟨A, cp, rfl, hb2, ho2⟩
        have HB2 := Lib.hid (below_al (onto HB1.out hb2) (.cells (iC xk xn xt (.slice A xl.length cp)) 25))
        have HX2 := Lib.hid (IBox.new (k := xk) (n := xn) (t := xt) ho2)
        clear hb2 ho2
        go_wp2_with fail
        refine (H2.out _).mono ?_
        rintro e w3 ⟨A3, cp3, rfl, hb3, ho3⟩
        have HB3 := Lib.hid (below_al (onto HB2.out hb3) (.cells (iC xk xn xt (.slice A3 xl.length cp3)) 25))
        have hX3 := (HX2.out.keep hb3).alloc (.cells (iC xk xn xt (.slice A3 xl.length cp3)) 25)
        have hY3 := IBox.new (k := xk) (n := xn) (t := xt) ho3
        have H4 := Lib.hid (same_any xk xn xk xn xt xt A A3 cp cp3 xl xl _ hX3.seen hY3.seen hX3.len)
        rw [decide_eq_true rfl] at H4
        have hlt := (HX2.out.keep hb3).lt
        obtain ⟨c0, c1, c2, c3⟩ := (HX2.out.keep hb3).cells
        have hne : ¬ w2.heap.size = w3.heap.size := by omega
        clear hb3 ho3 hX3 hY3 HX2
        go_wp2_with fail
        refine H4.out.mono ?_
        rintro e w4 ⟨rfl, hb4⟩
        have HB4 := Lib.hid (onto HB3.out hb4)
        clear hb4 H4
        go_wp2_with fail
        go_ret
        exact ⟨rfl, HB4.out⟩
end Go.Proofs.YtilclhhpmenjaaaGreatDoor
