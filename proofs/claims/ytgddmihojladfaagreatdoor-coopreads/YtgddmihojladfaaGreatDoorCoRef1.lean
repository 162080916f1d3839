/- The contracts of the document's word, and of what its keywords mean. -/
import Derived.Test.YtgddmihojladfaaGreatDoorCoLeaf
import Derived.Test.YtgddmihojladfaaGreatDoorCoRead
import Derived.Test.YtgddmihojladfaaGreatDoorHdRefC
import Derived.Test.YtgddmihojladfaaGreatDoorSfRef11
namespace Go.Proofs.YtgddmihojladfaaGreatDoor
open Go.RowKit

theorem rparse_some {s : List UInt8} {x : Sf.Itm} (h : Sf.parse s = some x) (w : World) : Calls Tryz.prog 45 #[.string (bA s)] w fun e w' => ∃ A c, e = .returned (.tuple #[.agg #[.int .i64 x.kind, .int .i64 x.n, .string (bA x.text), .slice A x.params.length c], .int .i64 0]) ∧ Below w.heap.size w w' ∧ w'.ownsRow w.heap.size 72 4 (.slice A x.params.length c) x.params.length (parsRow x.params) := by
  refine (rparse_any s w).mono ?_
  rintro e w' ⟨hb, ⟨y, v, ho, rfl, hw⟩ | ⟨ho, _⟩⟩
  · rw [h] at ho; cases ho
    obtain ⟨A, c, rfl⟩ := slice4 hw
    exact ⟨A, c, rfl, hb, hw⟩
  · rw [h] at ho; cases ho
theorem rparse_none {s : List UInt8} (h : Sf.parse s = none) (w : World) : Calls Tryz.prog 45 #[.string (bA s)] w fun e w' => e = .returned (.tuple #[.agg #[.int .i64 0, .int .i64 0, .string ⟨#[]⟩, .slice none 0 0], .int .i64 50]) ∧ Below w.heap.size w w' := by
  refine (rparse_any s w).mono ?_
  rintro e w' ⟨hb, ⟨y, v, ho, rfl, hw⟩ | ⟨_, rfl⟩⟩
  · rw [h] at ho; cases ho
  · exact ⟨rfl, hb⟩
theorem endp_succ {l : List Sf.Par} {k : Nat} (h : k < l.length) : Co.endp (l.take (k + 1)) = if l[k].key == Co.kTo && l[k].kind == 3 then l[k].text else Co.endp (l.take k) := by
  unfold Co.endp
  rw [List.take_succ_eq_append_getElem h, List.foldl_append]
  rfl
set_option maxHeartbeats 4000000 in
set_option maxRecDepth 20000 in
theorem rword_any (A : Option Addr) (c n : Nat) (l : List Hd.Hdr) (nm : List UInt8) (w : World) (hn : l.length = n) (hl : SmallH l) (hnm : nm.length ≤ 10000) (hA : SeenH w A l) :
    Calls Tryz.prog 30 #[.slice A n c, .string (bA nm)] w fun e w' => e = .returned (.tuple #[.string (bA (Co.word l nm).1), .string (bA (Co.word l nm).2)]) ∧ Below w.heap.size w w' := by
  have h1 := rcombined_any A c n l nm w hn hl hnm hA
  have hw := Co.word_comb l nm
  have hcn := fun h => Co.comb_none (l := l) (n := nm) h
  obtain ⟨s, hs⟩ : ∃ s, Hd.comb l nm = s := ⟨_, rfl⟩
  obtain ⟨b, hb⟩ : ∃ b, Hd.hasB l nm = b := ⟨_, rfl⟩
  obtain ⟨W, hW⟩ : ∃ W, Co.word l nm = W := ⟨_, rfl⟩
  obtain ⟨y, hy⟩ : ∃ y, W.1 = y := ⟨_, rfl⟩
  obtain ⟨z, hz⟩ : ∃ z, W.2 = z := ⟨_, rfl⟩
  rw [hs, hb] at h1 hcn
  rw [hs, hW] at hw
  rw [hW, hy, hz]
  have H1 := Lib.hid h1
  clear h1 hs hb hl hA hW
  rcases ho : Sf.parse s with _ | x
  · rw [ho] at hw
    obtain rfl : W = ([], []) := hw
    obtain rfl : y = [] := hy.symm
    obtain rfl : z = [] := hz.symm
    have H2 := Lib.hid (rparse_none ho)
    clear ho hy hz hcn
    go_enter Tryz.func30, Tryz.ntmps30
    go_wp2_with fail
    refine H1.out.mono ?_
    rintro e w1 ⟨rfl, hb1⟩
    go_wp2_with fail
    refine (H2.out _).mono ?_
    rintro e w2 ⟨rfl, hb2⟩
    cases b with
    | true =>
      go_wp2_with fail
      go_ret2
      exact ⟨rfl, below_al (Below.onto hb1 hb2) _⟩
    | false =>
      go_wp2_with fail
      go_ret2
      exact ⟨rfl, below_al (Below.onto hb1 hb2) _⟩
  · rw [ho] at hw
    obtain rfl : b = true := by
      cases b with
      | true => rfl
      | false =>
        rw [hcn rfl, Co.parse_nil] at ho
        cases ho
    have H2 := Lib.hid (rparse_some ho)
    clear ho hcn
    by_cases h4 : x.kind = 4
    · have ew : W = (x.text, Co.endp x.params) := by rw [hw]; unfold Co.ofItem; dsimp only; rw [if_pos h4]
      subst ew
      dsimp only at hy hz
      subst hy
      have HZ := Lib.hid hz
      clear hw hz
      go_enter Tryz.func30, Tryz.ntmps30
      go_wp2_with fail
      refine H1.out.mono ?_
      rintro e w1 ⟨rfl, hb1⟩
      go_wp2_with fail
      refine (H2.out _).mono ?_
      rintro e w2 ⟨A2, c2, rfl, hb2, hr⟩
      rw [h4]
      have hb3 := below_al (Below.onto hb1 hb2) (.cells (iC 4 x.n x.text (.slice A2 x.params.length c2)) 66)
      have hI := IBox.new (k := 4) (n := x.n) (t := x.text) hr
      have hS := hI.seen
      have hlen := own_len4 hr
      obtain ⟨d0, d1, d2, d3⟩ := hI.cells
      unfold iC at d0 d1 d2 d3 hS hb3
      have HS := Lib.hid hS
      have HB3 := Lib.hid hb3
      clear hS hb3 hI hr hb1 hb2
      unfold maxLen at hlen
      go_wp2
      go_loopw [10, 11] (fun tv i wr => ∃ k : Nat, k ≤ x.params.length ∧ i = .int .i64 k ∧ tv = .string (bA (Co.endp (x.params.take k))) ∧ wr = w2.alloc (.cells #[.int .i64 4, .int .i64 x.n, .string (bA x.text), .slice A2 x.params.length c2] 66)) (fun _ i _ => x.params.length - (intOf i).toNat)
      case atStart => exact ⟨0, by omega, rfl, rfl, rfl⟩
      case round =>
        obtain ⟨k, hk, rfl, rfl, rfl⟩ := hrel
        by_cases hlt : k < x.params.length
        · obtain ⟨g, o, rfl, hgl, hc⟩ := HS.out (by omega)
          obtain ⟨c0, c1, c2', c3⟩ := hc k hlt
          have hes := endp_succ hlt
          obtain ⟨p, hp⟩ : ∃ p, x.params[k] = p := ⟨_, rfl⟩
          rw [hp] at c0 c1 c2' c3 hes
          obtain ⟨acc, hacc⟩ : ∃ acc, Co.endp (x.params.take k) = acc := ⟨_, rfl⟩
          rw [hacc] at hes ⊢
          have hltz : (k : Int) < (x.params.length : Int) := by omega
          clear hc hp hacc
          cases h1 : p.key == Co.kTo with
          | true =>
            cases h3 : p.kind == 3 with
            | true =>
              rw [h1, h3] at hes
              unfold Co.kTo at h1
              have HES := Lib.hid hes
              clear hes
              go_wp2_with fail
              exact ⟨⟨k + 1, by omega, by go_num, by rw [HES.out]; rfl, trivial⟩, by simp [intOf]; omega⟩
            | false =>
              rw [h1, h3] at hes
              unfold Co.kTo at h1
              have HES := Lib.hid hes
              clear hes
              go_wp2_with fail
              exact ⟨⟨k + 1, by omega, by go_num, by rw [HES.out]; rfl, trivial⟩, by simp [intOf]; omega⟩
          | false =>
            rw [h1] at hes
            unfold Co.kTo at h1
            have HES := Lib.hid hes
            clear hes
            go_wp2_with fail
            exact ⟨⟨k + 1, by omega, by go_num, by rw [HES.out]; rfl, trivial⟩, by simp [intOf]; omega⟩
        · obtain rfl : k = x.params.length := by omega
          go_wp2_with fail
          go_ret2
          refine ⟨?_, HB3.out⟩
          show Ending.returned (.tuple #[.string (bA x.text), .string (bA (Co.endp (x.params.take x.params.length)))]) = _
          rw [List.take_length, HZ.out]
    · have ew : W = ([], []) := by rw [hw]; unfold Co.ofItem; dsimp only; rw [if_neg h4]
      subst ew
      obtain rfl : y = [] := hy.symm
      obtain rfl : z = [] := hz.symm
      have h4b : (x.kind != 4) = true := by simpa using h4
      clear hw hy hz
      go_enter Tryz.func30, Tryz.ntmps30
      go_wp2_with fail
      refine H1.out.mono ?_
      rintro e w1 ⟨rfl, hb1⟩
      go_wp2_with fail
      refine (H2.out _).mono ?_
      rintro e w2 ⟨A2, c2, rfl, hb2, hr⟩
      go_wp2_with fail
      all_goals first
        | (exfalso; simp_all; done)
        | (go_ret2; exact ⟨rfl, below_al (Below.onto hb1 hb2) _⟩)

theorem rcoepW_any (s : List UInt8) (w : World) : Calls Tryz.prog 33 #[.string (bA s)] w fun e w' => e = .returned (.int .i64 (Co.coepW s)) ∧ w = w' := by
  unfold Co.coepW
  by_cases h1 : s = Co.wReq
  · rw [if_pos h1]
    have e1 : (s == Co.wReq) = true := beq_iff_eq.2 h1
    unfold Co.wReq at e1
    clear h1
    go_enter Tryz.func33, Tryz.ntmps33
    go_wp2_with fail
    go_ret
    exact ⟨rfl, rfl⟩
  · rw [if_neg h1]
    have e1 : (s == Co.wReq) = false := beq_eq_false_iff_ne.2 h1
    unfold Co.wReq at e1
    clear h1
    by_cases h2 : s = Co.wCred
    · rw [if_pos h2]
      have e2 : (s == Co.wCred) = true := beq_iff_eq.2 h2
      unfold Co.wCred at e2
      clear h2
      go_enter Tryz.func33, Tryz.ntmps33
      go_wp2_with fail
      go_ret
      exact ⟨rfl, rfl⟩
    · rw [if_neg h2]
      have e2 : (s == Co.wCred) = false := beq_eq_false_iff_ne.2 h2
      unfold Co.wCred at e2
      clear h2
      go_enter Tryz.func33, Tryz.ntmps33
      go_wp2_with fail
      go_ret
      exact ⟨rfl, rfl⟩
theorem rcoopW_any (s : List UInt8) (p : Bool) (w : World) : Calls Tryz.prog 31 #[.string (bA s), .bool p] w fun e w' => e = .returned (.int .i64 (Co.coopW s p)) ∧ w = w' := by
  unfold Co.coopW
  by_cases h1 : s = Co.wSame
  · rw [if_pos h1]
    have e1 : (s == Co.wSame) = true := beq_iff_eq.2 h1
    unfold Co.wSame at e1
    clear h1
    cases p with
    | true =>
      go_enter Tryz.func31, Tryz.ntmps31
      go_wp2_with fail
      go_ret
      exact ⟨rfl, rfl⟩
    | false =>
      go_enter Tryz.func31, Tryz.ntmps31
      go_wp2_with fail
      go_ret
      exact ⟨rfl, rfl⟩
  · rw [if_neg h1]
    have e1 : (s == Co.wSame) = false := beq_eq_false_iff_ne.2 h1
    unfold Co.wSame at e1
    clear h1
    by_cases h2 : s = Co.wPop
    · rw [if_pos h2]
      have e2 : (s == Co.wPop) = true := beq_iff_eq.2 h2
      unfold Co.wPop at e2
      clear h2
      go_enter Tryz.func31, Tryz.ntmps31
      go_wp2_with fail
      go_ret
      exact ⟨rfl, rfl⟩
    · rw [if_neg h2]
      have e2 : (s == Co.wPop) = false := beq_eq_false_iff_ne.2 h2
      unfold Co.wPop at e2
      clear h2
      go_enter Tryz.func31, Tryz.ntmps31
      go_wp2_with fail
      go_ret
      exact ⟨rfl, rfl⟩
end Go.Proofs.YtgddmihojladfaaGreatDoor
