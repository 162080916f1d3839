/- The contract of strings.IndexAny at a colon and a stroke, and at a stroke alone, whatever the text. -/
import Derived.Test.YtinjkpbpkedfnaaGreatDoorRuneHi
import Derived.Test.YtinjkpbpkedfnaaGreatDoorCmPure
import Derived.Shelf.Strings.IndexAnyAll
namespace Go.Proofs.YtinjkpbpkedfnaaGreatDoor
open Go.RowKit Go.Shelf

set_option maxHeartbeats 4000000 in
set_option maxRecDepth 100000 in
theorem cmRune_high (r : Int) (h : 128 ≤ r) (w : World) : Calls Tryz.prog 92 #[.string ⟨#[58, 47]⟩, .int .i32 r] w fun e w' => e = .returned (.int .i64 (-1)) ∧ Below w.heap.size w w' := by
  have h0 : decide ((0 : Int) ≤ r) = true := decide_eq_true (by omega)
  have h1 : decide (r < (128 : Int)) = false := decide_eq_false (by omega)
  by_cases h3 : r = 65533
  · subst h3
    go_enter Tryz.func92, Tryz.ntmps92
    go_wp2
    go_loopg [5, 6] 2 (fun g _ _ wx => ∃ i : Nat, i + g = 2 ∧ wx = w.iter ⟨#[58, 47]⟩ i)
    case atStart => exact ⟨0, by omega, rfl⟩
    case round =>
      obtain ⟨i, hig, rfl⟩ := hrel
      cases gk with
      | zero =>
        obtain rfl : i = 2 := by omega
        have hnx := fun ty => run_next_end (P := Tryz.prog) w ⟨#[58, 47]⟩ 2 ty (by decide)
        go_wp2
        go_ret
        exact ⟨rfl, (Below.refl _ w).alloc (Nat.le_refl _) _⟩
      | succ g =>
        rcases (show i = 0 ∨ i = 1 by omega) with rfl | rfl
        · have hnx := fun ty => run_next_ascii (P := Tryz.prog) w ⟨#[58, 47]⟩ 0 ty (by decide) (by decide)
          go_wp2
          go_roundg g
          case measure => omega
          case rel => exact ⟨1, by omega, rfl⟩
        · have hnx := fun ty => run_next_ascii (P := Tryz.prog) w ⟨#[58, 47]⟩ 1 ty (by decide) (by decide)
          go_wp2
          go_roundg g
          case measure => omega
          case rel => exact ⟨2, by omega, rfl⟩
  · have h3' : (r == 65533) = false := beq_eq_false_iff_ne.2 h3
    obtain ⟨rs, hrs⟩ : ∃ rs, Utf8.encode r = rs := ⟨_, rfl⟩
    obtain ⟨hs1, hs2, hs3⟩ := enc_shape r h
    rw [hrs] at hs1 hs2
    have HS3 : Hid (∀ i (hi : i < rs.size), i + 1 = rs.size → 128 ≤ (rs[i]).toNat) := Lib.hid (by subst hrs; exact hs3)
    clear hs3
    rcases (show rs.size = 2 ∨ rs.size = 3 ∨ rs.size = 4 by omega) with hm | hm | hm
    · -- 2 bytes
      have hlt : 1 < rs.size := by omega
      obtain ⟨x, hx⟩ : ∃ x, rs[1] = x := ⟨_, rfl⟩
      have hxh : 128 ≤ x.toNat := by rw [← hx]; exact HS3.out 1 hlt (by omega)
      have hwr : IntKind.i64.wrap 2 = 2 := by decide
      have hne : ((((⟨#[58, 47]⟩ : ByteArray)[1]).toNat : Int) != (x.toNat : Int)) = true := bne_iff_ne.2 (by show ((47 : Nat) : Int) ≠ _; omega)
      have hN : Hid (∀ W : World, Calls Tryz.prog 60 #[.string ((⟨#[58, 47]⟩ : ByteArray).extract 2 2), .int .u8 x.toNat] W fun e w' => e = .returned (.int .i64 (-1)) ∧ w' = W) := Lib.hid (fun W => (brk_no _ x hxh (by decide +kernel) W).mono fun _ _ h => ⟨h.1, h.2.symm⟩)
      clear hs1 hs2 HS3 hxh
      go_enter Tryz.func92, Tryz.ntmps92
      go_wp2_with fail
      refine (valid_any r w).mono ?_
      rintro e w1 ⟨rfl | rfl, rfl⟩
      · go_wp2
        go_ret
        exact ⟨rfl, Below.refl _ _⟩
      · go_wp2
        go_step3
        go_wp2
        go_loopw [9] (fun i wr => i = .int .i64 1 ∧ wr = w) (fun _ _ => 0)
        case atStart => exact ⟨rfl, rfl⟩
        case round =>
          obtain ⟨rfl, rfl⟩ := hrel
          go_wp2
          go_step3
          go_wp2
          go_quiet (fail)
          have HB := Lib.hid (below_drewN' (Below.refl wr.heap.size wr) nq)
          obtain ⟨w2, hw2⟩ : ∃ w2, wr.drewN nq = w2 := ⟨_, rfl⟩
          rw [hw2] at HB ⊢
          clear hw2
          go_wp2
          go_quiet (first | (go_at_call 60; refine Calls.quiet_of_same (hN.out _)))
          go_wp2
          simp +zetaDelta only [Exit.noGoto, Exit.inBlock, Exit.then]
          go_ret
          exact ⟨rfl, below_drewN' HB.out _⟩
    · -- 3 bytes
      have hlt : 2 < rs.size := by omega
      obtain ⟨x, hx⟩ : ∃ x, rs[2] = x := ⟨_, rfl⟩
      have hxh : 128 ≤ x.toNat := by rw [← hx]; exact HS3.out 2 hlt (by omega)
      go_enter Tryz.func92, Tryz.ntmps92
      go_wp2_with fail
      refine (valid_any r w).mono ?_
      rintro e w1 ⟨rfl | rfl, rfl⟩
      · go_wp2
        go_ret
        exact ⟨rfl, Below.refl _ _⟩
      · go_wp2
        go_step3
        go_wp2
        go_loopw [9] (fun i wr => i = .int .i64 2 ∧ wr = w) (fun _ _ => 0)
        case atStart => exact ⟨rfl, rfl⟩
        case round =>
          obtain ⟨rfl, rfl⟩ := hrel
          go_wp2
          rw [Exit.noGoto_ret]
          go_ret
          exact ⟨rfl, Below.refl _ _⟩
    · -- 4 bytes
      have hlt : 3 < rs.size := by omega
      obtain ⟨x, hx⟩ : ∃ x, rs[3] = x := ⟨_, rfl⟩
      have hxh : 128 ≤ x.toNat := by rw [← hx]; exact HS3.out 3 hlt (by omega)
      go_enter Tryz.func92, Tryz.ntmps92
      go_wp2_with fail
      refine (valid_any r w).mono ?_
      rintro e w1 ⟨rfl | rfl, rfl⟩
      · go_wp2
        go_ret
        exact ⟨rfl, Below.refl _ _⟩
      · go_wp2
        go_step3
        go_wp2
        go_loopw [9] (fun i wr => i = .int .i64 3 ∧ wr = w) (fun _ _ => 0)
        case atStart => exact ⟨rfl, rfl⟩
        case round =>
          obtain ⟨rfl, rfl⟩ := hrel
          go_wp2
          rw [Exit.noGoto_ret]
          go_ret
          exact ⟨rfl, Below.refl _ _⟩

def mkL : List UInt8 := [58, 47]
theorem mk_in (b : UInt8) : mkL.contains b = (b == 58 || b == 47) := by
  unfold mkL
  rw [List.contains_cons, List.contains_cons, List.contains_nil, Bool.or_false]
theorem mk_high {b : UInt8} (h : 128 ≤ b.toNat) : mkL.contains b = false := by
  rw [mk_in]
  have h0 : (b == 58) = false := beq_eq_false_iff_ne.2 (by rintro rfl; revert h; decide)
  have h1 : (b == 47) = false := beq_eq_false_iff_ne.2 (by rintro rfl; revert h; decide)
  rw [h0, h1]; rfl
/-- Where the first of some marks stands. -/
theorem any_at (ms : List UInt8) : ∀ l : List UInt8, (Lib.indexAny l ms = -1 ∧ l.takeWhile (fun b => !ms.contains b) = l) ∨ (Lib.indexAny l ms = ((l.takeWhile (fun b => !ms.contains b)).length : Int) ∧ (l.takeWhile (fun b => !ms.contains b)).length < l.length)
  | [] => .inl ⟨rfl, rfl⟩
  | b :: l => by
    rw [Lib.indexAny, List.takeWhile_cons]
    cases hb : ms.contains b with
    | true => exact .inr ⟨by simp, by simp⟩
    | false =>
      simp only [Bool.not_false, if_true, Bool.false_eq_true, if_false]
      rcases any_at ms l with ⟨h1, h2⟩ | ⟨h1, h2⟩
      · exact .inl ⟨by rw [h1]; rfl, by rw [h2]⟩
      · refine .inr ⟨?_, by rw [List.length_cons, List.length_cons]; omega⟩
        rw [h1, if_neg (by rw [beq_iff_eq]; omega), List.length_cons]
        push_cast; rfl
theorem mk_more {s : ByteArray} {i k : Nat} (h : Lib.NoAny s.data.toList mkL i) (hr : ∀ j (hj : j < s.size), i ≤ j → j < i + k → 128 ≤ (s[j]).toNat) : Lib.NoAny s.data.toList mkL (i + k) := fun j b hj hb => by
  by_cases hji : j < i
  · exact h j b hji hb
  · have hjs : j < s.size := by
      rcases Nat.lt_or_ge j s.size with h | h
      · exact h
      · rw [List.getElem?_eq_none (by simpa using h)] at hb; cases hb
    have : s.data.toList[j]? = some s[j] := Lib.data_getElem? s j hjs
    rw [this] at hb
    cases hb
    exact mk_high (hr j hjs (by omega) hj)
theorem size_mk : (⟨#[58, 47]⟩ : ByteArray).size = 2 := rfl
set_option maxHeartbeats 4000000 in
set_option maxRecDepth 100000 in
theorem cmIdx_short (s : ByteArray) (w : World) (h8 : s.size ≤ 8) : Calls Tryz.prog 64 #[.string s, .string ⟨#[58, 47]⟩] w fun e w' => e = .returned (.int .i64 (Lib.indexAny s.data.toList mkL)) ∧ Below w.heap.size w w' := by
  have h8z : decide ((8 : Int) < (s.size : Int)) = false := decide_eq_false (by omega)
  go_enter Tryz.func64, Tryz.ntmps64
  go_wp2_with fail
  refine (Tryz.strings_shouldUseASCIISet _ _).mono ?_
  rintro e w' ⟨rfl, hw⟩
  rw [hw, h8z]
  clear hw
  go_wp2
  have hst : (w.iter s 0).heap[w.heap.size]? = some (.stringIter s 0) ∧ Below w.heap.size w (w.iter s 0) := ⟨World.iter_heap _ _ _, (Below.refl _ w).alloc (Nat.le_refl _) _⟩
  go_loopg [9, 10] s.size (fun g _ _ wx => ∃ i : Nat, i + g = s.size ∧ wx.heap[w.heap.size]? = some (.stringIter s i) ∧ Below w.heap.size w wx ∧ Hid (Lib.NoAny s.data.toList mkL i))
  case atStart => exact ⟨0, by omega, hst.1, hst.2, Lib.hid (Lib.NoAny.zero _ _)⟩
  case round =>
    obtain ⟨i, hig, hit, hbel, hno⟩ := hrel
    clear hst
    cases gk with
    | zero =>
      obtain rfl : i = s.size := by omega
      have hnx := fun ty => run_next_at_end (P := Tryz.prog) _ _ s s.size hit (by omega) ty
      have HB := Lib.hid hbel
      clear hbel hit
      go_wp2
      go_ret
      exact ⟨Oct.ret_int (by rw [Lib.indexAny_none (by simpa using hno.out)]), HB.out⟩
    | succ g =>
      have hi : i < s.size := by omega
      have hnx := fun ty => run_next_at (P := Tryz.prog) _ _ s i hit hi ty
      obtain ⟨x, hx⟩ : ∃ x : UInt8, s[i]'hi = x := ⟨_, rfl⟩
      have hxl : s.data.toList[i]? = some x := by rw [← hx]; exact Lib.data_getElem? s i hi
      by_cases ha : x.toNat < 128
      · have hd := decode_ascii s i hi (by rw [hx]; exact ha)
        rw [hd, hx] at hnx
        obtain ⟨p1, p2⟩ := iter_put (q := i + 1) hit hbel
        obtain ⟨W2, hW2⟩ : ∃ W2, ({ wr with heap := wr.heap.setIfInBounds w.heap.size (.stringIter s (i + 1)) } : World) = W2 := ⟨_, rfl⟩
        simp only at hnx
        rw [hW2] at hnx p1 p2
        have hcon := Lib.contains_iff_indexByte mkL x
        have hback : ((x.toNat : Int)).toNat.toUInt8 = x := by simp
        have hcall : ∀ W, Calls Tryz.prog 92 #[.string ⟨#[58, 47]⟩, .int .i32 x.toNat] W fun e w' => e = .returned (.int .i64 (Lib.indexByte mkL x)) ∧ w' = W := fun W => by
          have := Tryz.strings_IndexRune_ascii ⟨#[58, 47]⟩ (x.toNat : Int) W (by omega) (by omega)
          rw [hback] at this; exact this
        have HX := Lib.hid hxl; have HP1 := Lib.hid p1; have HP2 := Lib.hid p2
        clear hW2 hbel hit hxl hx hd p1 p2
        cases hin : mkL.contains x
        · rw [hin] at hcon
          have hlt : ¬ ((0 : Int) ≤ Lib.indexByte mkL x) := of_decide_eq_false hcon.symm
          have HN := Lib.hid (hno.out.succ HX.out hin)
          clear hcon hin
          obtain ⟨q, hq⟩ : ∃ q, Lib.indexByte mkL x = q := ⟨_, rfl⟩
          rw [hq] at hlt hcall
          clear hq
          go_wp2_with fail
          refine (hcall _).mono ?_
          rintro e w' ⟨rfl, rfl⟩
          clear hcall
          go_wp2
          go_roundg g
          case measure => omega
          case rel => exact ⟨i + 1, by omega, HP1.out, HP2.out, HN⟩
        · rw [hin] at hcon
          have hge : (0 : Int) ≤ Lib.indexByte mkL x := of_decide_eq_true hcon.symm
          have HN := Lib.hid (Lib.indexAny_hit hno.out HX.out hin)
          clear hcon hin
          obtain ⟨q, hq⟩ : ∃ q, Lib.indexByte mkL x = q := ⟨_, rfl⟩
          rw [hq] at hge hcall
          clear hq
          go_wp2_with fail
          refine (hcall _).mono ?_
          rintro e w' ⟨rfl, rfl⟩
          clear hcall
          go_wp2
          go_ret
          exact ⟨Oct.ret_int (by rw [HN.out]), HP2.out⟩
      · obtain ⟨d1, d2, d3, d4⟩ := decode_run s i hi (by rw [hx]; omega)
        obtain ⟨r, hr⟩ : ∃ r, (Utf8.decode s i).1 = r := ⟨_, rfl⟩
        obtain ⟨k, hk⟩ : ∃ k, (Utf8.decode s i).2 = k := ⟨_, rfl⟩
        rw [hr] at d1 hnx
        rw [hk] at d2 d3 d4 hnx
        have HN := Lib.hid (mk_more hno.out d4)
        obtain ⟨p1, p2⟩ := iter_put (q := i + k) hit hbel
        obtain ⟨W2, hW2⟩ : ∃ W2, ({ wr with heap := wr.heap.setIfInBounds w.heap.size (.stringIter s (i + k)) } : World) = W2 := ⟨_, rfl⟩
        rw [hW2] at hnx p1 p2
        have hcall : ∀ W, Calls Tryz.prog 92 #[.string ⟨#[58, 47]⟩, .int .i32 r] W fun e w' => e = .returned (.int .i64 (-1)) ∧ Below W.heap.size W w' := fun W => cmRune_high r (by omega) W
        have HP1 := Lib.hid p1; have HP2 := Lib.hid p2
        clear hW2 hbel hit hxl hx p1 p2 hr hk d4 ha
        go_wp2_with fail
        refine (hcall _).mono ?_
        rintro e w' ⟨rfl, hb2⟩
        clear hcall
        have HB2 := Lib.hid hb2
        clear hb2
        go_wp2
        go_roundg (g + 1 - k)
        case measure => omega
        case rel => exact ⟨i + k, by omega, (HB2.out.block _ (Array.getElem?_eq_some_iff.1 HP1.out).1).trans HP1.out, HP2.out.trans (HB2.out.mono HP2.out.size), HN⟩

theorem info_mk : (Tryz.prog.info? 96).map (fun i => (i.zero, i.size)) = some (some (.agg (Array.replicate 256 (.bool false))), 256) := by kernel_rfl
theorem cmIdx_any (s : ByteArray) (w : World) (hs : s.size ≤ 100000000) : Calls Tryz.prog 64 #[.string s, .string ⟨#[58, 47]⟩] w fun e w' => e = .returned (.int .i64 (Lib.indexAny s.data.toList mkL)) ∧ Below w.heap.size w w' := by
  by_cases h8 : s.size ≤ 8
  · exact cmIdx_short s w h8
  · refine (Tryz.strings_IndexAny_long (zero_of_info info_mk).1 s ⟨#[58, 47]⟩ w (by decide) (by omega) (by omega) (by decide) ?_).mono ?_
    · intro j b hb
      match j, hb with
      | 0, hb => cases hb; decide
      | 1, hb => cases hb; decide
    · rintro e w' ⟨rfl, rfl⟩
      exact ⟨rfl, ((Below.refl _ w).alloc (Nat.le_refl _) _).alloc (by simp) _⟩
theorem cmIdx_one (s : ByteArray) (w : World) : Calls Tryz.prog 64 #[.string s, .string ⟨#[47]⟩] w fun e w' => e = .returned (.int .i64 (Lib.indexAny s.data.toList [47])) ∧ Below w.heap.size w w' := by
  refine (Tryz.strings_IndexAny_one s ⟨#[47]⟩ w rfl ?_).mono ?_
  · intro j b hb
    match j, hb with
    | 0, hb => cases hb; decide
  · rintro e w' ⟨rfl, rfl⟩
    exact ⟨rfl, Below.refl _ _⟩
end Go.Proofs.YtinjkpbpkedfnaaGreatDoor
