/- The walk of the statement on origins' texts. -/
import Derived.Test.YtehjnidggnfbfaaDoorUrlpErr
import Derived.Test.YtehjnidggnfbfaaDoorOrigLaws1
import Derived.Test.YtehjnidggnfbfaaDoorOrigLaws2
import Derived.Deep.RegionHeld3
namespace Go.Proofs.YtehjnidggnfbfaaDoor
open Go.RowKit

theorem smallO_good {u : Urp.URL} (g : Urp.Good u) (hl : (utextL u).length ≤ 3900) (id : Int) : SmallO (ofO u id) := by
  obtain ⟨s1, s2, a0, a1, p0, p1, _, _, _⟩ := Urp.good_small g hl
  rw [ofO_net g.net]
  refine ⟨by show u.scheme.length ≤ _; omega, s2, a0, a1, ?_, ?_⟩
  all_goals
    show _ ≤ _
    dsimp only
    split
    · rcases Urp.net_cases g.net with h | h <;> rw [h] <;> decide
    · assumption
theorem otext_is {o : Orig} {t : List UInt8} (h : otextL o = t) (W : World) (hS : SmallO o) (hT : Tab W) : Calls Tryd.prog 14 #[.agg #[.bool o.op, .int .i64 o.id, .string (bA o.scheme), .string (bA o.host.name), .bool o.host.v4, .int .u32 o.host.addr, .int .i64 o.port]] W fun e w' => e = .returned (.string (bA t)) ∧ Below W.heap.size W w' := by
  have := otext_any o W hS hT
  rw [h] at this
  exact this

/-- What the calls of the statement ask of the world: two origins' blocks. -/
structure TeO (w0 : World) (A B : Nat) (a b : Orig) (W : World) : Prop where
  bel : Below w0.heap.size w0 W
  tab : Tab W
  tab8 : Tab8 W
  x : OBox W A a
  y : OBox W B b
theorem TeO.below {w0 : World} {A B : Nat} {a b : Orig} {W W' : World} (hb : Below W.heap.size W W') (h : TeO w0 A B a b W) : TeO w0 A B a b W' := ⟨below_on h.bel hb, h.tab.below hb, h.tab8.below hb, h.x.keep hb, h.y.keep hb⟩
theorem TeO.drew {w0 : World} {A B : Nat} {a b : Orig} {W : World} (h : TeO w0 A B a b W) : TeO w0 A B a b W.drew := ⟨h.bel.drew, h.tab, h.tab8, h.x, h.y⟩
theorem TeO.all {w0 : World} {A B : Nat} {a b : Orig} {W : World} (h : TeO w0 A B a b W) : W.cell? ⟨A, 0, none⟩ = some (.bool a.op) ∧ W.cell? ⟨A, 1, none⟩ = some (.int .i64 a.id) ∧ W.cell? ⟨A, 2, none⟩ = some (.string (bA a.scheme)) ∧ W.cell? ⟨A, 3, none⟩ = some (.string (bA a.host.name)) ∧ W.cell? ⟨A, 4, none⟩ = some (.bool a.host.v4) ∧ W.cell? ⟨A, 5, none⟩ = some (.int .u32 a.host.addr) ∧ W.cell? ⟨A, 6, none⟩ = some (.int .i64 a.port) ∧ W.cell? ⟨B, 0, none⟩ = some (.bool b.op) ∧ W.cell? ⟨B, 1, none⟩ = some (.int .i64 b.id) ∧ W.cell? ⟨B, 2, none⟩ = some (.string (bA b.scheme)) ∧ W.cell? ⟨B, 3, none⟩ = some (.string (bA b.host.name)) ∧ W.cell? ⟨B, 4, none⟩ = some (.bool b.host.v4) ∧ W.cell? ⟨B, 5, none⟩ = some (.int .u32 b.host.addr) ∧ W.cell? ⟨B, 6, none⟩ = some (.int .i64 b.port) ∧ TeO w0 A B a b W :=
  ⟨h.x.c0, h.x.c1, h.x.c2, h.x.c3, h.x.c4, h.x.c5, h.x.c6, h.y.c0, h.y.c1, h.y.c2, h.y.c3, h.y.c4, h.y.c5, h.y.c6, h⟩

/-- .. and a URL's block. -/
structure TeX (w0 : World) (A B C : Nat) (a b : Orig) (x : Urp.URL) (W : World) : Prop where
  o : TeO w0 A B a b W
  u : UBox W C x
theorem TeX.below {w0 : World} {A B C : Nat} {a b : Orig} {x : Urp.URL} {W W' : World} (hb : Below W.heap.size W W') (h : TeX w0 A B C a b x W) : TeX w0 A B C a b x W' := ⟨h.o.below hb, h.u.keep hb⟩
theorem TeX.drew {w0 : World} {A B C : Nat} {a b : Orig} {x : Urp.URL} {W : World} (h : TeX w0 A B C a b x W) : TeX w0 A B C a b x W.drew := ⟨h.o.drew, h.u⟩
theorem TeX.all {w0 : World} {A B C : Nat} {a b : Orig} {x : Urp.URL} {W : World} (h : TeX w0 A B C a b x W) : W.cell? ⟨A, 0, none⟩ = some (.bool a.op) ∧ W.cell? ⟨A, 1, none⟩ = some (.int .i64 a.id) ∧ W.cell? ⟨A, 2, none⟩ = some (.string (bA a.scheme)) ∧ W.cell? ⟨A, 3, none⟩ = some (.string (bA a.host.name)) ∧ W.cell? ⟨A, 4, none⟩ = some (.bool a.host.v4) ∧ W.cell? ⟨A, 5, none⟩ = some (.int .u32 a.host.addr) ∧ W.cell? ⟨A, 6, none⟩ = some (.int .i64 a.port) ∧ W.cell? ⟨C, 0, none⟩ = some (.string (bA x.scheme)) ∧ W.cell? ⟨C, 1, none⟩ = some (.string (bA x.host.name)) ∧ W.cell? ⟨C, 2, none⟩ = some (.bool x.host.v4) ∧ W.cell? ⟨C, 3, none⟩ = some (.int .u32 x.host.addr) ∧ W.cell? ⟨C, 4, none⟩ = some (.int .i64 x.port) ∧ W.cell? ⟨C, 5, none⟩ = some (.string (bA x.path)) ∧ W.cell? ⟨C, 6, none⟩ = some (.bool x.hasq) ∧ W.cell? ⟨C, 7, none⟩ = some (.string (bA x.query)) ∧ W.cell? ⟨C, 8, none⟩ = some (.string (bA x.rest)) ∧ TeX w0 A B C a b x W :=
  ⟨h.o.x.c0, h.o.x.c1, h.o.x.c2, h.o.x.c3, h.o.x.c4, h.o.x.c5, h.o.x.c6, h.u.c0, h.u.c1, h.u.c2, h.u.c3, h.u.c4, h.u.c5, h.u.c6, h.u.c7, h.u.c8, h⟩

set_option maxHeartbeats 16000000 in
set_option maxRecDepth 100000 in
theorem walk_OriginTexts (s t : ByteArray) (w : World) (hs : s.size ≤ maxLen) (ht : t.size ≤ maxLen) (hT : Tab w) (hT8 : Tab8 w) :
    Calls Tryd.prog 4 #[.string s, .string t] w fun e w' => e = .returned (.bool true) ∧ Below w.heap.size w w' := by
  unfold maxLen at hs ht
  have HA := Lib.hid (awake_any w hT hT8)
  have HT8 := Lib.hid hT8
  have HT := Lib.hid hT
  clear hT hT8
  by_cases hsb : 3000 < s.size
  · have hsb' : (3000 : Int) < (s.size : Int) := by omega
    clear hsb
    go_enter Tryd.func4, Tryd.ntmps4
    go_wp2_with fail
    refine HA.out.mono ?_
    rintro e w1 ⟨rfl, hb1⟩
    go_wp2_with fail
    go_ret
    exact ⟨rfl, hb1⟩
  have hsb' : s.size ≤ 3000 := by omega
  clear hsb
  by_cases htb : 3000 < t.size
  · have htb' : (3000 : Int) < (t.size : Int) := by omega
    clear htb
    go_enter Tryd.func4, Tryd.ntmps4
    go_wp2_with fail
    refine HA.out.mono ?_
    rintro e w1 ⟨rfl, hb1⟩
    go_wp2_with fail
    go_ret
    exact ⟨rfl, hb1⟩
  have htb' : t.size ≤ 3000 := by omega
  clear htb
  obtain ⟨l, hl⟩ : ∃ l, s = bA l := ⟨s.data.toList, rfl⟩
  subst hl
  obtain ⟨m, hm⟩ : ∃ m, t = bA m := ⟨t.data.toList, rfl⟩
  subst hm
  have hl3 : l.length ≤ 3000 := by rw [bA_size] at hsb'; exact hsb'
  have hm3 : m.length ≤ 3000 := by rw [bA_size] at htb'; exact htb'
  clear hsb' htb' hs ht
  have early : ∀ (u v : Urp.URL) (e1 e2 : Int) (n1 n2 : Bool), getU (Urp.parse l) = u → errU (Urp.parse l) = e1 → getU (Urp.parse m) = v → errU (Urp.parse m) = e2 → Urp.netB u.scheme = n1 → Urp.netB v.scheme = n2 →
      (((e1 != 0) = true ∧ (e1 == 0) = false) ∨ (e1 = 0 ∧ (e2 != 0) = true ∧ (e2 == 0) = false) ∨ (e1 = 0 ∧ e2 = 0 ∧ n1 = false) ∨ (e1 = 0 ∧ e2 = 0 ∧ n1 = true ∧ n2 = false)) →
      Calls Tryd.prog 4 #[.string (bA l), .string (bA m)] w fun e w' => e = .returned (.bool true) ∧ Below w.heap.size w w' := by
    intro u v e1 e2 n1 n2 h1 h2 h3 h4 h5 h6 hw
    have P1 := Lib.hid (fun W h => uparse_is h1 h2 (by omega) W h)
    have P2 := Lib.hid (fun W h => uparse_is h3 h4 (by omega) W h)
    have N1 := Lib.hid (fun W => net_is h5 W)
    have N2 := Lib.hid (fun W => net_is h6 W)
    clear h1 h2 h3 h4 h5 h6
    rcases hw with ⟨hw, hw2⟩ | ⟨rfl, hw, hw2⟩ | ⟨rfl, rfl, rfl⟩ | ⟨rfl, rfl, rfl, rfl⟩
    all_goals
      go_enter Tryd.func4, Tryd.ntmps4
      go_wp2_with fail
      refine HA.out.mono ?_
      rintro e w1 ⟨rfl, hb1⟩
      have HT1 := Lib.hid (HT8.out.below hb1)
      go_wp2_with fail
      refine (P1.out _ HT1.out).mono ?_
      rintro e w2 ⟨rfl, hb2⟩
      have b2 := (below_on hb1 hb2).alloc (o := .cells (uCells u) 34) (below_on hb1 hb2).size
      have x2 := UBox.new w2 u
      clear hb1 hb2
      have HT2 := Lib.hid (HT8.out.below b2)
      go_wp2_with fail
      refine (P2.out _ HT2.out).mono ?_
      rintro e w3 ⟨rfl, hb3⟩
      have b3 := below_on b2 hb3
      have x3 := x2.keep hb3
      have l3 := x3.lt
      have n3 : w2.heap.size ≠ w3.heap.size := by omega
      have b4 := b3.alloc (o := .cells (uCells v) 34) b3.size
      have x4 := x3.alloc (.cells (uCells v) 34)
      have y4 := UBox.new w3 v
      have c0 := x3.c0; have c1 := x3.c1; have c2 := x3.c2; have c3 := x3.c3; have c4 := x3.c4; have c5 := x3.c5; have c6 := x3.c6; have c7 := x3.c7; have c8 := x3.c8
      clear hb3 b2 b3 x2
      go_wp2_with fail
      refine (N1.out _).mono ?_
      rintro e w4 ⟨rfl, hb4⟩
      have b5 := below_on b4 hb4
      have x5 := x4.keep hb4
      have y5 := y4.keep hb4
      clear hb4 b4 x3 x4 y4 l3 n3 c0 c1 c2 c3 c4 c5 c6 c7 c8
      have c0 := y5.c0; have c1 := y5.c1; have c2 := y5.c2; have c3 := y5.c3; have c4 := y5.c4; have c5 := y5.c5; have c6 := y5.c6; have c7 := y5.c7; have c8 := y5.c8
      go_wp2_with fail
      refine (N2.out _).mono ?_
      rintro e w5 ⟨rfl, hb5⟩
      have b6 := below_on b5 hb5
      have x6 := x5.keep hb5
      have y6 := y5.keep hb5
      clear hb5 b5 x5 y5 c0 c1 c2 c3 c4 c5 c6 c7 c8
      clear x6 y6
      go_wp2_with fail
      go_ret
      exact ⟨rfl, b6⟩
  rcases errU_ways l with he | ⟨u, hu⟩
  · exact early _ _ _ _ _ _ rfl rfl rfl rfl rfl rfl (.inl he)
  have eu1 : getU (Urp.parse l) = u := by rw [hu]; rfl
  have eu2 : errU (Urp.parse l) = 0 := by rw [hu]; rfl
  rcases errU_ways m with he | ⟨v, hv⟩
  · exact early _ _ _ _ _ _ rfl eu2 rfl rfl rfl rfl (.inr (.inl ⟨rfl, he⟩))
  have ev1 : getU (Urp.parse m) = v := by rw [hv]; rfl
  have ev2 : errU (Urp.parse m) = 0 := by rw [hv]; rfl
  cases hn1 : Urp.netB u.scheme with
  | false => exact early _ _ _ _ _ _ eu1 eu2 ev1 ev2 hn1 rfl (.inr (.inr (.inl ⟨rfl, rfl, rfl⟩)))
  | true =>
  cases hn2 : Urp.netB v.scheme with
  | false => exact early _ _ _ _ _ _ eu1 eu2 ev1 ev2 hn1 hn2 (.inr (.inr (.inr ⟨rfl, rfl, rfl, rfl⟩)))
  | true =>
  clear early
  obtain ⟨gu, lu⟩ := Urp.parse_good hu hn1
  obtain ⟨gv, lv⟩ := Urp.parse_good hv hn2
  have su := smallO_good gu (by omega) 1
  have sv := smallO_good gv (by omega) 2
  have ru : u.rest.length ≤ 4000 := by rw [gu.rest]; exact Nat.zero_le _
  have rv : v.rest.length ≤ 4000 := by rw [gv.rest]; exact Nat.zero_le _
  have P1 := Lib.hid (fun W h => uparse_is eu1 eu2 (by omega) W h)
  have P2 := Lib.hid (fun W h => uparse_is ev1 ev2 (by omega) W h)
  have N1 := Lib.hid (fun W => net_is hn1 W)
  have N2 := Lib.hid (fun W => net_is hn2 W)
  obtain ⟨a, ha⟩ : ∃ a, ofO u 1 = a := ⟨_, rfl⟩
  obtain ⟨b, hb⟩ : ∃ b, ofO v 2 = b := ⟨_, rfl⟩
  have O1 := Lib.hid (fun W h => of_is ha W ru h)
  have O2 := Lib.hid (fun W h => of_is hb W rv h)
  obtain ⟨ta, hta⟩ : ∃ t, otextL a = t := ⟨_, rfl⟩
  obtain ⟨tb, htb⟩ : ∃ t, otextL b = t := ⟨_, rfl⟩
  rw [ha] at su
  rw [hb] at sv
  have T1 := Lib.hid (fun W h => otext_is hta W su h)
  have T2 := Lib.hid (fun W h => otext_is htb W sv h)
  have hop : a.op = false := by rw [← ha, ofO_net gu.net]
  have htl : ta.length ≤ 4100 := by
    rw [← hta, ← ha, otext_good gu]
    have := Urp.utext_net gu.net
    have h2 : (u.scheme ++ [58, 47, 47] ++ (textL u.host ++ portT u.port)).length ≤ (utextL u).length := by
      rw [this]; unfold Urp.afterC; simp
    omega
  have HOP := Lib.hid hop
  clear hop
  by_cases hlong : 1900 < ta.length
  · have hlong' : (1900 : Int) < (ta.length : Int) := by omega
    have FIN : True := trivial
    clear hlong
    go_enter Tryd.func4, Tryd.ntmps4
    go_wp2_with fail
    refine HA.out.mono ?_
    rintro e w1 ⟨rfl, hb1⟩
    have HT1 := Lib.hid (HT8.out.below hb1)
    go_wp2_with fail
    refine (P1.out _ HT1.out).mono ?_
    rintro e w2 ⟨rfl, hb2⟩
    have b2 := (below_on hb1 hb2).alloc (o := .cells (uCells u) 34) (below_on hb1 hb2).size
    have x2 := UBox.new w2 u
    clear hb1 hb2
    have HT2 := Lib.hid (HT8.out.below b2)
    go_wp2_with fail
    refine (P2.out _ HT2.out).mono ?_
    rintro e w3 ⟨rfl, hb3⟩
    have b3 := below_on b2 hb3
    have x3 := x2.keep hb3
    have l3 := x3.lt
    have n3 : w2.heap.size ≠ w3.heap.size := by omega
    have b4 := b3.alloc (o := .cells (uCells v) 34) b3.size
    have x4 := x3.alloc (.cells (uCells v) 34)
    have y4 := UBox.new w3 v
    have c0 := x3.c0; have c1 := x3.c1; have c2 := x3.c2; have c3 := x3.c3; have c4 := x3.c4; have c5 := x3.c5; have c6 := x3.c6; have c7 := x3.c7; have c8 := x3.c8
    clear hb3 b2 b3 x2
    go_wp2_with fail
    refine (N1.out _).mono ?_
    rintro e w4 ⟨rfl, hb4⟩
    have b5 := below_on b4 hb4
    have x5 := x4.keep hb4
    have y5 := y4.keep hb4
    clear hb4 b4 x3 x4 y4 l3 n3 c0 c1 c2 c3 c4 c5 c6 c7 c8
    have c0 := y5.c0; have c1 := y5.c1; have c2 := y5.c2; have c3 := y5.c3; have c4 := y5.c4; have c5 := y5.c5; have c6 := y5.c6; have c7 := y5.c7; have c8 := y5.c8
    go_wp2_with fail
    refine (N2.out _).mono ?_
    rintro e w5 ⟨rfl, hb5⟩
    have b6 := below_on b5 hb5
    have x6 := x5.keep hb5
    have y6 := y5.keep hb5
    clear hb5 b5 x5 y5 c0 c1 c2 c3 c4 c5 c6 c7 c8
    have c0 := x6.c0; have c1 := x6.c1; have c2 := x6.c2; have c3 := x6.c3; have c4 := x6.c4; have c5 := x6.c5; have c6 := x6.c6; have c7 := x6.c7; have c8 := x6.c8
    have HT3 := Lib.hid (HT8.out.below b6)
    go_wp2_with fail
    refine (O1.out _ HT3.out).mono ?_
    rintro e w6 ⟨rfl, hb6⟩
    have b7 := below_on b6 hb6
    have y7 := y6.keep hb6
    have l7 := y7.lt
    have n7 : w3.heap.size ≠ w6.heap.size := by omega
    have b8 := b7.alloc (o := .cells (oCells a) 26) b7.size
    have a8 := OBox.new w6 a
    clear hb6 b6 x6 y6 c0 c1 c2 c3 c4 c5 c6 c7 c8
    have c0 := y7.c0; have c1 := y7.c1; have c2 := y7.c2; have c3 := y7.c3; have c4 := y7.c4; have c5 := y7.c5; have c6 := y7.c6; have c7 := y7.c7; have c8 := y7.c8
    have HT4 := Lib.hid (HT8.out.below b8)
    go_wp2_with fail
    refine (O2.out _ HT4.out).mono ?_
    rintro e w7 ⟨rfl, hb7⟩
    have b9 := below_on b8 hb7
    have a9 := a8.keep hb7
    have l9 := a9.lt
    have n9 : w6.heap.size ≠ w7.heap.size := by omega
    have b10 := b9.alloc (o := .cells (oCells b) 26) b9.size
    have R1 : TeO w w6.heap.size w7.heap.size a b (w7.alloc (.cells (oCells b) 26)) := ⟨b10, HT.out.below b10, HT8.out.below b10, a9.alloc _, OBox.new w7 b⟩
    clear hb7 b7 b8 b9 b10 y7 a8 l7 n7 c0 c1 c2 c3 c4 c5 c6 c7 c8
    have HR1 := Lib.hid R1
    have c0 := a9.c0; have c1 := a9.c1; have c2 := a9.c2; have c3 := a9.c3; have c4 := a9.c4; have c5 := a9.c5; have c6 := a9.c6
    clear R1 a9
    go_wp2_with fail
    refine (T1.out _ HR1.out.tab).mono ?_
    rintro e w8 ⟨rfl, hb8⟩
    have R2 := TeO.below hb8 HR1.out
    clear hb8 c0 c1 c2 c3 c4 c5 c6 l9 n9 HR1
    have BB := R2.bel
    go_wp2_with fail
    go_ret
    exact ⟨rfl, BB⟩
  have hshort : ta.length ≤ 1900 := by omega
  clear hlong htl
  obtain ⟨x, hx, hxo, hxr⟩ := back_good gu 1 3 (by rw [ha, hta]; omega)
  rw [ha] at hxo hx
  rw [hta] at hx
  have P3 := Lib.hid (fun W h => uparse_is (l := ta) (x := x) (er := 0) (by rw [hx]; rfl) (by rw [hx]; rfl) (by omega) W h)
  have O3 := Lib.hid (fun W h => of_is hxo W (by rw [hxr]; exact Nat.zero_le _) h)
  have hsame := texts_good gu gv 1 2 (by rw [ha, hta]; omega)
  rw [ha, hb, hta, htb] at hsame
  obtain ⟨r, hr⟩ : ∃ r, sameO a b = r := ⟨_, rfl⟩
  rw [hr] at hsame
  have S1 := Lib.hid (fun W => same_is hr W)
  have S2 := Lib.hid (fun W => same_is (sameO_refl a) W)
  have hq : (ta == tb) = r := hsame.symm
  clear hsame
  clear hx hxo hxr hr ha hb hta htb hu hv hn1 hn2 gu gv lu lv su sv ru rv eu1 eu2 ev1 ev2
  go_enter Tryd.func4, Tryd.ntmps4
  go_wp2_with fail
  refine HA.out.mono ?_
  rintro e w1 ⟨rfl, hb1⟩
  have HT1 := Lib.hid (HT8.out.below hb1)
  go_wp2_with fail
  refine (P1.out _ HT1.out).mono ?_
  rintro e w2 ⟨rfl, hb2⟩
  have b2 := (below_on hb1 hb2).alloc (o := .cells (uCells u) 34) (below_on hb1 hb2).size
  have x2 := UBox.new w2 u
  clear hb1 hb2
  have HT2 := Lib.hid (HT8.out.below b2)
  go_wp2_with fail
  refine (P2.out _ HT2.out).mono ?_
  rintro e w3 ⟨rfl, hb3⟩
  have b3 := below_on b2 hb3
  have x3 := x2.keep hb3
  have l3 := x3.lt
  have n3 : w2.heap.size ≠ w3.heap.size := by omega
  have b4 := b3.alloc (o := .cells (uCells v) 34) b3.size
  have x4 := x3.alloc (.cells (uCells v) 34)
  have y4 := UBox.new w3 v
  have c0 := x3.c0; have c1 := x3.c1; have c2 := x3.c2; have c3 := x3.c3; have c4 := x3.c4; have c5 := x3.c5; have c6 := x3.c6; have c7 := x3.c7; have c8 := x3.c8
  clear hb3 b2 b3 x2
  go_wp2_with fail
  refine (N1.out _).mono ?_
  rintro e w4 ⟨rfl, hb4⟩
  have b5 := below_on b4 hb4
  have x5 := x4.keep hb4
  have y5 := y4.keep hb4
  clear hb4 b4 x3 x4 y4 l3 n3 c0 c1 c2 c3 c4 c5 c6 c7 c8
  have c0 := y5.c0; have c1 := y5.c1; have c2 := y5.c2; have c3 := y5.c3; have c4 := y5.c4; have c5 := y5.c5; have c6 := y5.c6; have c7 := y5.c7; have c8 := y5.c8
  go_wp2_with fail
  refine (N2.out _).mono ?_
  rintro e w5 ⟨rfl, hb5⟩
  have b6 := below_on b5 hb5
  have x6 := x5.keep hb5
  have y6 := y5.keep hb5
  clear hb5 b5 x5 y5 c0 c1 c2 c3 c4 c5 c6 c7 c8
  have c0 := x6.c0; have c1 := x6.c1; have c2 := x6.c2; have c3 := x6.c3; have c4 := x6.c4; have c5 := x6.c5; have c6 := x6.c6; have c7 := x6.c7; have c8 := x6.c8
  have HT3 := Lib.hid (HT8.out.below b6)
  go_wp2_with fail
  refine (O1.out _ HT3.out).mono ?_
  rintro e w6 ⟨rfl, hb6⟩
  have b7 := below_on b6 hb6
  have y7 := y6.keep hb6
  have l7 := y7.lt
  have n7 : w3.heap.size ≠ w6.heap.size := by omega
  have b8 := b7.alloc (o := .cells (oCells a) 26) b7.size
  have a8 := OBox.new w6 a
  clear hb6 b6 x6 y6 c0 c1 c2 c3 c4 c5 c6 c7 c8
  have c0 := y7.c0; have c1 := y7.c1; have c2 := y7.c2; have c3 := y7.c3; have c4 := y7.c4; have c5 := y7.c5; have c6 := y7.c6; have c7 := y7.c7; have c8 := y7.c8
  have HT4 := Lib.hid (HT8.out.below b8)
  go_wp2_with fail
  refine (O2.out _ HT4.out).mono ?_
  rintro e w7 ⟨rfl, hb7⟩
  have b9 := below_on b8 hb7
  have a9 := a8.keep hb7
  have l9 := a9.lt
  have n9 : w6.heap.size ≠ w7.heap.size := by omega
  have b10 := b9.alloc (o := .cells (oCells b) 26) b9.size
  have R1 : TeO w w6.heap.size w7.heap.size a b (w7.alloc (.cells (oCells b) 26)) := ⟨b10, HT.out.below b10, HT8.out.below b10, a9.alloc _, OBox.new w7 b⟩
  clear hb7 b7 b8 b9 b10 y7 a8 l7 n7 c0 c1 c2 c3 c4 c5 c6 c7 c8
  have HR1 := Lib.hid R1
  have c0 := a9.c0; have c1 := a9.c1; have c2 := a9.c2; have c3 := a9.c3; have c4 := a9.c4; have c5 := a9.c5; have c6 := a9.c6
  clear R1 a9
  go_wp2_with fail
  refine (T1.out _ HR1.out.tab).mono ?_
  rintro e w8 ⟨rfl, hb8⟩
  have R2 := TeO.below hb8 HR1.out
  clear hb8 c0 c1 c2 c3 c4 c5 c6 l9 n9 HR1
  obtain ⟨i0, i1, i2, i3, i4, i5, i6, _, _, _, _, _, _, _, _⟩ := R2.all
  go_wp2_with fail
  refine (T1.out _ R2.tab).mono ?_
  rintro e w9 ⟨rfl, hb9⟩
  have R3 := TeO.below hb9 R2
  clear hb9 R2 i0 i1 i2 i3 i4 i5 i6
  go_wp2_with fail
  refine (P3.out _ R3.tab8).mono ?_
  rintro e w10 ⟨rfl, hb10⟩
  have R4 := TeO.below hb10 R3
  have l10 := R4.x.lt
  have l11 := R4.y.lt
  have n10 : w6.heap.size ≠ w10.heap.size := by omega
  have n11 : w7.heap.size ≠ w10.heap.size := by omega
  obtain ⟨i0, i1, i2, i3, i4, i5, i6, j0, j1, j2, j3, j4, j5, j6, _⟩ := R4.all
  have b11 := R4.bel.alloc (o := .cells (uCells x) 34) R4.bel.size
  have R5 : TeO w w6.heap.size w7.heap.size a b (w10.alloc (.cells (uCells x) 34)) := ⟨b11, HT.out.below b11, HT8.out.below b11, R4.x.alloc _, R4.y.alloc _⟩
  have x5 := UBox.new w10 x
  clear hb10 R3 R4 b11
  have HR5 := Lib.hid R5
  have HX5 := Lib.hid x5
  clear R5 x5
  go_wp2_with fail
  refine (S1.out _).mono ?_
  rintro e w11 ⟨rfl, hb11⟩
  have R6 := TeO.below hb11 HR5.out
  have x6 := UBox.keep HX5.out hb11
  clear hb11 i0 i1 i2 i3 i4 i5 i6 j0 j1 j2 j3 j4 j5 j6 l10 l11 n10 n11 HR5 HX5
  have hR : TeX w w6.heap.size w7.heap.size w10.heap.size a b x w11 := ⟨R6, x6⟩
  clear R6 x6
  go_wp2_with fail
  go_region_held3 (fun w' => w'.cell? ⟨w6.heap.size, 0, none⟩ = some (.bool a.op) ∧ w'.cell? ⟨w6.heap.size, 1, none⟩ = some (.int .i64 a.id) ∧ w'.cell? ⟨w6.heap.size, 2, none⟩ = some (.string (bA a.scheme)) ∧ w'.cell? ⟨w6.heap.size, 3, none⟩ = some (.string (bA a.host.name)) ∧ w'.cell? ⟨w6.heap.size, 4, none⟩ = some (.bool a.host.v4) ∧ w'.cell? ⟨w6.heap.size, 5, none⟩ = some (.int .u32 a.host.addr) ∧ w'.cell? ⟨w6.heap.size, 6, none⟩ = some (.int .i64 a.port) ∧ w'.cell? ⟨w10.heap.size, 0, none⟩ = some (.string (bA x.scheme)) ∧ w'.cell? ⟨w10.heap.size, 1, none⟩ = some (.string (bA x.host.name)) ∧ w'.cell? ⟨w10.heap.size, 2, none⟩ = some (.bool x.host.v4) ∧ w'.cell? ⟨w10.heap.size, 3, none⟩ = some (.int .u32 x.host.addr) ∧ w'.cell? ⟨w10.heap.size, 4, none⟩ = some (.int .i64 x.port) ∧ w'.cell? ⟨w10.heap.size, 5, none⟩ = some (.string (bA x.path)) ∧ w'.cell? ⟨w10.heap.size, 6, none⟩ = some (.bool x.hasq) ∧ w'.cell? ⟨w10.heap.size, 7, none⟩ = some (.string (bA x.query)) ∧ w'.cell? ⟨w10.heap.size, 8, none⟩ = some (.string (bA x.rest)) ∧ TeX w w6.heap.size w7.heap.size w10.heap.size a b x w')
    (first
      | exact hR.all
      | exact hR.drew.all
      | exact hR2.all
      | exact hR3.all)
    (first
      | (go_at_call 13; refine (O3.out _ hR.drew.o.tab8).mono ?_; rintro e w12 ⟨rfl, hb12⟩; have hR2 := TeX.below hb12 hR.drew)
      | (go_at_call 9; refine (S2.out _).mono ?_; rintro e w13 ⟨rfl, hb13⟩; have hR3 := TeX.below hb13 hR2))
  have hR4 := hR3.o
  go_wp2_with fail
  cases r
  all_goals
    go_region_held3 (fun w' => w'.cell? ⟨w6.heap.size, 0, none⟩ = some (.bool a.op) ∧ w'.cell? ⟨w6.heap.size, 1, none⟩ = some (.int .i64 a.id) ∧ w'.cell? ⟨w6.heap.size, 2, none⟩ = some (.string (bA a.scheme)) ∧ w'.cell? ⟨w6.heap.size, 3, none⟩ = some (.string (bA a.host.name)) ∧ w'.cell? ⟨w6.heap.size, 4, none⟩ = some (.bool a.host.v4) ∧ w'.cell? ⟨w6.heap.size, 5, none⟩ = some (.int .u32 a.host.addr) ∧ w'.cell? ⟨w6.heap.size, 6, none⟩ = some (.int .i64 a.port) ∧ w'.cell? ⟨w7.heap.size, 0, none⟩ = some (.bool b.op) ∧ w'.cell? ⟨w7.heap.size, 1, none⟩ = some (.int .i64 b.id) ∧ w'.cell? ⟨w7.heap.size, 2, none⟩ = some (.string (bA b.scheme)) ∧ w'.cell? ⟨w7.heap.size, 3, none⟩ = some (.string (bA b.host.name)) ∧ w'.cell? ⟨w7.heap.size, 4, none⟩ = some (.bool b.host.v4) ∧ w'.cell? ⟨w7.heap.size, 5, none⟩ = some (.int .u32 b.host.addr) ∧ w'.cell? ⟨w7.heap.size, 6, none⟩ = some (.int .i64 b.port) ∧ TeO w w6.heap.size w7.heap.size a b w')
      (first
        | exact hR4.all
        | exact hR4.drew.all
        | exact hR5.all
        | exact hR6.all)
      (first
        | (go_at_call 14; refine (T1.out _ hR4.drew.tab).mono ?_; clear T1; rintro e w14 ⟨rfl, hb14⟩; have hR5 := TeO.below hb14 hR4.drew)
        | (go_at_call 14; refine (T2.out _ hR5.tab).mono ?_; clear T2; rintro e w15 ⟨rfl, hb15⟩; have hR6 := TeO.below hb15 hR5))
    go_wp2_with fail
    go_ret
    refine ⟨?_, hR6.bel⟩
    rw [HOP.out]
    rfl
end Go.Proofs.YtehjnidggnfbfaaDoor
