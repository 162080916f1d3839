/- The walk of the statement on blobs' origins. -/
import Derived.Test.YtehjnidggnfbfaaDoorOrigMath2
import Derived.Test.YtehjnidggnfbfaaDoorOrigLaws3
namespace Go.Proofs.YtehjnidggnfbfaaDoor
open Go.RowKit

/-- What the calls of the statement ask of the world: two origins' blocks, and the suffixes. -/
structure BlO (w0 : World) (A B : Nat) (a b : Orig) (D : Option Addr) (sx : List (List UInt8)) (W : World) : Prop where
  bel : Below w0.heap.size w0 W
  tab : Tab W
  seen : Seen W D sx
  x : OBox W A a
  y : OBox W B b
theorem BlO.below {w0 : World} {A B : Nat} {a b : Orig} {D : Option Addr} {sx : List (List UInt8)} {W W' : World} (hb : Below W.heap.size W W') (h : BlO w0 A B a b D sx W) : BlO w0 A B a b D sx W' := ⟨below_on h.bel hb, h.tab.below hb, h.seen.below hb, h.x.keep hb, h.y.keep hb⟩
theorem BlO.drew {w0 : World} {A B : Nat} {a b : Orig} {D : Option Addr} {sx : List (List UInt8)} {W : World} (h : BlO w0 A B a b D sx W) : BlO w0 A B a b D sx W.drew := ⟨h.bel.drew, h.tab, h.seen, h.x, h.y⟩
theorem BlO.all {w0 : World} {A B : Nat} {a b : Orig} {D : Option Addr} {sx : List (List UInt8)} {W : World} (h : BlO w0 A B a b D sx W) : W.cell? ⟨A, 0, none⟩ = some (.bool a.op) ∧ W.cell? ⟨A, 1, none⟩ = some (.int .i64 a.id) ∧ W.cell? ⟨A, 2, none⟩ = some (.string (bA a.scheme)) ∧ W.cell? ⟨A, 3, none⟩ = some (.string (bA a.host.name)) ∧ W.cell? ⟨A, 4, none⟩ = some (.bool a.host.v4) ∧ W.cell? ⟨A, 5, none⟩ = some (.int .u32 a.host.addr) ∧ W.cell? ⟨A, 6, none⟩ = some (.int .i64 a.port) ∧ W.cell? ⟨B, 0, none⟩ = some (.bool b.op) ∧ W.cell? ⟨B, 1, none⟩ = some (.int .i64 b.id) ∧ W.cell? ⟨B, 2, none⟩ = some (.string (bA b.scheme)) ∧ W.cell? ⟨B, 3, none⟩ = some (.string (bA b.host.name)) ∧ W.cell? ⟨B, 4, none⟩ = some (.bool b.host.v4) ∧ W.cell? ⟨B, 5, none⟩ = some (.int .u32 b.host.addr) ∧ W.cell? ⟨B, 6, none⟩ = some (.int .i64 b.port) ∧ BlO w0 A B a b D sx W :=
  ⟨h.x.c0, h.x.c1, h.x.c2, h.x.c3, h.x.c4, h.x.c5, h.x.c6, h.y.c0, h.y.c1, h.y.c2, h.y.c3, h.y.c4, h.y.c5, h.y.c6, h⟩

set_option maxHeartbeats 16000000 in
set_option maxRecDepth 100000 in
theorem walk_OriginBlobs (s : ByteArray) (id : Int) (A : Option Addr) (cp : Nat) (sx : List (List UInt8)) (w : World) (hs : s.size ≤ maxLen) (_ : (Lit.int .i64 id).wf = true) (hA : Seen w A sx) (hsl : sx.length ≤ maxLen) (hsz : ∀ s ∈ sx, s.length ≤ maxLen) (hT : Tab w) (hT8 : Tab8 w) :
    Calls Tryd.prog 6 #[.string s, .int .i64 id, .slice A sx.length cp] w fun e w' => e = .returned (.bool true) ∧ Below w.heap.size w w' := by
  unfold maxLen at hs
  have HA := Lib.hid (awake_any w hT hT8)
  have HT8 := Lib.hid hT8
  have HT := Lib.hid hT
  have HSE := Lib.hid hA
  obtain ⟨sm, hsm⟩ : ∃ b, smallB sx = b := ⟨_, rfl⟩
  have HSM := Lib.hid (fun W (h : Seen W A sx) => small_any A cp sx W hsl hsz h)
  rw [hsm] at HSM
  unfold maxLen at hsl
  clear hT hT8 hA hsz
  obtain ⟨l, hl⟩ : ∃ l, s = bA l := ⟨s.data.toList, rfl⟩
  subst hl
  have hll : l.length ≤ 9223372036854775807 := by rw [bA_size] at hs; omega
  clear hs
  have early : ∀ (u : Urp.URL) (e1 : Int) (n1 : Bool), getU (Urp.parse l) = u → errU (Urp.parse l) = e1 → Urp.netB u.scheme = n1 →
      ((1000 : Int) < (l.length : Int) ∨ ((l.length : Int) ≤ 1000 ∧ (e1 != 0) = true ∧ (e1 == 0) = false) ∨ ((l.length : Int) ≤ 1000 ∧ e1 = 0 ∧ n1 = false) ∨ ((l.length : Int) ≤ 1000 ∧ e1 = 0 ∧ n1 = true ∧ sm = false)) →
      Calls Tryd.prog 6 #[.string (bA l), .int .i64 id, .slice A sx.length cp] w fun e w' => e = .returned (.bool true) ∧ Below w.heap.size w w' := by
    intro u e1 n1 h1 h2 h3 hw
    have P1 := Lib.hid (fun W h => uparse_lis h1 h2 hll W h)
    have N1 := Lib.hid (fun W => net_is h3 W)
    have HE1 := Lib.hid hsm
    clear h1 h2 h3 hsm
    rcases hw with hw | ⟨hw0, hw, hw2⟩ | ⟨hw, rfl, rfl⟩ | ⟨hw, rfl, rfl, rfl⟩
    all_goals
      go_enter Tryd.func6, Tryd.ntmps6
      go_wp2_with fail
      refine HA.out.mono ?_
      rintro e w1 ⟨rfl, hb1⟩
      have HS1 := Lib.hid (HSE.out.below hb1)
      have HT1 := Lib.hid (HT8.out.below hb1)
      go_wp2_with fail
      refine (HSM.out _ HS1.out).mono ?_
      rintro e w1' ⟨rfl, rfl⟩
      go_wp2_with fail
      refine (P1.out _ HT1.out).mono ?_
      rintro e w2 ⟨rfl, hb2⟩
      have b2 := (below_on hb1 hb2).alloc (o := .cells (uCells u) 34) (below_on hb1 hb2).size
      have x2 := UBox.new w2 u
      clear hb1 hb2
      go_wp2_with fail
      refine (N1.out _).mono ?_
      rintro e w3 ⟨rfl, hb3⟩
      have b3 := below_on b2 hb3
      have x3 := x2.keep hb3
      clear hb3 b2 x2
      clear x3
      go_wp2_with fail
      go_ret
      exact ⟨rfl, b3⟩
  by_cases hlen : 1000 < l.length
  · exact early _ _ _ rfl rfl rfl (.inl (by omega))
  have hlen' : (l.length : Int) ≤ 1000 := by omega
  have hl1 : l.length ≤ 1000 := by omega
  clear hlen
  rcases errU_ways l with he | ⟨u, hu⟩
  · exact early _ _ _ rfl rfl rfl (.inr (.inl ⟨hlen', he.1, he.2⟩))
  have eu1 : getU (Urp.parse l) = u := by rw [hu]; rfl
  have eu2 : errU (Urp.parse l) = 0 := by rw [hu]; rfl
  cases hn1 : Urp.netB u.scheme with
  | false => exact early _ _ _ eu1 eu2 hn1 (.inr (.inr (.inl ⟨hlen', rfl, rfl⟩)))
  | true =>
  cases sm with
  | false => exact early _ _ _ eu1 eu2 hn1 (.inr (.inr (.inr ⟨hlen', rfl, rfl, rfl⟩)))
  | true =>
  clear early
  have hfew := few_of hsm
  obtain ⟨gu, lu⟩ := Urp.parse_good hu hn1
  have su := smallO_good gu (by omega) id
  have sh := smallH_good gu id
  have ru : u.rest.length ≤ 4000 := by rw [gu.rest]; exact Nat.zero_le _
  have P1 := Lib.hid (fun W h => uparse_is eu1 eu2 (by omega) W h)
  have N1 := Lib.hid (fun W => net_is hn1 W)
  have HCAT : Hid ((⟨#[98, 108, 111, 98, 58]⟩ : ByteArray) ++ bA l = bA (Urp.sBlob ++ 58 :: l)) := Lib.hid (bA_app [98, 108, 111, 98, 58] l)
  have hbl : (Urp.sBlob ++ 58 :: l).length ≤ 4000 := by simp [Urp.sBlob]; omega
  obtain ⟨v, hv⟩ : ∃ v, getU (Urp.parse (Urp.sBlob ++ 58 :: l)) = v := ⟨_, rfl⟩
  obtain ⟨e2, he2⟩ : ∃ e, errU (Urp.parse (Urp.sBlob ++ 58 :: l)) = e := ⟨_, rfl⟩
  have P2 := Lib.hid (fun W h => uparse_is hv he2 hbl W h)
  obtain ⟨o, ho⟩ : ∃ o, ofO u id = o := ⟨_, rfl⟩
  have O1 := Lib.hid (fun W h => of_is ho W ru h)
  rw [ho] at su sh
  obtain ⟨t, ht⟩ : ∃ t, otextL o = t := ⟨_, rfl⟩
  have T1 := Lib.hid (fun W h => otext_is ht W su h)
  have S1 := Lib.hid (fun W h g => site_is A cp (siteB_refl o sx) W h sh sh hfew g)
  have heq := fun W => eq_orig_is (a := o) (b := o) (r := true) (eqO_iff.2 rfl) W
  rcases errU_ways (Urp.sBlob ++ 58 :: l) with ⟨hw, hw2⟩ | ⟨b, hbp⟩
  · rw [he2] at hw hw2
    clear hu gu lu su sh ru eu1 eu2 hn1 hv he2 ho ht hfew hsm heq
    go_enter Tryd.func6, Tryd.ntmps6
    go_wp2_with fail
    refine HA.out.mono ?_
    rintro e w1 ⟨rfl, hb1⟩
    have HS1 := Lib.hid (HSE.out.below hb1)
    have HT1 := Lib.hid (HT8.out.below hb1)
    go_wp2_with fail
    refine (HSM.out _ HS1.out).mono ?_
    rintro e w1' ⟨rfl, rfl⟩
    go_wp2_with fail
    refine (P1.out _ HT1.out).mono ?_
    rintro e w2 ⟨rfl, hb2⟩
    have b2 := (below_on hb1 hb2).alloc (o := .cells (uCells u) 34) (below_on hb1 hb2).size
    have x2 := UBox.new w2 u
    clear hb1 hb2
    go_wp2_with fail
    refine (N1.out _).mono ?_
    rintro e w3 ⟨rfl, hb3⟩
    have b3 := below_on b2 hb3
    have x3 := x2.keep hb3
    clear hb3 b2 x2
    have x4 := Lib.hid x3
    have b4 := Lib.hid b3
    clear x3 b3
    have HT2 := Lib.hid (HT8.out.below b4.out)
    go_wp2_with fail
    rw [HCAT.out]
    refine (P2.out _ HT2.out).mono ?_
    rintro e w4 ⟨rfl, hb4⟩
    have b5 := below_on b4.out hb4
    have x5 := UBox.keep x4.out hb4
    have b6 := b5.alloc (o := .cells (uCells v) 34) b5.size
    clear hb4 x4 b4
    clear x5
    go_wp2_with fail
    go_ret
    exact ⟨rfl, b6⟩
  have hv2 : b = v := by rw [← hv, hbp]; rfl
  subst hv2
  have he0 : e2 = 0 := by rw [← he2, hbp]; rfl
  subst he0
  obtain ⟨hob, rb⟩ := ofO_blob hu hn1 hbp hl1 id
  rw [ho] at hob
  have O2 := Lib.hid (fun W h => of_is hob W rb h)
  clear hu gu lu su sh ru eu1 eu2 hn1 hv he2 ho ht hfew hsm hbp hob rb
  go_enter Tryd.func6, Tryd.ntmps6
  go_wp2_with fail
  refine HA.out.mono ?_
  rintro e w1 ⟨rfl, hb1⟩
  have HS1 := Lib.hid (HSE.out.below hb1)
  have HT1 := Lib.hid (HT8.out.below hb1)
  go_wp2_with fail
  refine (HSM.out _ HS1.out).mono ?_
  rintro e w1' ⟨rfl, rfl⟩
  go_wp2_with fail
  refine (P1.out _ HT1.out).mono ?_
  rintro e w2 ⟨rfl, hb2⟩
  have b2 := (below_on hb1 hb2).alloc (o := .cells (uCells u) 34) (below_on hb1 hb2).size
  have x2 := UBox.new w2 u
  clear hb1 hb2
  go_wp2_with fail
  refine (N1.out _).mono ?_
  rintro e w3 ⟨rfl, hb3⟩
  have b3 := below_on b2 hb3
  have x3 := x2.keep hb3
  clear hb3 b2 x2
  have x4 := Lib.hid x3
  have b4 := Lib.hid b3
  clear x3 b3
  have HT2 := Lib.hid (HT8.out.below b4.out)
  go_wp2_with fail
  rw [HCAT.out]
  refine (P2.out _ HT2.out).mono ?_
  rintro e w4 ⟨rfl, hb4⟩
  have b5 := below_on b4.out hb4
  have x5 := UBox.keep x4.out hb4
  have b6 := b5.alloc (o := .cells (uCells b) 34) b5.size
  clear hb4 x4 b4
  have l5 := x5.lt
  have n5 : w2.heap.size ≠ w4.heap.size := by omega
  have c0 := x5.c0; have c1 := x5.c1; have c2 := x5.c2; have c3 := x5.c3; have c4 := x5.c4; have c5 := x5.c5; have c6 := x5.c6; have c7 := x5.c7; have c8 := x5.c8
  have y6 := UBox.new w4 b
  have HT3 := Lib.hid (HT8.out.below b6)
  have HB6 := Lib.hid b6
  have HY6 := Lib.hid y6
  clear x5 b5 b6 y6
  go_wp2_with fail
  refine (O1.out _ HT3.out).mono ?_
  rintro e w5 ⟨rfl, hb5⟩
  have b7 := below_on HB6.out hb5
  have y7 := UBox.keep HY6.out hb5
  clear hb5 HB6 HY6 l5 n5 c0 c1 c2 c3 c4 c5 c6 c7 c8
  have l7 := y7.lt
  have n7 : w4.heap.size ≠ w5.heap.size := by omega
  have b8 := b7.alloc (o := .cells (oCells o) 26) b7.size
  have a8 := OBox.new w5 o
  have c0 := y7.c0; have c1 := y7.c1; have c2 := y7.c2; have c3 := y7.c3; have c4 := y7.c4; have c5 := y7.c5; have c6 := y7.c6; have c7 := y7.c7; have c8 := y7.c8
  have HT4 := Lib.hid (HT8.out.below b8)
  have HB8 := Lib.hid b8
  have HA8 := Lib.hid a8
  clear y7 b7 b8 a8
  go_wp2_with fail
  refine (O2.out _ HT4.out).mono ?_
  rintro e w6 ⟨rfl, hb6⟩
  have b9 := below_on HB8.out hb6
  have a9 := OBox.keep HA8.out hb6
  have b10 := b9.alloc (o := .cells (oCells o) 26) b9.size
  have l9 := a9.lt
  have n9 : w5.heap.size ≠ w6.heap.size := by omega
  have hR : BlO w w5.heap.size w6.heap.size o o A sx (w6.alloc (.cells (oCells o) 26)) := ⟨b10, HT.out.below b10, HSE.out.below b10, a9.alloc _, OBox.new w6 o⟩
  clear hb6 HB8 HA8 l7 n7 c0 c1 c2 c3 c4 c5 c6 c7 c8 b9 b10 a9 l9 n9
  unfold oCells at hR
  go_wp2_with fail
  go_region_held3 (fun w' => w'.cell? ⟨w5.heap.size, 0, none⟩ = some (.bool o.op) ∧ w'.cell? ⟨w5.heap.size, 1, none⟩ = some (.int .i64 o.id) ∧ w'.cell? ⟨w5.heap.size, 2, none⟩ = some (.string (bA o.scheme)) ∧ w'.cell? ⟨w5.heap.size, 3, none⟩ = some (.string (bA o.host.name)) ∧ w'.cell? ⟨w5.heap.size, 4, none⟩ = some (.bool o.host.v4) ∧ w'.cell? ⟨w5.heap.size, 5, none⟩ = some (.int .u32 o.host.addr) ∧ w'.cell? ⟨w5.heap.size, 6, none⟩ = some (.int .i64 o.port) ∧ w'.cell? ⟨w6.heap.size, 0, none⟩ = some (.bool o.op) ∧ w'.cell? ⟨w6.heap.size, 1, none⟩ = some (.int .i64 o.id) ∧ w'.cell? ⟨w6.heap.size, 2, none⟩ = some (.string (bA o.scheme)) ∧ w'.cell? ⟨w6.heap.size, 3, none⟩ = some (.string (bA o.host.name)) ∧ w'.cell? ⟨w6.heap.size, 4, none⟩ = some (.bool o.host.v4) ∧ w'.cell? ⟨w6.heap.size, 5, none⟩ = some (.int .u32 o.host.addr) ∧ w'.cell? ⟨w6.heap.size, 6, none⟩ = some (.int .i64 o.port) ∧ BlO w w5.heap.size w6.heap.size o o A sx w')
    (first
      | exact hR.all
      | exact hR.drew.all
      | exact hR2.all
      | exact hR3.all
      | exact hR4.all)
    (first
      | (go_at_call 10; refine (S1.out _ hR.drew.tab hR.drew.seen).mono ?_; rintro e w7 ⟨rfl, hb7⟩; have hR2 := BlO.below hb7 hR.drew)
      | (go_at_call 14; refine (T1.out _ hR2.tab).mono ?_; clear S1; rintro e w8 ⟨rfl, hb8⟩; have hR3 := BlO.below hb8 hR2)
      | (go_at_call 14; refine (T1.out _ hR3.tab).mono ?_; rintro e w9 ⟨rfl, hb9⟩; have hR4 := BlO.below hb9 hR3))
  go_wp2_with fail
  go_ret
  exact ⟨rfl, hR4.bel⟩
end Go.Proofs.YtehjnidggnfbfaaDoor
