/- The walk of the statement on one's own origin. -/
import Derived.Test.YtinjkpbpkedfnaaGreatDoorCmLaws3
import Derived.Test.YtinjkpbpkedfnaaGreatDoorUrlpErr
namespace Go.Proofs.YtinjkpbpkedfnaaGreatDoor
open Go.RowKit Go.Deep

theorem fit_good {u : Urp.URL} (g : Urp.Good u) (id : Int) : FitM (ofO u id) := by
  have h := Urp.host_small g.host
  rw [ofO_net g.net]
  refine ⟨h.1, h.2.1, by show u.host.name.length ≤ _; have := h.2.2; omega, ?_⟩
  show u.scheme.length ≤ _
  rcases Urp.net_cases g.net with h | h <;> rw [h] <;> decide
/-- The origin of a read URL. -/
theorem fit_of {l : List UInt8} {u : Urp.URL} (h : Urp.parse l = .ok u) (id : Int) : FitM (ofO u id) ∧ ((ofO u id).op = false → Urp.netB (ofO u id).scheme = true) := by
  cases hi : Urp.innerU u with
  | some v =>
    have hn := inner_net hi
    have hv : ∃ y, Urp.parse y = .ok v := by
      unfold Urp.innerU at hi
      split at hi
      · rw [Urp.netU_parse] at hi
        cases hp : Urp.parse u.rest with
        | error e => rw [hp] at hi; cases hi
        | ok y =>
          rw [hp] at hi
          simp only at hi
          split at hi
          · cases hi; exact ⟨_, hp⟩
          · cases hi
      · cases hi
    obtain ⟨y, hy⟩ := hv
    have g := (Urp.parse_good hy hn).1
    have e : ofO u id = ofO v id := by
      unfold ofO
      rw [hi, inner_of_net hn]
      rfl
    rw [e]
    exact ⟨fit_good g id, fun _ => by rw [ofO_net g.net]; exact g.net⟩
  | none =>
    cases hn : Urp.netB u.scheme with
    | true =>
      have g := (Urp.parse_good h hn).1
      exact ⟨fit_good g id, fun _ => by rw [ofO_net g.net]; exact g.net⟩
    | false =>
      have ho : (ofO u id).op = true := by rw [ofO_op, hn, hi]; rfl
      rw [ofO_opaq u id ho]
      exact ⟨⟨Int.le_refl _, by show (0 : Int) ≤ 4294967295; decide, Nat.zero_le _, Nat.zero_le _⟩, fun h => by cases h⟩
theorem scheme_len {l : List UInt8} {u : Urp.URL} (h : Urp.parse l = .ok u) : u.scheme.length ≤ l.length := by
  obtain ⟨s, a, hc, _, hs, _⟩ := Urp.parse_ok h
  have h3 := (Urp.cutS_ok hc).2.2.2.2.1
  have h1 := Urp.bef_len 58 (Urp.trimU l)
  have h2 := Urp.trimU_len l
  rw [hs, h3, Oct.lower_length]; omega
/-- What stands while the statement runs: an expression's block, a URL's, an origin's; the tables. -/
structure RdyU (w0 : World) (A U : Nat) (x : Cm.Src) (u : Urp.URL) (W : World) : Prop where
  bel : Below w0.heap.size w0 W
  s : CBox W A 24 (srcC x)
  u : UBox W U u
  tab : Tab W
  tab8 : Tab8 W
theorem RdyU.below {w0 : World} {A U : Nat} {x : Cm.Src} {u : Urp.URL} {W W' : World} (h : RdyU w0 A U x u W) (hb : Below W.heap.size W W') : RdyU w0 A U x u W' := ⟨Below.onto h.bel hb, h.s.keep hb, h.u.keep hb, tab_below h.tab hb, h.tab8.below hb⟩
structure RdyV (w0 : World) (A U O : Nat) (x : Cm.Src) (u : Urp.URL) (o : Orig) (W : World) : Prop where
  r : RdyU w0 A U x u W
  x : OBox W O o
theorem RdyV.below {w0 : World} {A U O : Nat} {x : Cm.Src} {u : Urp.URL} {o : Orig} {W W' : World} (h : RdyV w0 A U O x u o W) (hb : Below W.heap.size W W') : RdyV w0 A U O x u o W' := ⟨h.r.below hb, h.x.keep hb⟩
theorem RdyV.alloc {w0 : World} {A U O : Nat} {x : Cm.Src} {u : Urp.URL} {o : Orig} {W : World} (h : RdyV w0 A U O x u o W) (ob : Obj) : RdyV w0 A U O x u o (W.alloc ob) := h.below ((Below.refl _ _).alloc (Nat.le_refl _) _)
theorem seen_three (w : World) (a b c : List UInt8) : SeenT (w.alloc (.cells #[.string (bA a), .string (bA b), .string (bA c)] 9)) (some ⟨w.heap.size, 0, none⟩) [a, b, c] := fun _ =>
  ⟨w.heap.size, 0, rfl, by simp, fun i hi => by
    have hi' : i < 3 := hi
    match i, hi' with
    | 0, _ => exact (CBox.new w 9 #[.string (bA a), .string (bA b), .string (bA c)]).c 0
    | 1, _ => exact (CBox.new w 9 #[.string (bA a), .string (bA b), .string (bA c)]).c 1
    | 2, _ => exact (CBox.new w 9 #[.string (bA a), .string (bA b), .string (bA c)]).c 2⟩
theorem self_of {l : List UInt8} {u : Urp.URL} {o : Orig} (h : Urp.parse l = .ok u) (hl : l.length ≤ 3000) (id : Int) (ho : ofO u id = o) : FitM o ∧ (o.op = false → Urp.netB o.scheme = true) ∧ u.scheme.length ≤ 3000 ∧ u.rest.length ≤ 4000 := by
  have h1 := fit_of h id
  rw [ho] at h1
  have h2 := scheme_len h
  have h3 := rest_len l (by omega)
  rw [h] at h3
  exact ⟨h1.1, h1.2, by omega, h3⟩
set_option maxHeartbeats 8000000 in
set_option maxRecDepth 20000 in
theorem walk_CspmatchSelf (s : ByteArray) (x : Cm.Src) (w : World) (hs : s.size ≤ maxLen) (hx : WideS x) (hT : Tab w) (hT8 : Tab8 w) :
    Calls Tryz.prog 8 #[.string s, srcV x] w fun e w' => e = .returned (.bool true) ∧ Below w.heap.size w w' := by
  obtain ⟨t, rfl⟩ : ∃ t, s = bA t := ⟨s.data.toList, rfl⟩
  rw [bA_size] at hs
  unfold maxLen at hs
  have hb0 : Below w.heap.size w (w.alloc (.cells (srcC x) 24)) := (Below.refl _ w).alloc (Nat.le_refl _) _
  have HB := Lib.hid hb0; have HS0 := Lib.hid (CBox.new w 24 (srcC x))
  have HTB := Lib.hid (tab_below hT hb0); have HTB8 := Lib.hid (hT8.below hb0)
  have HAW := Lib.hid (fun W h1 h2 => awake11_any W h1 h2)
  have xsc := hx.sc; have xhs := hx.hs
  have HXS := Lib.hid xsc; have HXH := Lib.hid xhs
  obtain ⟨u, hu⟩ : ∃ u, getU (Urp.parse t) = u := ⟨_, rfl⟩
  obtain ⟨er, her⟩ : ∃ e, errU (Urp.parse t) = e := ⟨_, rfl⟩
  have HPA := Lib.hid (fun W hW => uparse_lis hu her (by omega) W hW)
  have HER := Lib.hid her; have HU := Lib.hid hu
  clear hT hT8 hb0 hx xsc xhs hu her
  unfold srcV
  unfold srcC at *
  go_enter Tryz.func8, Tryz.ntmps8
  go_wp2_with fail
  refine (HAW.out _ HTB.out HTB8.out).mono ?_
  rintro e w1 ⟨rfl, hb1⟩
  have b1 := Below.onto HB.out hb1
  have s1 := HS0.out.keep hb1
  have t1 := tab_below HTB.out hb1; have t2 := HTB8.out.below hb1
  clear hb1 HB HS0 HTB HTB8 HAW
  go_wp2_with fail
  refine (HPA.out _ t2).mono ?_
  rintro e w2 ⟨rfl, hb2⟩
  have hU2 : RdyU w w.heap.size w2.heap.size x u (w2.alloc (.cells (uCells u) 43)) :=
    ⟨(Below.onto b1 hb2).alloc (Below.onto b1 hb2).size _, (s1.keep hb2).alloc _, UBox.new w2 u, tab_below (tab_below t1 hb2) ((Below.refl _ _).alloc (Nat.le_refl _) _), (t2.below hb2).below ((Below.refl _ _).alloc (Nat.le_refl _) _)⟩
  unfold uCells at hU2
  clear b1 s1 t1 t2 hb2 HPA
  obtain ⟨w3, hw3⟩ : ∃ W, w2.alloc (.cells #[.string (bA u.scheme), .string (bA u.host.name), .bool u.host.v4, .int .u32 u.host.addr, .int .i64 u.port, .string (bA u.path), .bool u.hasq, .string (bA u.query), .string (bA u.rest)] 43) = W := ⟨_, rfl⟩
  rw [hw3] at hU2
  obtain ⟨A, hA⟩ : ∃ A, w.heap.size = A := ⟨_, rfl⟩
  obtain ⟨U, hU⟩ : ∃ U, w2.heap.size = U := ⟨_, rfl⟩
  rw [hA, hU] at hU2
  have hbel := hU2.bel
  rw [hA] at hbel
  have HUU := Lib.hid hU2
  have c2 : w3.cell? ⟨A, 2, none⟩ = some (.string (bA x.host)) := hU2.s.c 2
  simp only [hA]
  go_upto_region 3 with fail
  clear hw3 hA hU
  by_cases q1 : 3000 < t.length
  · have q1' : (3000 : Int) < (t.length : Int) := by omega
    clear hU2
    go_wp2_with fail
    go_ret
    exact ⟨rfl, HUU.out.bel⟩
  have q1' : ¬ (3000 : Int) < (t.length : Int) := by omega
  rcases errU_ways t with ⟨q2, q2'⟩ | ⟨u', hok⟩
  · rw [HER.out] at q2 q2'
    clear hU2
    go_wp2_with fail
    go_ret
    exact ⟨rfl, HUU.out.bel⟩
  have he0 : er = 0 := by rw [← HER.out, hok]; rfl
  have huu : u' = u := by rw [← HU.out, hok]; rfl
  subst huu; subst he0
  by_cases q3 : 1000 < x.host.length
  · have q3' : (1000 : Int) < (x.host.length : Int) := by omega
    clear hU2
    go_wp2_with fail
    go_ret
    exact ⟨rfl, HUU.out.bel⟩
  have q3' : ¬ (1000 : Int) < (x.host.length : Int) := by omega
  obtain ⟨o, ho⟩ : ∃ o, ofO u' 1 = o := ⟨_, rfl⟩
  obtain ⟨hfit, hnet, hul, hrest⟩ := self_of hok (by omega) 1 ho
  have HOF := Lib.hid (fun W hW => of_any u' 1 W hrest hW)
  rw [ho] at HOF
  unfold origV urlV at HOF
  unfold oCells uCells at HOF
  have HFIT := Lib.hid hfit; have HNET := Lib.hid hnet; have HUL := Lib.hid hul
  have HFS : Hid (FitS x) := Lib.hid ⟨by omega, HXS.out⟩
  have u0 := hU2.u.c 0; have u1 := hU2.u.c 1; have u2 := hU2.u.c 2; have u3 := hU2.u.c 3; have u4 := hU2.u.c 4; have u5 := hU2.u.c 5; have u6 := hU2.u.c 6; have u7 := hU2.u.c 7; have u8 := hU2.u.c 8
  unfold uCells at u0 u1 u2 u3 u4 u5 u6 u7 u8
  have ht8 := hU2.tab8
  clear q1 q3 ho hok hfit hnet hul hrest hU2 HER HU HXS HXH
  go_wp2_with fail
  refine (HOF.out _ ht8).mono ?_
  rintro e w4 ⟨rfl, hb4⟩
  have hV4 : RdyV w A U w4.heap.size x u' o (w4.alloc (.cells (oCells o) 31)) := ⟨(HUU.out.below hb4).below ((Below.refl _ _).alloc (Nat.le_refl _) _), OBox.new w4 o⟩
  unfold oCells at hV4
  clear hb4 HOF HUU hbel ht8 c2 u0 u1 u2 u3 u4 u5 u6 u7 u8 q1' q3'
  obtain ⟨w5, hw5⟩ : ∃ W, w4.alloc (.cells #[.bool o.op, .int .i64 o.id, .string (bA o.scheme), .string (bA o.host.name), .bool o.host.v4, .int .u32 o.host.addr, .int .i64 o.port] 31) = W := ⟨_, rfl⟩
  rw [hw5] at hV4
  obtain ⟨O, hO⟩ : ∃ O, w4.heap.size = O := ⟨_, rfl⟩
  rw [hO] at hV4
  obtain ⟨b, hb⟩ : ∃ b, o.op = b := ⟨_, rfl⟩
  have HOP := Lib.hid hb
  have y0 := hV4.x.c0
  rw [hb] at y0
  clear hb
  cases b with
  | true =>
    have hno := Cm.any_op [[42], [39, 115, 101, 108, 102, 39], u'.scheme ++ [58]] o HOP.out
    have ca := fun W A c h1 h2 hA => cmAny_any A c [[42], [39, 115, 101, 108, 102, 39], u'.scheme ++ [58]] o o W h1 h2 HFIT.out HFIT.out (by simp) (fun y hy => by
      rcases List.mem_cons.1 hy with rfl | hy
      · decide
      · rcases List.mem_cons.1 hy with rfl | hy
        · decide
        · rw [List.mem_singleton.1 hy, List.length_append]; have := HUL.out; simp; omega) hA
    rw [hno] at ca
    have hnm := Cm.match_op x o HOP.out
    have cm := fun W h1 h2 => cmMatch_any x o o W h1 h2 HFS.out HFIT.out HFIT.out
    rw [hnm] at cm
    unfold origV at ca cm
    unfold oCells at ca cm
    unfold srcV srcC at cm
    have CA := Lib.hid ca; have CM := Lib.hid cm
    have z0 : w5.cell? ⟨U, 0, none⟩ = some (.string (bA u'.scheme)) := hV4.r.u.c 0
    have hcat : bA u'.scheme ++ (⟨#[58]⟩ : ByteArray) = bA (u'.scheme ++ [58]) := bA_app u'.scheme [58]
    have hL63 : ¬ 9223372036854775807 < u'.scheme.length + 1 := by have := HUL.out; omega
    clear hno ca hnm cm HFS HFIT HNET
    have x0 := fun ob => (hV4.alloc ob).x.c0; have x1 := fun ob => (hV4.alloc ob).x.c1; have x2 := fun ob => (hV4.alloc ob).x.c2; have x3 := fun ob => (hV4.alloc ob).x.c3; have x4 := fun ob => (hV4.alloc ob).x.c4; have x5 := fun ob => (hV4.alloc ob).x.c5; have x6 := fun ob => (hV4.alloc ob).x.c6
    go_wp2_with fail
    refine (CA.out _ _ _ (hV4.alloc _).r.tab (hV4.alloc _).r.tab8 (seen_three _ _ _ _)).mono ?_
    rintro e w6 ⟨rfl, hb6⟩
    have hV6 := (hV4.alloc _).below hb6
    clear hb6 x0 x1 x2 x3 x4 x5 x6 z0
    have s0 := hV6.r.s.c 0; have s1 := hV6.r.s.c 1; have s2 := hV6.r.s.c 2; have s3 := hV6.r.s.c 3
    have x0 := hV6.x.c0; have x1 := hV6.x.c1; have x2 := hV6.x.c2; have x3 := hV6.x.c3; have x4 := hV6.x.c4; have x5 := hV6.x.c5; have x6 := hV6.x.c6
    unfold srcC at s0 s1 s2 s3
    go_wp2_with fail
    refine (CM.out _ hV6.r.tab hV6.r.tab8).mono ?_
    rintro e w7 ⟨rfl, hb7⟩
    have hV7 := hV6.below hb7
    go_wp2_with fail
    go_ret
    exact ⟨rfl, hV7.r.bel⟩
  | false =>
    have hnet := HNET.out HOP.out
    have hsl : o.scheme.length ≤ 5 := by rcases Urp.net_cases hnet with h | h <;> rw [h] <;> decide
    have c1 := fun W A c h1 h2 hA => cmAny_any A c [Cm.SELF] o o W h1 h2 HFIT.out HFIT.out (by decide) (by decide) hA
    have c2 := fun W A c h1 h2 hA => cmAny_any A c [[42]] o o W h1 h2 HFIT.out HFIT.out (by decide) (by decide) hA
    have c3 := fun W A c h1 h2 hA => cmAny_any A c [o.scheme ++ [58]] o o W h1 h2 HFIT.out HFIT.out (by simp) (fun y hy => by rw [List.mem_singleton.1 hy, List.length_append]; simp; omega) hA
    rw [Cm.self_self HOP.out] at c1
    rw [Cm.any_any o HOP.out] at c2
    rw [Cm.own_scheme o HOP.out hnet] at c3
    unfold origV at c1 c2 c3
    unfold oCells at c1 c2 c3
    have C1 := Lib.hid c1; have C2 := Lib.hid c2; have C3 := Lib.hid c3
    have z2 := hV4.x.c2
    have hcat : bA o.scheme ++ (⟨#[58]⟩ : ByteArray) = bA (o.scheme ++ [58]) := bA_app o.scheme [58]
    have hL63 : ¬ 9223372036854775807 < o.scheme.length + 1 := by omega
    clear hnet hsl c1 c2 c3 HFS HFIT HNET HUL
    have hV5 := hV4.alloc (.cells #[.string (bA (o.scheme ++ [58]))] 9)
    have hS5 := seen_one w5 (o.scheme ++ [58])
    obtain ⟨w6, hw6⟩ : ∃ W, w5.alloc (.cells #[.string (bA (o.scheme ++ [58]))] 9) = W := ⟨_, rfl⟩
    rw [hw6] at hV5 hS5
    have x0 := fun ob => (hV5.alloc ob).x.c0; have x1 := fun ob => (hV5.alloc ob).x.c1; have x2 := fun ob => (hV5.alloc ob).x.c2; have x3 := fun ob => (hV5.alloc ob).x.c3; have x4 := fun ob => (hV5.alloc ob).x.c4; have x5 := fun ob => (hV5.alloc ob).x.c5; have x6 := fun ob => (hV5.alloc ob).x.c6
    go_wp2_with fail
    clear hw6 hV4 z2 y0
    refine (C1.out _ _ _ (hV5.alloc _).r.tab (hV5.alloc _).r.tab8 (seen_one _ _)).mono ?_
    rintro e w7 ⟨rfl, hb7⟩
    have hV7 := (hV5.alloc _).below hb7
    have hS7 := (hS5.below ((Below.refl _ _).alloc (Nat.le_refl _) _)).below hb7
    clear hb7 hV5 hS5 x0 x1 x2 x3 x4 x5 x6
    have x0 := fun ob => (hV7.alloc ob).x.c0; have x1 := fun ob => (hV7.alloc ob).x.c1; have x2 := fun ob => (hV7.alloc ob).x.c2; have x3 := fun ob => (hV7.alloc ob).x.c3; have x4 := fun ob => (hV7.alloc ob).x.c4; have x5 := fun ob => (hV7.alloc ob).x.c5; have x6 := fun ob => (hV7.alloc ob).x.c6
    go_wp2_with fail
    refine (C2.out _ _ _ (hV7.alloc _).r.tab (hV7.alloc _).r.tab8 (seen_one _ _)).mono ?_
    rintro e w8 ⟨rfl, hb8⟩
    have hV8 := (hV7.alloc _).below hb8
    have hS8 := (hS7.below ((Below.refl _ _).alloc (Nat.le_refl _) _)).below hb8
    clear hb8 hV7 hS7 x0 x1 x2 x3 x4 x5 x6
    have x0 := hV8.x.c0; have x1 := hV8.x.c1; have x2 := hV8.x.c2; have x3 := hV8.x.c3; have x4 := hV8.x.c4; have x5 := hV8.x.c5; have x6 := hV8.x.c6
    go_wp2_with fail
    refine (C3.out _ _ _ hV8.r.tab hV8.r.tab8 hS8).mono ?_
    rintro e w9 ⟨rfl, hb9⟩
    have hV9 := hV8.below hb9
    go_wp2_with fail
    go_ret
    exact ⟨rfl, hV9.r.bel⟩
end Go.Proofs.YtinjkpbpkedfnaaGreatDoor
