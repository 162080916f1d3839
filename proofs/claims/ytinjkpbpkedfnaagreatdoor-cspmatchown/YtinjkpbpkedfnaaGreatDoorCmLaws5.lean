/- The walk of the statement on an origin's own text. -/
import Derived.Test.YtinjkpbpkedfnaaGreatDoorCmLaws4
import Derived.Test.YtinjkpbpkedfnaaGreatDoorOrigAll
namespace Go.Proofs.YtinjkpbpkedfnaaGreatDoor
open Go.RowKit Go.Deep

theorem otext_len {u : Urp.URL} (g : Urp.Good u) (id : Int) : (otextL (ofO u id)).length ≤ (utextL u).length := by
  rw [otext_good g, Urp.utext_net g.net]
  unfold Urp.afterC
  simp only [List.length_append, List.length_cons, List.length_nil]
  omega
theorem small_good2 {u : Urp.URL} (g : Urp.Good u) (hl : (utextL u).length ≤ 3900) (id : Int) : SmallO (ofO u id) := by
  obtain ⟨s1, s2, a0, a1, p0, p1, _, _, _⟩ := Urp.good_small g hl
  rw [ofO_net g.net]
  refine ⟨by show u.scheme.length ≤ _; omega, s2, a0, a1, ?_, ?_⟩
  all_goals
    show _ ≤ _
    dsimp only
    split
    · rcases Urp.net_cases g.net with h | h <;> rw [h] <;> decide
    · assumption
theorem own_of {l : List UInt8} {u : Urp.URL} {o : Orig} (h : Urp.parse l = .ok u) (hn : Urp.netB u.scheme = true) (hl : l.length ≤ 2000) (ho : ofO u 1 = o) : FitM o ∧ SmallO o ∧ (otextL o).length ≤ 2001 ∧ u.rest.length ≤ 4000 ∧ ∀ me, Cm.anyB [otextL o] o me = true ∧ Cm.anyB [otextL o ++ [47, 120]] o me = true := by
  subst ho
  obtain ⟨g, hg⟩ := Urp.parse_good h hn
  refine ⟨fit_good g 1, small_good2 g (by omega) 1, Nat.le_trans (otext_len g 1) (by omega), by rw [g.rest]; simp, fun me => ⟨?_, Cm.own_text g 1 me _ (.inr rfl)⟩⟩
  have := Cm.own_text g 1 me [] (.inl rfl)
  rwa [List.append_nil] at this
/-- What stands while the statement runs: two origins' blocks, and the tables. -/
structure RdyO (w0 : World) (O A : Nat) (o me : Orig) (W : World) : Prop where
  bel : Below w0.heap.size w0 W
  x : OBox W O o
  y : OBox W A me
  tab : Tab W
  tab8 : Tab8 W
theorem RdyO.below {w0 : World} {O A : Nat} {o me : Orig} {W W' : World} (h : RdyO w0 O A o me W) (hb : Below W.heap.size W W') : RdyO w0 O A o me W' := ⟨Below.onto h.bel hb, h.x.keep hb, h.y.keep hb, tab_below h.tab hb, h.tab8.below hb⟩
theorem RdyO.alloc {w0 : World} {O A : Nat} {o me : Orig} {W : World} (h : RdyO w0 O A o me W) (ob : Obj) : RdyO w0 O A o me (W.alloc ob) := h.below ((Below.refl _ _).alloc (Nat.le_refl _) _)
theorem RdyO.drew {w0 : World} {O A : Nat} {o me : Orig} {W : World} (h : RdyO w0 O A o me W) : RdyO w0 O A o me W.drew := h.below (Below.refl _ _).drew
theorem RdyO.cs {w0 : World} {O A : Nat} {o me : Orig} {W : World} (h : RdyO w0 O A o me W) : W.cell? ⟨O, 0, none⟩ = some (.bool o.op) ∧ W.cell? ⟨O, 1, none⟩ = some (.int .i64 o.id) ∧ W.cell? ⟨O, 2, none⟩ = some (.string (bA o.scheme)) ∧ W.cell? ⟨O, 3, none⟩ = some (.string (bA o.host.name)) ∧ W.cell? ⟨O, 4, none⟩ = some (.bool o.host.v4) ∧ W.cell? ⟨O, 5, none⟩ = some (.int .u32 o.host.addr) ∧ W.cell? ⟨O, 6, none⟩ = some (.int .i64 o.port) ∧ W.cell? ⟨A, 0, none⟩ = some (.bool me.op) ∧ W.cell? ⟨A, 1, none⟩ = some (.int .i64 me.id) ∧ W.cell? ⟨A, 2, none⟩ = some (.string (bA me.scheme)) ∧ W.cell? ⟨A, 3, none⟩ = some (.string (bA me.host.name)) ∧ W.cell? ⟨A, 4, none⟩ = some (.bool me.host.v4) ∧ W.cell? ⟨A, 5, none⟩ = some (.int .u32 me.host.addr) ∧ W.cell? ⟨A, 6, none⟩ = some (.int .i64 me.port) ∧ RdyO w0 O A o me W :=
  ⟨h.x.c0, h.x.c1, h.x.c2, h.x.c3, h.x.c4, h.x.c5, h.x.c6, h.y.c0, h.y.c1, h.y.c2, h.y.c3, h.y.c4, h.y.c5, h.y.c6, h⟩
structure RdyP (w0 : World) (A U : Nat) (me : Orig) (u : Urp.URL) (W : World) : Prop where
  bel : Below w0.heap.size w0 W
  y : OBox W A me
  u : UBox W U u
  tab : Tab W
  tab8 : Tab8 W
theorem RdyP.below {w0 : World} {A U : Nat} {me : Orig} {u : Urp.URL} {W W' : World} (h : RdyP w0 A U me u W) (hb : Below W.heap.size W W') : RdyP w0 A U me u W' := ⟨Below.onto h.bel hb, h.y.keep hb, h.u.keep hb, tab_below h.tab hb, h.tab8.below hb⟩
set_option maxHeartbeats 8000000 in
set_option maxRecDepth 20000 in
theorem walk_CspmatchOwn (s : ByteArray) (me : Orig) (w : World) (hs : s.size ≤ maxLen) (hm : WideO me) (hT : Tab w) (hT8 : Tab8 w) :
    Calls Tryz.prog 9 #[.string s, origV me] w fun e w' => e = .returned (.bool true) ∧ Below w.heap.size w w' := by
  obtain ⟨t, rfl⟩ : ∃ t, s = bA t := ⟨s.data.toList, rfl⟩
  rw [bA_size] at hs
  unfold maxLen at hs
  have hb0 : Below w.heap.size w (w.alloc (.cells (oCells me) 31)) := (Below.refl _ w).alloc (Nat.le_refl _) _
  have HB := Lib.hid hb0; have HS0 := Lib.hid (OBox.new w me)
  have HTB := Lib.hid (tab_below hT hb0); have HTB8 := Lib.hid (hT8.below hb0)
  have HAW := Lib.hid (fun W h1 h2 => awake11_any W h1 h2)
  have HSM := Lib.hid (fun W => smallM_any me W)
  have hfm : smM me = true → FitM me := fun h => smM_fit h hm.a0 hm.a1
  have HFM := Lib.hid hfm
  obtain ⟨u, hu⟩ : ∃ u, getU (Urp.parse t) = u := ⟨_, rfl⟩
  obtain ⟨er, her⟩ : ∃ e, errU (Urp.parse t) = e := ⟨_, rfl⟩
  have HPA := Lib.hid (fun W hW => uparse_lis hu her (by omega) W hW)
  have HNT := Lib.hid (fun W => net_any u W)
  have HER := Lib.hid her; have HU := Lib.hid hu
  clear hT hT8 hb0 hm hfm hu her
  unfold origV urlV at *
  unfold oCells uCells at *
  go_enter Tryz.func9, Tryz.ntmps9
  go_wp2_with fail
  refine (HAW.out _ HTB.out HTB8.out).mono ?_
  rintro e w1 ⟨rfl, hb1⟩
  have b1 := Below.onto HB.out hb1
  have s1 := HS0.out.keep hb1
  have t1 := tab_below HTB.out hb1; have t2 := HTB8.out.below hb1
  clear hb1 HB HS0 HTB HTB8 HAW
  go_wp2_with fail
  refine (HPA.out _ t2).mono ?_
  rintro e w2 ⟨rfl, hb2⟩
  have hP2 : RdyP w w.heap.size w2.heap.size me u (w2.alloc (.cells (uCells u) 43)) :=
    ⟨(Below.onto b1 hb2).alloc (Below.onto b1 hb2).size _, (s1.keep hb2).alloc _, UBox.new w2 u, tab_below (tab_below t1 hb2) ((Below.refl _ _).alloc (Nat.le_refl _) _), (t2.below hb2).below ((Below.refl _ _).alloc (Nat.le_refl _) _)⟩
  unfold uCells at hP2
  clear b1 s1 t1 t2 hb2 HPA
  obtain ⟨w3, hw3⟩ : ∃ W, w2.alloc (.cells #[.string (bA u.scheme), .string (bA u.host.name), .bool u.host.v4, .int .u32 u.host.addr, .int .i64 u.port, .string (bA u.path), .bool u.hasq, .string (bA u.query), .string (bA u.rest)] 43) = W := ⟨_, rfl⟩
  rw [hw3] at hP2
  obtain ⟨A, hA⟩ : ∃ A, w.heap.size = A := ⟨_, rfl⟩
  obtain ⟨U, hU⟩ : ∃ U, w2.heap.size = U := ⟨_, rfl⟩
  rw [hA, hU] at hP2
  simp only [hA]
  have u0 := hP2.u.c 0; have u1 := hP2.u.c 1; have u2 := hP2.u.c 2; have u3 := hP2.u.c 3; have u4 := hP2.u.c 4; have u5 := hP2.u.c 5; have u6 := hP2.u.c 6; have u7 := hP2.u.c 7; have u8 := hP2.u.c 8
  unfold uCells at u0 u1 u2 u3 u4 u5 u6 u7 u8
  go_wp2_with fail
  clear hw3 hA hU
  refine (HNT.out _).mono ?_
  rintro e w4 ⟨rfl, hb4⟩
  have hP4 := hP2.below hb4
  clear hb4 hP2 u0 u1 u2 u3 u4 u5 u6 u7 u8
  obtain ⟨nb, hnb⟩ : ∃ b, Urp.netB u.scheme = b := ⟨_, rfl⟩
  rw [hnb]
  have HNB := Lib.hid hnb
  clear hnb HNT
  go_upto_region 4 with fail
  by_cases q1 : 2000 < t.length
  · have q1' : (2000 : Int) < (t.length : Int) := by omega
    go_wp2_with fail
    go_ret
    exact ⟨rfl, hP4.bel⟩
  have q1' : ¬ (2000 : Int) < (t.length : Int) := by omega
  rcases errU_ways t with ⟨q2, q2'⟩ | ⟨u', hok⟩
  · rw [HER.out] at q2 q2'
    go_wp2_with fail
    go_ret
    exact ⟨rfl, hP4.bel⟩
  have he0 : er = 0 := by rw [← HER.out, hok]; rfl
  have huu : u' = u := by rw [← HU.out, hok]; rfl
  subst huu; subst he0
  cases nb with
  | false =>
    go_wp2_with fail
    go_ret
    exact ⟨rfl, hP4.bel⟩
  | true =>
  obtain ⟨o, ho⟩ : ∃ o, ofO u' 1 = o := ⟨_, rfl⟩
  obtain ⟨hfit, hsmall, htl, hrest, hany⟩ := own_of hok HNB.out (by omega) ho
  have HOF := Lib.hid (fun W hW => of_any u' 1 W hrest hW)
  rw [ho] at HOF
  have HFIT := Lib.hid hfit
  have HTX := Lib.hid (fun W hW => otext_any o W hsmall hW)
  obtain ⟨tx, htx⟩ : ∃ x, otextL o = x := ⟨_, rfl⟩
  rw [htx] at htl hany HTX
  have ca := fun W A c h1 h2 (q : smM me = true) hA => cmAny_any A c [tx] o me W h1 h2 HFIT.out (HFM.out q) (by simp) (fun y hy => by rw [List.mem_singleton.1 hy]; omega) hA
  have cb := fun W A c h1 h2 (q : smM me = true) hA => cmAny_any A c [tx ++ [47, 120]] o me W h1 h2 HFIT.out (HFM.out q) (by simp) (fun y hy => by rw [List.mem_singleton.1 hy, List.length_append]; simp; omega) hA
  rw [(hany me).1] at ca
  rw [(hany me).2] at cb
  unfold origV at HOF HTX ca cb
  unfold urlV at HOF
  unfold oCells uCells at HOF
  unfold oCells at HTX ca cb
  have CA := Lib.hid ca; have CB := Lib.hid cb
  have HTL := Lib.hid htl
  clear q1 hok ho hfit hsmall htl hrest hany htx ca cb HER HU HNB HFM HFIT
  obtain ⟨y0, y1, y2, y3, y4, y5, y6⟩ := hP4.y.all
  go_wp2_with fail
  refine (HSM.out _).mono ?_
  rintro e w5 ⟨rfl, hb5⟩
  have hP5 := hP4.below hb5
  clear hb5 hP4 y0 y1 y2 y3 y4 y5 y6 HSM
  cases hsm : smM me with
  | false =>
    go_wp2_with fail
    go_ret
    exact ⟨rfl, hP5.bel⟩
  | true =>
  have HM := Lib.hid hsm
  clear hsm q1'
  have u0 := hP5.u.c 0; have u1 := hP5.u.c 1; have u2 := hP5.u.c 2; have u3 := hP5.u.c 3; have u4 := hP5.u.c 4; have u5 := hP5.u.c 5; have u6 := hP5.u.c 6; have u7 := hP5.u.c 7; have u8 := hP5.u.c 8
  unfold uCells at u0 u1 u2 u3 u4 u5 u6 u7 u8
  go_wp2_with fail
  refine (HOF.out _ hP5.tab8).mono ?_
  rintro e w6 ⟨rfl, hb6⟩
  have hP6 := hP5.below hb6
  have hO6 : RdyO w w6.heap.size A o me (w6.alloc (.cells (oCells o) 31)) := ⟨hP6.bel.alloc hP6.bel.size _, OBox.new w6 o, hP6.y.alloc _, tab_below hP6.tab ((Below.refl _ _).alloc (Nat.le_refl _) _), hP6.tab8.below ((Below.refl _ _).alloc (Nat.le_refl _) _)⟩
  unfold oCells at hO6
  clear hb6 hP5 hP6 HOF u0 u1 u2 u3 u4 u5 u6 u7 u8
  obtain ⟨w7, hw7⟩ : ∃ W, w6.alloc (.cells #[.bool o.op, .int .i64 o.id, .string (bA o.scheme), .string (bA o.host.name), .bool o.host.v4, .int .u32 o.host.addr, .int .i64 o.port] 31) = W := ⟨_, rfl⟩
  rw [hw7] at hO6
  obtain ⟨O, hO⟩ : ∃ O, w6.heap.size = O := ⟨_, rfl⟩
  rw [hO] at hO6
  have hR1 := hO6
  have hcat : bA tx ++ (⟨#[47, 120]⟩ : ByteArray) = bA (tx ++ [47, 120]) := bA_app tx [47, 120]
  have hL63 : ¬ 9223372036854775807 < tx.length + 2 := by have := HTL.out; omega
  go_upto_region 7 with fail
  clear hw7 hO hO6
  go_region_held_law (fun W => W.cell? ⟨O, 0, none⟩ = some (.bool o.op) ∧ W.cell? ⟨O, 1, none⟩ = some (.int .i64 o.id) ∧ W.cell? ⟨O, 2, none⟩ = some (.string (bA o.scheme)) ∧ W.cell? ⟨O, 3, none⟩ = some (.string (bA o.host.name)) ∧ W.cell? ⟨O, 4, none⟩ = some (.bool o.host.v4) ∧ W.cell? ⟨O, 5, none⟩ = some (.int .u32 o.host.addr) ∧ W.cell? ⟨O, 6, none⟩ = some (.int .i64 o.port) ∧ W.cell? ⟨A, 0, none⟩ = some (.bool me.op) ∧ W.cell? ⟨A, 1, none⟩ = some (.int .i64 me.id) ∧ W.cell? ⟨A, 2, none⟩ = some (.string (bA me.scheme)) ∧ W.cell? ⟨A, 3, none⟩ = some (.string (bA me.host.name)) ∧ W.cell? ⟨A, 4, none⟩ = some (.bool me.host.v4) ∧ W.cell? ⟨A, 5, none⟩ = some (.int .u32 me.host.addr) ∧ W.cell? ⟨A, 6, none⟩ = some (.int .i64 me.port) ∧ RdyO w O A o me W)
    (first
      | exact hR5.cs
      | exact hR5.drew.cs
      | exact (hR5.alloc _).cs
      | exact (hR5.alloc _).drew.cs
      | exact (hR5.drew.alloc _).cs
      | exact hR4.cs
      | exact hR4.drew.cs
      | exact (hR4.alloc _).cs
      | exact (hR4.alloc _).drew.cs
      | exact (hR4.drew.alloc _).cs
      | exact hR3.cs
      | exact hR3.drew.cs
      | exact (hR3.alloc _).cs
      | exact (hR3.alloc _).drew.cs
      | exact (hR3.drew.alloc _).cs
      | exact hR2.cs
      | exact hR2.drew.cs
      | exact (hR2.alloc _).cs
      | exact (hR2.alloc _).drew.cs
      | exact (hR2.drew.alloc _).cs
      | exact hR1.cs
      | exact hR1.drew.cs
      | exact (hR1.alloc _).cs
      | exact (hR1.alloc _).drew.cs
      | exact (hR1.drew.alloc _).cs)
    (first
      | (go_at_call 18; refine (CB.out _ _ _ (hR4.alloc _).tab (hR4.alloc _).tab8 HM.out (seen_one _ _)).mono ?_; rintro e w5 ⟨rfl, hb5⟩; have hR5 := (hR4.alloc _).below hb5)
      | (go_at_call 18; refine (CB.out _ _ _ (hR4.alloc _).drew.tab (hR4.alloc _).drew.tab8 HM.out (SeenT.drew (seen_one _ _))).mono ?_; rintro e w5 ⟨rfl, hb5⟩; have hR5 := (hR4.alloc _).drew.below hb5)
      | (go_at_call 25; refine (HTX.out _ hR3.tab).mono ?_; rintro e w4 ⟨rfl, hb4⟩; have hR4 := hR3.below hb4)
      | (go_at_call 25; refine (HTX.out _ hR3.drew.tab).mono ?_; rintro e w4 ⟨rfl, hb4⟩; have hR4 := hR3.drew.below hb4)
      | (go_at_call 18; refine (CA.out _ _ _ (hR2.alloc _).tab (hR2.alloc _).tab8 HM.out (seen_one _ _)).mono ?_; rintro e w3 ⟨rfl, hb3⟩; have hR3 := (hR2.alloc _).below hb3)
      | (go_at_call 18; refine (CA.out _ _ _ (hR2.alloc _).drew.tab (hR2.alloc _).drew.tab8 HM.out (SeenT.drew (seen_one _ _))).mono ?_; rintro e w3 ⟨rfl, hb3⟩; have hR3 := (hR2.alloc _).drew.below hb3)
      | (go_at_call 25; refine (HTX.out _ hR1.tab).mono ?_; rintro e w2 ⟨rfl, hb2⟩; have hR2 := hR1.below hb2)
      | (go_at_call 25; refine (HTX.out _ hR1.drew.tab).mono ?_; rintro e w2 ⟨rfl, hb2⟩; have hR2 := hR1.drew.below hb2))
  all_goals
    go_wp2_with fail
    go_ret
    exact ⟨rfl, hR5.bel⟩
end Go.Proofs.YtinjkpbpkedfnaaGreatDoor
