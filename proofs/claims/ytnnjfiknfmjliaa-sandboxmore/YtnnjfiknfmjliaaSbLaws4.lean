/- The walk of the statement on one word more, one policy more. -/
import Derived.Test.YtnnjfiknfmjliaaSbLaws2
import Derived.Test.YtnnjfiknfmjliaaSbApp
import Derived.Test.YtnnjfiknfmjliaaTxSized
import Derived.Deep.Cut
import Derived.Deep.CutRange
import Derived.Deep.CutBlock
import Derived.Deep.RegionHeldLaw
namespace Go.Proofs.Ytnnjfiknfmjliaa
open Go.ChangeShapes Go.WideShapes Go.ChangeAt Go.RowKit Go.Deep

/-- What stands while the statement runs: a policy's block; lists that lie somewhere. -/
structure RdyS (w0 : World) (B : Nat) (p : Cs.Pol) (A1 : Option Addr) (c1 : Nat) (A2 : Option Addr) (c2 : Nat) (A0 : Option Addr) (ws : List (List UInt8)) (A : Option Addr) (l : List Cs.Pol) (W : World) : Prop where
  b : CBox W B 32 (polC p A1 c1 A2 c2)
  an : SeenT W A1 p.anc
  bx : SeenT W A2 p.box
  ws : SeenT W A0 ws
  l : SeenPo W A l
  bel : Below w0.heap.size w0 W
section
variable {w0 : World} {B : Nat} {p : Cs.Pol} {A1 : Option Addr} {c1 : Nat} {A2 : Option Addr} {c2 : Nat} {A0 : Option Addr} {ws : List (List UInt8)} {A : Option Addr} {l : List Cs.Pol} {W W' : World}
theorem RdyS.below (h : RdyS w0 B p A1 c1 A2 c2 A0 ws A l W) (hb : Below W.heap.size W W') : RdyS w0 B p A1 c1 A2 c2 A0 ws A l W' := ⟨h.b.keep hb, h.an.below hb, h.bx.below hb, h.ws.below hb, h.l.below hb, Below.onto h.bel hb⟩
theorem RdyS.drew (h : RdyS w0 B p A1 c1 A2 c2 A0 ws A l W) : RdyS w0 B p A1 c1 A2 c2 A0 ws A l W.drew := h.below (Below.refl _ _).drew
theorem RdyS.alloc (h : RdyS w0 B p A1 c1 A2 c2 A0 ws A l W) (ob : Obj) : RdyS w0 B p A1 c1 A2 c2 A0 ws A l (W.alloc ob) := h.below ((Below.refl _ _).alloc (Nat.le_refl _) _)
theorem RdyS.mk0 (w : World) (p : Cs.Pol) (A1 : Option Addr) (c1 : Nat) (A2 : Option Addr) (c2 : Nat) (A0 : Option Addr) (ws : List (List UInt8)) (A : Option Addr) (l : List Cs.Pol) (h1 : SeenT w A1 p.anc) (h2 : SeenT w A2 p.box) (h3 : SeenT w A0 ws) (h4 : SeenPo w A l) :
    RdyS w w.heap.size p A1 c1 A2 c2 A0 ws A l (w.alloc (.cells (polC p A1 c1 A2 c2) 32)) := by
  have hb : Below w.heap.size w (w.alloc (.cells (polC p A1 c1 A2 c2) 32)) := (Below.refl _ w).alloc (Nat.le_refl _) _
  exact ⟨CBox.new w _ _, h1.below hb, h2.below hb, h3.below hb, h4.below hb, hb⟩
theorem RdyS.cs {xa : Bool} {pa : List (List UInt8)} {xb : Bool} {pb : List (List UInt8)} (h : RdyS w0 B ⟨xa, pa, xb, pb⟩ A1 c1 A2 c2 A0 ws A l W) : W.cell? ⟨B, 0, none⟩ = some (.bool xa) ∧ W.cell? ⟨B, 1, none⟩ = some (.slice A1 pa.length c1) ∧ W.cell? ⟨B, 2, none⟩ = some (.bool xb) ∧ W.cell? ⟨B, 3, none⟩ = some (.slice A2 pb.length c2) ∧ RdyS w0 B ⟨xa, pa, xb, pb⟩ A1 c1 A2 c2 A0 ws A l W := ⟨h.b.c 0, h.b.c 1, h.b.c 2, h.b.c 3, h⟩
end
theorem short_app {ws : List (List UInt8)} {t : List UInt8} (h : ShortW (ws ++ [t])) : ws.length ≤ 200 ∧ t.length ≤ 200 ∧ ∀ u ∈ ws, u.length ≤ 200 := by
  have h1 := h.len
  have h2 := h.each
  simp at h1
  exact ⟨by omega, h2 t (by simp), fun u hu => h2 u (by simp [hu])⟩
set_option maxHeartbeats 2000000 in
set_option maxRecDepth 20000 in
theorem walk_SandboxMore (A0 : Option Addr) (c0 : Nat) (ws : List (List UInt8)) (s : ByteArray) (A : Option Addr) (c : Nat) (l : List Cs.Pol) (p : Cs.Pol) (A1 : Option Addr) (c1 : Nat) (A2 : Option Addr) (c2 : Nat) (w : World) (hw : WideTs w A0 c0 ws) (hs : s.size ≤ maxLen) (hl : WidePs w A c l) (hp : WidePol w p A1 c1 A2 c2) (hrs : ws.length * 16 ≤ 140737488351232) :
    Calls Try.prog 6 #[.slice A0 ws.length c0, .string s, .slice A l.length c, .agg (polC p A1 c1 A2 c2)] w fun e w' => e = .returned (.bool true) ∧ Below w.heap.size w w' := by
  obtain ⟨t, rfl⟩ : ∃ t, s = bA t := ⟨s.data.toList, rfl⟩
  have HX := Lib.hid (RdyS.mk0 w p A1 c1 A2 c2 A0 ws A l hp.anc.seen hp.box.seen hw.seen hl.seen)
  have sw : ∀ (A' : Option Addr) (c' : Nat) (W : World), SeenT W A' (ws ++ [t]) → Calls Try.prog 10 #[.slice A' (ws.length + 1) c'] W fun e w' => e = .returned (.bool (shortB (ws ++ [t]))) ∧ W = w' := fun A' c' W h => by
    have := short_any A' c' (ws ++ [t]) W h
    rw [List.length_append] at this
    exact this
  have HSW := Lib.hid sw
  clear sw
  have HSP := Lib.hid (fun W h => short_any A2 c2 p.box W h)
  have HNL := Lib.hid hl.nl
  have HRS := Lib.hid hrs
  have ca := fun W (q : ws.length ≤ 200) (qe : ∀ u ∈ ws, u.length ≤ 200) hA => sbFlags_any A0 c0 ws W (Nat.le_trans q (by decide)) (fun t ht => Nat.le_trans (qe t ht) (by decide)) hA
  have cb : ∀ (A' : Option Addr) (c' : Nat) (W : World), ShortW (ws ++ [t]) → SeenT W A' (ws ++ [t]) → Calls Try.prog 14 #[.slice A' (ws.length + 1) c'] W fun e w' => e = .returned (.int .i64 (Sb.flags (ws ++ [t]))) ∧ Below W.heap.size W w' := fun A' c' W q hA => by
    have := sbFlags_any A' c' (ws ++ [t]) W (Nat.le_trans q.len (by decide)) (fun t ht => Nat.le_trans (q.each t ht) (by decide)) hA
    rw [List.length_append] at this
    exact this
  have cc : ∀ (A' : Option Addr) (c' : Nat) (W : World), ShortW (ws ++ [t]) → SeenT W A' ([t] ++ ws) → Calls Try.prog 14 #[.slice A' (ws.length + 1) c'] W fun e w' => e = .returned (.int .i64 (Sb.flags ([t] ++ ws))) ∧ Below W.heap.size W w' := fun A' c' W q hA => by
    obtain ⟨q1, q2, q3⟩ := short_app q
    have := sbFlags_any A' c' ([t] ++ ws) W (by simp; omega) (fun u hu => by
      rcases List.mem_append.1 hu with hu | hu
      · rw [List.mem_singleton.1 hu]; omega
      · exact Nat.le_trans (q3 u hu) (by decide)) hA
    rw [List.length_append, Nat.add_comm] at this
    exact this
  have cd := fun W (q : l.length ≤ 50) (qe : ShortPs l) hA => sbAll_any A c l W (Nat.le_trans q (by decide)) qe.few hA
  have ce : ∀ (A' : Option Addr) (c' : Nat) (W : World), l.length ≤ 50 → ShortPs l → ShortW p.box → SeenPo W A' (l ++ [p]) → Calls Try.prog 18 #[.slice A' (l.length + 1) c'] W fun e w' => e = .returned (.int .i64 (Sb.all (l ++ [p]))) ∧ Below W.heap.size W w' := fun A' c' W q qe qb hA => by
    have := sbAll_any A' c' (l ++ [p]) W (by simp; omega) (fun y hy => by
      rcases List.mem_append.1 hy with hy | hy
      · exact qe.few y hy
      · rw [List.mem_singleton.1 hy]
        exact ⟨Nat.le_trans qb.len (by decide), fun t ht => Nat.le_trans (qb.each t ht) (by decide)⟩) hA
    rw [List.length_append] at this
    exact this
  have hba := Sb.flags_bd ws
  have hbb := Sb.flags_bd (ws ++ [t])
  have hbd := Sb.all_bd l
  have hbe := Sb.all_bd (l ++ [p])
  have hu1 : Sb.union (Sb.flags ws) (Sb.flags (ws ++ [t])) = Sb.flags ws := Sb.flags_more ws t
  have hu2 : Sb.flags ([t] ++ ws) = Sb.flags (ws ++ [t]) := (Sb.flags_order ws t).symm
  have hu3 := Sb.all_more l p
  rw [hu2] at cc
  obtain ⟨fa, ea⟩ : ∃ f, Sb.flags ws = f := ⟨_, rfl⟩
  obtain ⟨fb, eb⟩ : ∃ f, Sb.flags (ws ++ [t]) = f := ⟨_, rfl⟩
  obtain ⟨fd, ed⟩ : ∃ f, Sb.all l = f := ⟨_, rfl⟩
  obtain ⟨fe, ee⟩ : ∃ f, Sb.all (l ++ [p]) = f := ⟨_, rfl⟩
  rw [ea] at ca hba hu1; rw [eb] at cb cc hbb hu1; rw [ed] at cd hbd hu3; rw [ee] at ce hbe hu3
  have cu := fun W => runion_any fa fb W hba.1 hba.2 hbb.1 hbb.2
  have cv := fun W => runion_any fd fe W hbd.1 hbd.2 hbe.1 hbe.2
  rw [hu1] at cu; rw [hu3] at cv
  have HCA := Lib.hid ca; have HCB := Lib.hid cb; have HCC := Lib.hid cc; have HCD := Lib.hid cd; have HCE := Lib.hid ce; have HCU := Lib.hid cu; have HCV := Lib.hid cv
  have HBA := Lib.hid hba; have HBE := Lib.hid hbe
  clear hw hs hl hp hrs ca cb cc cd ce hba hbb hbd hbe hu1 hu2 hu3 ea eb ed ee cu cv
  obtain ⟨xa, pa, xb, pb⟩ := p
  unfold polC at *
  dsimp only at *
  go_enter Try.func6, Try.ntmps6
  obtain ⟨w1, hw1⟩ : ∃ W, (w.alloc (.cells #[.bool xa, .slice A1 pa.length c1, .bool xb, .slice A2 pb.length c2] 32)) = W := ⟨_, rfl⟩
  have hX1 : RdyS w w.heap.size ⟨xa, pa, xb, pb⟩ A1 c1 A2 c2 A0 ws A l w1 := by rw [← hw1]; exact HX.out
  go_wp2_with fail
  clear hw1 HX
  obtain ⟨B, hB⟩ : ∃ A, w.heap.size = A := ⟨_, rfl⟩
  simp only [hB] at hX1 ⊢
  clear hB
  refine (awake12_any _).mono ?_
  rintro e w2 ⟨rfl, hb2⟩
  have hX2 := hX1.below hb2
  clear hb2 hX1
  go_wp2_with (first
    | (at_builtin; refine wp_appT rfl _ _ rfl w2.heap.size _ ([] ++ ws) [t] rfl (World.ownsRow.alloc hown8 _) _ _ rfl (seen_fresh1 _ _) (by have := HRS.out; unfold maxLen; simp; omega) (by have := HRS.out; simp; omega) (by have := hb8.size; simp at this ⊢; omega) ?_; intro v9 w9 hown9 hg9 hb9; obtain ⟨A9, c9, rfl, hcap9⟩ := own_cap hown9)
    | (at_builtin; refine wp_appT rfl _ _ rfl w2.heap.size _ [] ws rfl (own_noT w2) A0 c0 rfl (hX2.alloc _).ws (by have := HRS.out; unfold maxLen; simp; omega) (by have := HRS.out; simp; omega) (by simp) ?_; intro v8 w8 hown8 hg8 hb8)
    | fail)
  refine (HSW.out A9 c9 w9 (by have := (own_texts hown9).seen; rwa [List.nil_append] at this)).mono ?_
  rintro e w3 ⟨rfl, rfl⟩
  have b8 : Below w2.heap.size w2 w8 := (below_alQ (Below.refl _ _) (Nat.le_refl _) _).trans hb8
  have b9 : Below w2.heap.size w2 w9 := (below_alQ b8 b8.size _).trans hb9
  have hX3 := hX2.below b9
  clear b8 b9 hown8 hg8 hb8 hown9 hg9 hb9 hcap9 hX2
  have p3 : w9.cell? ⟨B, 3, none⟩ = some (.slice A2 pb.length c2) := hX3.b.c 3
  go_wp2_with fail
  refine (HSP.out _ hX3.bx).mono ?_
  rintro e w4 ⟨rfl, rfl⟩
  clear p3 HSP
  cases hs1 : shortB (ws ++ [t]) with
  | false =>
    go_wp2_with fail
    go_ret
    exact ⟨rfl, hX3.bel⟩
  | true =>
  have HS := Lib.hid (short_is hs1)
  clear hs1
  cases hs2 : shortB pb with
  | false =>
    go_wp2_with fail
    go_ret
    exact ⟨rfl, hX3.bel⟩
  | true =>
  have HS2 := Lib.hid (short_is hs2)
  clear hs2
  by_cases q1 : 100 < ws.length
  · have q1' : (100 : Int) < (ws.length : Int) := by omega
    clear q1
    go_wp2_with fail
    go_ret
    exact ⟨rfl, hX3.bel⟩
  have q1' : ¬ (100 : Int) < (ws.length : Int) := by omega
  clear q1
  by_cases q2 : 50 < l.length
  · have q2' : (50 : Int) < (l.length : Int) := by omega
    clear q2
    go_wp2_with fail
    go_ret
    exact ⟨rfl, hX3.bel⟩
  have q2' : ¬ (50 : Int) < (l.length : Int) := by omega
  have Q2 : Hid (l.length ≤ 50) := Lib.hid (by omega)
  clear q2
  go_wp2_with fail
  clear q1' q2'
  have HX3 := Lib.hid hX3
  clear hX3
  go_loopw [12] (fun iv wr => ∃ k : Nat, k ≤ l.length ∧ iv = .int .i64 k ∧ Hid (ShortPs (l.take k)) ∧ wr = w9) (fun iv _ => l.length - (intOf iv).toNat)
  case atStart => exact ⟨0, by omega, rfl, Lib.hid (fun _ h => by simp at h), rfl⟩
  case round =>
    obtain ⟨k, hk, rfl, hsh, rfl⟩ := hrel
    by_cases hlt : k < l.length
    · obtain ⟨g, q, rfl, hg, hc⟩ := HX3.out.l (by omega)
      obtain ⟨D1, d1, D2, d2, hcs, _, hsb⟩ := hc k hlt
      have z3 : wr.cell? ⟨g, q + k * 4 + 3, none⟩ = some (.slice D2 l[k].box.length d2) := hcs 3 (by decide)
      have HN := Lib.hid (fun h => hsh.out.take hlt h)
      have HSS := Lib.hid (short_any D2 d2 l[k].box wr hsb)
      have HI := Lib.hid (@short_is l[k].box)
      obtain ⟨bx, hbx⟩ : ∃ b, (l[k]'hlt).box = b := ⟨_, rfl⟩
      rw [hbx] at z3 HN HSS HI
      clear hc hcs hbx hsb
      go_wp2_with fail
      refine HSS.out.mono ?_
      rintro e w5 ⟨rfl, rfl⟩
      cases hsb : shortB bx with
      | false =>
        go_wp2_with fail
        go_ret
        exact ⟨rfl, HX3.out.bel⟩
      | true =>
        have HY := Lib.hid (HN.out (HI.out hsb))
        clear hsb HN HI HSS
        go_wp2_with fail
        exact ⟨⟨k + 1, by omega, by go_num, HY, trivial⟩, by simp [intOf]; omega⟩
    · obtain rfl : k = l.length := by omega
      have hx := hsh.out
      rw [List.take_of_length_le (Nat.le_refl _)] at hx
      have HSL := Lib.hid hx
      have hX5 := HX3.out
      clear hx hsh hlt hk HX3
      go_wp2_with fail
      obtain ⟨q1, q2, q3⟩ := short_app HS.out
      have q3 := Lib.hid q3
      refine (HCA.out _ q1 q3.out hX5.ws).mono ?_
      rintro e w6 ⟨rfl, hb6⟩
      have hX6 := hX5.below hb6
      clear hb6 hX5 HCA HSW q1 q2 q3
      go_wp2_with (first
        | (at_builtin; refine wp_appT rfl _ _ rfl w6.heap.size _ ([] ++ ws) [t] rfl (World.ownsRow.alloc hown8 _) _ _ rfl (seen_fresh1 _ _) (by have := HRS.out; unfold maxLen; simp; omega) (by have := HRS.out; simp; omega) (by have := hb8.size; simp at this ⊢; omega) ?_; intro v7 w7 hown7 hg7 hb7; obtain ⟨A7, c7, rfl, hcap7⟩ := own_cap hown7)
        | (at_builtin; refine wp_appT rfl _ _ rfl w6.heap.size _ [] ws rfl (own_noT w6) A0 c0 rfl (hX6.alloc _).ws (by have := HRS.out; unfold maxLen; simp; omega) (by have := HRS.out; simp; omega) (by simp) ?_; intro v8 w8 hown8 hg8 hb8)
        | fail)
      refine (HCB.out A7 c7 w7 HS.out (by have := (own_texts hown7).seen; rwa [List.nil_append] at this)).mono ?_
      rintro e w10 ⟨rfl, hb10⟩
      have b8 : Below w6.heap.size w6 w8 := (below_alQ (Below.refl _ _) (Nat.le_refl _) _).trans hb8
      have b7 : Below w6.heap.size w6 w7 := (below_alQ b8 b8.size _).trans hb7
      have hX10 := (hX6.below b7).below hb10
      clear b8 b7 hown8 hg8 hb8 hown7 hg7 hb7 hcap7 hX6 hb10 HCB
      go_wp2_with (first
        | (at_builtin; refine wp_appT rfl _ _ rfl w10.heap.size _ [t] ws rfl (own_oneT w10 t w10.heap.size (Nat.le_refl _)) A0 c0 rfl (hX10.alloc _).ws (by have := HRS.out; unfold maxLen; simp; omega) (by have := HRS.out; simp; omega) (by simp) ?_; intro v11 w11 hown11 hg11 hb11; obtain ⟨A11, c11, rfl, hcap11⟩ := own_cap hown11)
        | fail)
      refine (HCC.out A11 c11 w11 HS.out (own_texts hown11).seen).mono ?_
      rintro e w12 ⟨rfl, hb12⟩
      have b11 : Below w10.heap.size w10 w11 := (below_alQ (Below.refl _ _) (Nat.le_refl _) _).trans hb11
      have hX12 := (hX10.below b11).below hb12
      clear b11 hown11 hg11 hb11 hcap11 hX10 hb12 HCC HRS
      go_wp2_with fail
      refine (HCD.out _ Q2.out HSL.out hX12.l).mono ?_
      rintro e w13 ⟨rfl, hb13⟩
      have hX13 := hX12.below hb13
      clear hb13 hX12 HCD
      obtain ⟨csl, rowl, newl⟩ := news_pols HNL.out hX13.l
      have hrow1 : RowQ w13 [⟨xa, pa, xb, pb⟩] (#[Value.bool xa, .slice A1 pa.length c1, .bool xb, .slice A2 pb.length c2] : Array Value).toList := RowQ.one hX13.an hX13.bx
      have hb0 : Below w13.heap.size w13 w13 := Below.refl _ _
      have hna : l.length ≤ 50 := Q2.out
      have h63 : l.length ≤ maxLen := by unfold maxLen; omega
      have hm63 : l.length + 1 ≤ maxLen := by unfold maxLen; omega
      have hby1 : l.length * 64 ≤ 140737488355328 := by omega
      have hby2 : (l.length + 1) * 64 ≤ 140737488355328 := by omega
      go_upto_region 16 with fail
      go_cut [18] from 78 to 84 (fun v wx => v = .int .i64 fe ∧ Hid (RdyS w B ⟨xa, pa, xb, pb⟩ A1 c1 A2 c2 A0 ws A l wx))
      case first =>
        go_region_held_law (fun W => W.cell? ⟨B, 0, none⟩ = some (.bool xa) ∧ W.cell? ⟨B, 1, none⟩ = some (.slice A1 pa.length c1) ∧ W.cell? ⟨B, 2, none⟩ = some (.bool xb) ∧ W.cell? ⟨B, 3, none⟩ = some (.slice A2 pb.length c2) ∧ RdyS w B ⟨xa, pa, xb, pb⟩ A1 c1 A2 c2 A0 ws A l W)
          (first
            | exact hX7.cs
            | exact (hX13.below hb6).cs
            | exact (hX13.below hb6).drew.cs
            | exact (hX13.below (below_alQ hb4 hb4.size _)).cs
            | exact (hX13.below (below_alQ hb4 hb4.size _)).drew.cs
            | exact (hX13.below hb4).cs
            | exact (hX13.below hb4).drew.cs
            | exact (hX13.below (below_alQ (below_alQ hb0 (Nat.le_refl _) _) (below_alQ hb0 (Nat.le_refl _) _).size _)).drew.cs
            | exact (hX13.below (below_alQ (below_alQ hb0 (Nat.le_refl _) _) (below_alQ hb0 (Nat.le_refl _) _).size _)).cs
            | exact (hX13.below (below_alQ hb0 (Nat.le_refl _) _)).drew.cs
            | exact (hX13.below (below_alQ hb0 (Nat.le_refl _) _)).cs
            | exact hX13.drew.cs
            | exact hX13.cs)
          (first
            | (go_at_call 18; refine (HCE.out A6 c6 _ Q2.out HSL.out HS2.out (hown6.seen hb6)).mono ?_; rintro e w7 ⟨rfl, hb7⟩; have hX7 := (hX13.below hb6).below hb7)
            | (refine step_appQ rfl _ _ rfl _ l [⟨xa, pa, xb, pb⟩] _ rfl (hown4.alloc _) _ 1 _ (l.length + 1) rfl rfl hrow1 (news_one (CBox.new w4 _ _)) rfl hm63 hby2 (below_alQ hb4 hb4.size _) ?_; intro A6 c6 w6' hown6 hg6 hb6)
            | (refine step_appQ rfl _ _ rfl _ l [⟨xa, pa, xb, pb⟩] _ rfl hown4 _ 1 _ (l.length + 1) rfl rfl hrow1 (news_one (CBox.kept (qp_second w13 _ _) hg4 (fun e => Nat.succ_ne_self _ (Option.some.inj e)))) rfl hm63 hby2 hb4 ?_; intro A6 c6 w6' hown6 hg6 hb6)
            | (refine step_appQ rfl _ _ rfl _ l [⟨xa, pa, xb, pb⟩] _ rfl hown4 _ 1 _ (l.length + 1) rfl rfl hrow1 (news_one (CBox.kept (qp_first w13 _ _) hg4 (fun e => Nat.succ_ne_self _ (Option.some.inj e).symm))) rfl hm63 hby2 hb4 ?_; intro A6 c6 w6' hown6 hg6 hb6)
            | (refine step_appQ rfl _ _ rfl _ [] l csl rfl (OwnQ.none (World.alloc_heap_new w13 _) (Nat.le_refl _)) A l.length c l.length rfl rfl rowl (newl _ (below_alQ hb0 (Nat.le_refl _) _).drew) (Nat.zero_add _) h63 hby1 (below_alQ hb0 (Nat.le_refl _) _).drew ?_; intro A4 c4 w4 hown4 hg4 hb4)
            | (refine step_appQ rfl _ _ rfl _ [] l csl rfl (OwnQ.none (qp_first w13 _ _) (Nat.le_refl _)) A l.length c l.length rfl rfl rowl (newl _ (below_alQ (below_alQ hb0 (Nat.le_refl _) _) (below_alQ hb0 (Nat.le_refl _) _).size _).drew) (Nat.zero_add _) h63 hby1 (below_alQ (below_alQ hb0 (Nat.le_refl _) _) (below_alQ hb0 (Nat.le_refl _) _).size _).drew ?_; intro A4 c4 w4 hown4 hg4 hb4)
            | (refine step_appQ rfl _ _ rfl _ [] l csl rfl (OwnQ.none (qp_second w13 _ _) (Nat.le_succ _)) A l.length c l.length rfl rfl rowl (newl _ (below_alQ (below_alQ hb0 (Nat.le_refl _) _) (below_alQ hb0 (Nat.le_refl _) _).size _).drew) (Nat.zero_add _) h63 hby1 (below_alQ (below_alQ hb0 (Nat.le_refl _) _) (below_alQ hb0 (Nat.le_refl _) _).size _).drew ?_; intro A4 c4 w4 hown4 hg4 hb4))
        all_goals
          go_wp2_with fail
          go_meet
          exact ⟨rfl, Lib.hid hX7⟩
      case rest =>
      obtain ⟨rfl, HX14⟩ := hcut
      clear hX13 csl rowl newl hrow1 hb0 hna h63 hm63 hby1 hby2 HCE
      go_wp2_with fail
      refine (HCU.out _).mono ?_
      rintro e w15 ⟨rfl, rfl⟩
      go_wp2_with fail
      refine (HCV.out _).mono ?_
      rintro e w16 ⟨rfl, rfl⟩
      have hba := HBA.out
      have hbe := HBE.out
      have g1 : (0 : Int) ≤ fa := hba.1
      have g2 : fa ≤ (63 : Int) := hba.2
      have g3 : fe ≤ (63 : Int) := hbe.2
      go_wp2_with fail
      go_ret
      exact ⟨rfl, HX14.out.bel⟩
end Go.Proofs.Ytnnjfiknfmjliaa
