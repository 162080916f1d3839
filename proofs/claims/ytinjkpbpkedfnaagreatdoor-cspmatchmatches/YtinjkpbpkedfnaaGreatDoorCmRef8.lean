/- The contract of the document's Any. -/
import Derived.Test.YtinjkpbpkedfnaaGreatDoorCmRef7
import Derived.Test.YtinjkpbpkedfnaaGreatDoorCmRef4
namespace Go.Proofs.YtinjkpbpkedfnaaGreatDoor
open Go.RowKit
open Urp (bef aft hasB No)

namespace Cm
theorem hostS_len (sch r : List UInt8) : (hostS sch r).host.length ≤ r.length := by
  have h1 := bef_len 58 (bef 47 r)
  have h2 := bef_len 47 r
  have h : (hostS sch r).host = bef 58 (bef 47 r) ∨ (hostS sch r).host = [] := by
    unfold hostS
    simp only []
    split
    · split
      · split
        · exact .inl rfl
        · split
          · exact .inl rfl
          · exact .inr rfl
      · exact .inl rfl
    · exact .inr rfl
  rcases h with h | h
  · rw [h]; omega
  · rw [h]; simp
theorem parse_len (t : List UInt8) : (parse t).host.length ≤ t.length := by
  have hl : (Oct.lower t).length = t.length := Oct.lower_length t
  unfold parse parseN
  split
  · simp
  · split
    · simp
    · split
      · simp
      · refine Nat.le_trans (hostS_len _ _) ?_
        rw [← hl]
        split
        · rw [List.length_drop]; omega
        · exact Nat.le_refl _
end Cm
/-- What stands while texts are tried. -/
structure RdyA (w0 : World) (B C : Nat) (o me : Orig) (A : Option Addr) (l : List (List UInt8)) (W : World) : Prop where
  bel : Below w0.heap.size w0 W
  x : OBox W B o
  y : OBox W C me
  l : SeenT W A l
  tab : Tab W
theorem RdyA.below {w0 : World} {B C : Nat} {o me : Orig} {A : Option Addr} {l : List (List UInt8)} {W W' : World} (h : RdyA w0 B C o me A l W) (hb : Below W.heap.size W W') : RdyA w0 B C o me A l W' := ⟨Below.onto h.bel hb, h.x.keep hb, h.y.keep hb, h.l.below hb, tab_below h.tab hb⟩
theorem RdyA.drew {w0 : World} {B C : Nat} {o me : Orig} {A : Option Addr} {l : List (List UInt8)} {W : World} (h : RdyA w0 B C o me A l W) : RdyA w0 B C o me A l W.drew := h.below (Below.refl _ _).drew
theorem RdyA.cs {w0 : World} {B C : Nat} {o me : Orig} {g q k : Nat} {l : List (List UInt8)} {t : List UInt8} {W : World} (hk : k < l.length) (ht : l[k] = t) (h : RdyA w0 B C o me (some ⟨g, q, none⟩) l W) :
    W.cell? ⟨g, q + k, none⟩ = some (.string (bA t)) ∧ W.cell? ⟨B, 0, none⟩ = some (.bool o.op) ∧ W.cell? ⟨B, 1, none⟩ = some (.int .i64 o.id) ∧ W.cell? ⟨B, 2, none⟩ = some (.string (bA o.scheme)) ∧ W.cell? ⟨B, 3, none⟩ = some (.string (bA o.host.name)) ∧ W.cell? ⟨B, 4, none⟩ = some (.bool o.host.v4) ∧ W.cell? ⟨B, 5, none⟩ = some (.int .u32 o.host.addr) ∧ W.cell? ⟨B, 6, none⟩ = some (.int .i64 o.port) ∧
      W.cell? ⟨C, 0, none⟩ = some (.bool me.op) ∧ W.cell? ⟨C, 1, none⟩ = some (.int .i64 me.id) ∧ W.cell? ⟨C, 2, none⟩ = some (.string (bA me.scheme)) ∧ W.cell? ⟨C, 3, none⟩ = some (.string (bA me.host.name)) ∧ W.cell? ⟨C, 4, none⟩ = some (.bool me.host.v4) ∧ W.cell? ⟨C, 5, none⟩ = some (.int .u32 me.host.addr) ∧ W.cell? ⟨C, 6, none⟩ = some (.int .i64 me.port) ∧ RdyA w0 B C o me (some ⟨g, q, none⟩) l W := by
  obtain ⟨g', q', e, _, hc⟩ := h.l (by omega)
  cases e
  have := hc k hk
  rw [ht] at this
  exact ⟨this, h.x.c0, h.x.c1, h.x.c2, h.x.c3, h.x.c4, h.x.c5, h.x.c6, h.y.c0, h.y.c1, h.y.c2, h.y.c3, h.y.c4, h.y.c5, h.y.c6, h⟩
set_option maxHeartbeats 8000000 in
set_option maxRecDepth 20000 in
theorem rany_any (A : Option Addr) (c : Nat) (l : List (List UInt8)) (o me : Orig) (w : World) (hT : Tab w) (hF : FitO o) (hl : l.length ≤ 100000000) (hle : ∀ t ∈ l, t.length ≤ 100000000) (hA : SeenT w A l) :
    Calls Tryz.prog 19 #[.slice A l.length c, origV o, origV me] w fun e w' => e = .returned (.bool (Cm.anyB l o me)) ∧ Below w.heap.size w w' := by
  have hm0 := Boxes2.mk0 w o me
  have h0 : RdyA w w.heap.size (w.heap.size + 1) o me A l ((w.alloc (.cells (oCells o) 31)).alloc (.cells (oCells me) 31)) := ⟨hm0.bel, hm0.x, hm0.y, hA.below hm0.bel, tab_below hT hm0.bel⟩
  have HX := Lib.hid h0
  have hpa := fun t (h : t ∈ l) W => rcmParse_any t W (hle t h)
  have hma := fun t (h : t ∈ l) W hW => rmatch_any (Cm.parse t) o me W hW hF (Nat.le_trans (Cm.parse_len t) (hle t h))
  have HP := Lib.hid hpa; have HM := Lib.hid hma
  have hany : Cm.anyB l o me = l.any fun t => Cm.matchB (Cm.parse t) o me := rfl
  rw [hany]
  clear hm0 h0 hpa hma hany hT hF hle hA
  unfold origV at *
  unfold oCells at *
  go_enter Tryz.func19, Tryz.ntmps19
  obtain ⟨w1, hw1⟩ : ∃ W, ((w.alloc (.cells #[.bool o.op, .int .i64 o.id, .string (bA o.scheme), .string (bA o.host.name), .bool o.host.v4, .int .u32 o.host.addr, .int .i64 o.port] 31)).alloc (.cells #[.bool me.op, .int .i64 me.id, .string (bA me.scheme), .string (bA me.host.name), .bool me.host.v4, .int .u32 me.host.addr, .int .i64 me.port] 31)) = W := ⟨_, rfl⟩
  have HX1 : Hid (RdyA w w.heap.size (w.heap.size + 1) o me A l w1) := Lib.hid (by rw [← hw1]; exact HX.out)
  go_wp2_with fail
  clear hw1 HX
  obtain ⟨B, hB⟩ : ∃ A, w.heap.size = A := ⟨_, rfl⟩
  obtain ⟨C, hC⟩ : ∃ C, B + 1 = C := ⟨_, rfl⟩
  simp only [hB, hC] at HX1 ⊢
  clear hB hC
  go_loopw [7] (fun i wr => ∃ k : Nat, k ≤ l.length ∧ i = .int .i64 k ∧ Hid (((l.take k).any fun t => Cm.matchB (Cm.parse t) o me) = false) ∧ Hid (RdyA w B C o me A l wr)) (fun i _ => l.length - (intOf i).toNat)
  case atStart => exact ⟨0, by omega, rfl, Lib.hid rfl, HX1⟩
  case round =>
    obtain ⟨k, hk, rfl, hno, hrd⟩ := hrel
    by_cases hlt : k < l.length
    · obtain ⟨g, q, rfl, hg, hc⟩ := hrd.out.l (by omega)
      have hmem : l[k] ∈ l := List.getElem_mem hlt
      have hp := HP.out l[k] hmem; have hmm := HM.out l[k] hmem
      have hfound : Cm.matchB (Cm.parse l[k]) o me = true → (l.any fun t => Cm.matchB (Cm.parse t) o me) = true := fun h => List.any_eq_true.2 ⟨_, hmem, h⟩
      have hnext : Cm.matchB (Cm.parse l[k]) o me = false → ((l.take (k + 1)).any fun t => Cm.matchB (Cm.parse t) o me) = false := fun h => by rw [List.take_succ_eq_append_getElem hlt, List.any_append, hno.out]; simp [h]
      obtain ⟨t, ht⟩ : ∃ t, l[k] = t := ⟨_, rfl⟩
      rw [ht] at hp hmm hfound hnext
      obtain ⟨sr, hsr⟩ : ∃ s, Cm.parse t = s := ⟨_, rfl⟩
      rw [hsr] at hp hmm hfound hnext
      obtain ⟨m, hm⟩ : ∃ b, Cm.matchB sr o me = b := ⟨_, rfl⟩
      rw [hm] at hmm hfound hnext
      unfold srcV srcC at hp hmm
      have HP1 := Lib.hid hp; have HM1 := Lib.hid hmm; have HF := Lib.hid hfound; have HN := Lib.hid hnext; have HTT := Lib.hid ht
      clear hc hmem hp hmm hfound hnext ht hsr hm
      have hR1 := hrd.out
      go_wp2_with fail
      go_region_held3 (fun w' => w'.cell? ⟨g, q + k, none⟩ = some (.string (bA t)) ∧ w'.cell? ⟨B, 0, none⟩ = some (.bool o.op) ∧ w'.cell? ⟨B, 1, none⟩ = some (.int .i64 o.id) ∧ w'.cell? ⟨B, 2, none⟩ = some (.string (bA o.scheme)) ∧ w'.cell? ⟨B, 3, none⟩ = some (.string (bA o.host.name)) ∧ w'.cell? ⟨B, 4, none⟩ = some (.bool o.host.v4) ∧ w'.cell? ⟨B, 5, none⟩ = some (.int .u32 o.host.addr) ∧ w'.cell? ⟨B, 6, none⟩ = some (.int .i64 o.port) ∧
          w'.cell? ⟨C, 0, none⟩ = some (.bool me.op) ∧ w'.cell? ⟨C, 1, none⟩ = some (.int .i64 me.id) ∧ w'.cell? ⟨C, 2, none⟩ = some (.string (bA me.scheme)) ∧ w'.cell? ⟨C, 3, none⟩ = some (.string (bA me.host.name)) ∧ w'.cell? ⟨C, 4, none⟩ = some (.bool me.host.v4) ∧ w'.cell? ⟨C, 5, none⟩ = some (.int .u32 me.host.addr) ∧ w'.cell? ⟨C, 6, none⟩ = some (.int .i64 me.port) ∧ RdyA w B C o me (some ⟨g, q, none⟩) l w')
        (first
          | exact hR3.cs hlt HTT.out
          | exact hR2.cs hlt HTT.out
          | exact hR1.drew.cs hlt HTT.out
          | exact hR1.cs hlt HTT.out)
        (first
          | (go_at_call 13; refine (HP1.out _).mono ?_; rintro e w2 ⟨rfl, hb2⟩; have hR2 := RdyA.below hR1.drew hb2)
          | (go_at_call 16; refine (HM1.out _ hR2.tab).mono ?_; rintro e w3 ⟨rfl, hb3⟩; have hR3 := RdyA.below hR2 hb3))
      cases m with
      | true =>
        have HFF := Lib.hid (HF.out rfl)
        go_wp2_with fail
        go_ret
        exact ⟨by rw [HFF.out]; rfl, hR3.bel⟩
      | false =>
        have HNN := Lib.hid (HN.out rfl)
        go_wp2_with fail
        exact ⟨⟨k + 1, by omega, by go_num, HNN, Lib.hid hR3⟩, by simp [intOf]; omega⟩
    · obtain rfl : k = l.length := by omega
      have hn := hno.out
      rw [List.take_of_length_le (Nat.le_refl _)] at hn
      have HN := Lib.hid hn
      clear hno hn
      go_wp2_with fail
      go_ret
      exact ⟨by rw [HN.out]; rfl, hrd.out.bel⟩
end Go.Proofs.YtinjkpbpkedfnaaGreatDoor
