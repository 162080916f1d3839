/- The contract of the document's Frames. -/
import Derived.Test.YtinjkpbpkedfnaaGreatDoorCmRef8
import Derived.Test.YtinjkpbpkedfnaaGreatDoorPol
namespace Go.Proofs.YtinjkpbpkedfnaaGreatDoor
open Go.RowKit

/-- A list of origins that lies somewhere. -/
def SeenOs (w : World) (A : Option Addr) (l : List Orig) : Prop := 0 < l.length → ∃ g q, A = some ⟨g, q, none⟩ ∧ g < w.heap.size ∧ ∀ i (h : i < l.length), ∀ j, j < 7 → w.cell? ⟨g, q + i * 7 + j, none⟩ = (oCells l[i])[j]?
theorem SeenOs.below {w w' : World} {A : Option Addr} {l : List Orig} (h : SeenOs w A l) (hb : Below w.heap.size w w') : SeenOs w' A l := fun hn => by
  obtain ⟨g, q, e, hg, hc⟩ := h hn
  exact ⟨g, q, e, Nat.lt_of_lt_of_le hg hb.size, fun i hi j hj => (hb.cell (p := ⟨g, q + i * 7 + j, none⟩) hg).trans (hc i hi j hj)⟩
theorem SeenOs.nil (w : World) (A : Option Addr) : SeenOs w A [] := fun h => absurd h (by simp)
theorem SeenOs.at {w : World} {g q : Nat} {l : List Orig} (h : SeenOs w (some ⟨g, q, none⟩) l) (i : Nat) (hi : i < l.length) {o : Orig} (ho : l[i] = o) :
    w.cell? ⟨g, q + i * 7, none⟩ = some (.bool o.op) ∧ w.cell? ⟨g, q + i * 7 + 1, none⟩ = some (.int .i64 o.id) ∧ w.cell? ⟨g, q + i * 7 + 2, none⟩ = some (.string (bA o.scheme)) ∧ w.cell? ⟨g, q + i * 7 + 3, none⟩ = some (.string (bA o.host.name)) ∧ w.cell? ⟨g, q + i * 7 + 4, none⟩ = some (.bool o.host.v4) ∧ w.cell? ⟨g, q + i * 7 + 5, none⟩ = some (.int .u32 o.host.addr) ∧ w.cell? ⟨g, q + i * 7 + 6, none⟩ = some (.int .i64 o.port) := by
  subst ho
  obtain ⟨g', q', e, _, hc⟩ := h (by omega)
  cases e
  exact ⟨hc i hi 0 (by omega), hc i hi 1 (by omega), hc i hi 2 (by omega), hc i hi 3 (by omega), hc i hi 4 (by omega), hc i hi 5 (by omega), hc i hi 6 (by omega)⟩
/-- What stands while ancestors are tried. -/
structure RdyF (w0 : World) (B C : Nat) (p : Cs.Pol) (A1 : Option Addr) (c1 : Nat) (A2 : Option Addr) (c2 : Nat) (me : Orig) (A : Option Addr) (l : List Orig) (W : World) : Prop where
  bel : Below w0.heap.size w0 W
  b : CBox W B 36 (polC p A1 c1 A2 c2)
  y : OBox W C me
  t : SeenT W A1 p.anc
  l : SeenOs W A l
  tab : Tab W
theorem RdyF.below {w0 : World} {B C : Nat} {p : Cs.Pol} {A1 : Option Addr} {c1 : Nat} {A2 : Option Addr} {c2 : Nat} {me : Orig} {A : Option Addr} {l : List Orig} {W W' : World} (h : RdyF w0 B C p A1 c1 A2 c2 me A l W) (hb : Below W.heap.size W W') : RdyF w0 B C p A1 c1 A2 c2 me A l W' :=
  ⟨Below.onto h.bel hb, h.b.keep hb, h.y.keep hb, h.t.below hb, h.l.below hb, tab_below h.tab hb⟩
theorem RdyF.c2 {w0 : World} {B C : Nat} {p : Cs.Pol} {A1 : Option Addr} {c1 : Nat} {A2 : Option Addr} {c2 : Nat} {me : Orig} {A : Option Addr} {l : List Orig} {W : World} (h : RdyF w0 B C p A1 c1 A2 c2 me A l W) : W.cell? ⟨B, 0, none⟩ = some (.bool p.hasAnc) ∧ W.cell? ⟨B, 1, none⟩ = some (.slice A1 p.anc.length c1) := ⟨h.b.c 0, h.b.c 1⟩
theorem RdyF.drew {w0 : World} {B C : Nat} {p : Cs.Pol} {A1 : Option Addr} {c1 : Nat} {A2 : Option Addr} {c2 : Nat} {me : Orig} {A : Option Addr} {l : List Orig} {W : World} (h : RdyF w0 B C p A1 c1 A2 c2 me A l W) : RdyF w0 B C p A1 c1 A2 c2 me A l W.drew := h.below (Below.refl _ _).drew
theorem RdyF.cs {w0 : World} {B C : Nat} {xa : Bool} {pa : List (List UInt8)} {xb : Bool} {pb : List (List UInt8)} {A1 : Option Addr} {c1 : Nat} {A2 : Option Addr} {c2 : Nat} {me : Orig} {g q k : Nat} {l : List Orig} {o : Orig} {W : World} (hk : k < l.length) (ho : l[k] = o) (h : RdyF w0 B C ⟨xa, pa, xb, pb⟩ A1 c1 A2 c2 me (some ⟨g, q, none⟩) l W) :
    W.cell? ⟨B, 1, none⟩ = some (.slice A1 pa.length c1) ∧ W.cell? ⟨g, q + k * 7, none⟩ = some (.bool o.op) ∧ W.cell? ⟨g, q + k * 7 + 1, none⟩ = some (.int .i64 o.id) ∧ W.cell? ⟨g, q + k * 7 + 2, none⟩ = some (.string (bA o.scheme)) ∧ W.cell? ⟨g, q + k * 7 + 3, none⟩ = some (.string (bA o.host.name)) ∧ W.cell? ⟨g, q + k * 7 + 4, none⟩ = some (.bool o.host.v4) ∧ W.cell? ⟨g, q + k * 7 + 5, none⟩ = some (.int .u32 o.host.addr) ∧ W.cell? ⟨g, q + k * 7 + 6, none⟩ = some (.int .i64 o.port) ∧
      W.cell? ⟨C, 0, none⟩ = some (.bool me.op) ∧ W.cell? ⟨C, 1, none⟩ = some (.int .i64 me.id) ∧ W.cell? ⟨C, 2, none⟩ = some (.string (bA me.scheme)) ∧ W.cell? ⟨C, 3, none⟩ = some (.string (bA me.host.name)) ∧ W.cell? ⟨C, 4, none⟩ = some (.bool me.host.v4) ∧ W.cell? ⟨C, 5, none⟩ = some (.int .u32 me.host.addr) ∧ W.cell? ⟨C, 6, none⟩ = some (.int .i64 me.port) ∧ RdyF w0 B C ⟨xa, pa, xb, pb⟩ A1 c1 A2 c2 me (some ⟨g, q, none⟩) l W := by
  obtain ⟨z0, z1, z2, z3, z4, z5, z6⟩ := h.l.at k hk ho
  exact ⟨h.c2.2, z0, z1, z2, z3, z4, z5, z6, h.y.c0, h.y.c1, h.y.c2, h.y.c3, h.y.c4, h.y.c5, h.y.c6, h⟩
set_option maxHeartbeats 8000000 in
set_option maxRecDepth 20000 in
theorem rframes_any (p : Cs.Pol) (A1 : Option Addr) (c1 : Nat) (A2 : Option Addr) (c2 : Nat) (me : Orig) (A : Option Addr) (c : Nat) (l : List Orig) (w : World) (hT : Tab w) (hF : ∀ o ∈ l, FitO o) (hl : l.length ≤ 100000000) (hpl : p.anc.length ≤ 100000000) (hpe : ∀ t ∈ p.anc, t.length ≤ 100000000) (hp : SeenT w A1 p.anc) (hA : SeenOs w A l) :
    Calls Tryz.prog 21 #[.agg (polC p A1 c1 A2 c2), origV me, .slice A l.length c] w fun e w' => e = .returned (.bool (Cm.framesB p.hasAnc p.anc me l)) ∧ Below w.heap.size w w' := by
  have hb0 : Below w.heap.size w ((w.alloc (.cells (polC p A1 c1 A2 c2) 36)).alloc (.cells (oCells me) 31)) := ((Below.refl _ w).alloc (Nat.le_refl _) _).alloc (by simp) _
  have h0 : RdyF w w.heap.size (w.heap.size + 1) p A1 c1 A2 c2 me A l ((w.alloc (.cells (polC p A1 c1 A2 c2) 36)).alloc (.cells (oCells me) 31)) :=
    ⟨hb0, (CBox.new w _ _).alloc _, by have := OBox.new (w.alloc (.cells (polC p A1 c1 A2 c2) 36)) me; simpa using this, hp.below hb0, hA.below hb0, tab_below hT hb0⟩
  have HX := Lib.hid h0
  have hal : Cm.framesB p.hasAnc p.anc me l = (!p.hasAnc || l.all fun o => Cm.anyB p.anc o me) := rfl
  have HAN := Lib.hid (fun o (h : o ∈ l) W hW hS => rany_any A1 c1 p.anc o me W hW (hF o h) hpl hpe hS)
  rw [hal]
  clear hb0 h0 hal hT hF hpl hpe hp hA
  obtain ⟨xa, pa, xb, pb⟩ := p
  unfold polC origV at *
  unfold oCells at *
  dsimp only at *
  cases xa with
  | false =>
    go_enter Tryz.func21, Tryz.ntmps21
    obtain ⟨w1, hw1⟩ : ∃ W, ((w.alloc (.cells #[.bool false, .slice A1 pa.length c1, .bool xb, .slice A2 pb.length c2] 36)).alloc (.cells #[.bool me.op, .int .i64 me.id, .string (bA me.scheme), .string (bA me.host.name), .bool me.host.v4, .int .u32 me.host.addr, .int .i64 me.port] 31)) = W := ⟨_, rfl⟩
    have HX1 : Hid (RdyF w w.heap.size (w.heap.size + 1) ⟨false, pa, xb, pb⟩ A1 c1 A2 c2 me A l w1) := Lib.hid (by rw [← hw1]; exact HX.out)
    go_wp2_with fail
    clear hw1 HX HAN
    go_loopw [7] (fun i wr => i = .int .i64 0 ∧ wr = w1) (fun i _ => 1)
    case atStart => exact ⟨rfl, rfl⟩
    case round =>
      obtain ⟨rfl, rfl⟩ := hrel
      have p0 : wr.cell? ⟨w.heap.size, 0, none⟩ = some (.bool false) := HX1.out.c2.1
      have hbel := HX1.out.bel
      by_cases hlt : (0 : Int) < (l.length : Int)
      · go_wp2_with fail
        go_ret
        exact ⟨rfl, hbel⟩
      · go_wp2_with fail
        go_ret
        exact ⟨rfl, hbel⟩
  | true =>
    go_enter Tryz.func21, Tryz.ntmps21
    obtain ⟨w1, hw1⟩ : ∃ W, ((w.alloc (.cells #[.bool true, .slice A1 pa.length c1, .bool xb, .slice A2 pb.length c2] 36)).alloc (.cells #[.bool me.op, .int .i64 me.id, .string (bA me.scheme), .string (bA me.host.name), .bool me.host.v4, .int .u32 me.host.addr, .int .i64 me.port] 31)) = W := ⟨_, rfl⟩
    have HX1 : Hid (RdyF w w.heap.size (w.heap.size + 1) ⟨true, pa, xb, pb⟩ A1 c1 A2 c2 me A l w1) := Lib.hid (by rw [← hw1]; exact HX.out)
    go_wp2_with fail
    clear hw1 HX
    obtain ⟨B, hB⟩ : ∃ A, w.heap.size = A := ⟨_, rfl⟩
    obtain ⟨C, hC⟩ : ∃ C, B + 1 = C := ⟨_, rfl⟩
    simp only [hB, hC] at HX1 ⊢
    clear hB hC
    go_loopw [7] (fun i wr => ∃ k : Nat, k ≤ l.length ∧ i = .int .i64 k ∧ Hid (((l.take k).all fun o => Cm.anyB pa o me) = true) ∧ Hid (RdyF w B C ⟨true, pa, xb, pb⟩ A1 c1 A2 c2 me A l wr)) (fun i _ => l.length - (intOf i).toNat)
    case atStart => exact ⟨0, by omega, rfl, Lib.hid rfl, HX1⟩
    case round =>
      obtain ⟨k, hk, rfl, hall, hrd⟩ := hrel
      have p0 : wr.cell? ⟨B, 0, none⟩ = some (.bool true) := hrd.out.c2.1
      have p1 : wr.cell? ⟨B, 1, none⟩ = some (.slice A1 pa.length c1) := hrd.out.c2.2
      by_cases hlt : k < l.length
      · obtain ⟨g, q, rfl, hg, hc⟩ := hrd.out.l (by omega)
        have hmem : l[k] ∈ l := List.getElem_mem hlt
        have han := fun W hW hS => HAN.out l[k] hmem W hW hS
        have hmiss : Cm.anyB pa l[k] me = false → (l.all fun o => Cm.anyB pa o me) = false := fun h => List.all_eq_false.2 ⟨_, hmem, by rw [h]; simp⟩
        have hnext : Cm.anyB pa l[k] me = true → ((l.take (k + 1)).all fun o => Cm.anyB pa o me) = true := fun h => by rw [List.take_succ_eq_append_getElem hlt, List.all_append, hall.out]; simp [h]
        obtain ⟨o, ho⟩ : ∃ o, l[k] = o := ⟨_, rfl⟩
        rw [ho] at han hmiss hnext
        have HOO := Lib.hid ho
        obtain ⟨m, hm⟩ : ∃ b, Cm.anyB pa o me = b := ⟨_, rfl⟩
        rw [hm] at han hmiss hnext
        have HA1 := Lib.hid han; have HF := Lib.hid hmiss; have HN := Lib.hid hnext
        have hR1 := hrd.out
        clear hc hmem han hmiss hnext ho hm
        go_wp2_with fail
        clear p0 p1
        go_region_held3 (fun w' => w'.cell? ⟨B, 1, none⟩ = some (.slice A1 pa.length c1) ∧ w'.cell? ⟨g, q + k * 7, none⟩ = some (.bool o.op) ∧ w'.cell? ⟨g, q + k * 7 + 1, none⟩ = some (.int .i64 o.id) ∧ w'.cell? ⟨g, q + k * 7 + 2, none⟩ = some (.string (bA o.scheme)) ∧ w'.cell? ⟨g, q + k * 7 + 3, none⟩ = some (.string (bA o.host.name)) ∧ w'.cell? ⟨g, q + k * 7 + 4, none⟩ = some (.bool o.host.v4) ∧ w'.cell? ⟨g, q + k * 7 + 5, none⟩ = some (.int .u32 o.host.addr) ∧ w'.cell? ⟨g, q + k * 7 + 6, none⟩ = some (.int .i64 o.port) ∧
            w'.cell? ⟨C, 0, none⟩ = some (.bool me.op) ∧ w'.cell? ⟨C, 1, none⟩ = some (.int .i64 me.id) ∧ w'.cell? ⟨C, 2, none⟩ = some (.string (bA me.scheme)) ∧ w'.cell? ⟨C, 3, none⟩ = some (.string (bA me.host.name)) ∧ w'.cell? ⟨C, 4, none⟩ = some (.bool me.host.v4) ∧ w'.cell? ⟨C, 5, none⟩ = some (.int .u32 me.host.addr) ∧ w'.cell? ⟨C, 6, none⟩ = some (.int .i64 me.port) ∧ RdyF w B C ⟨true, pa, xb, pb⟩ A1 c1 A2 c2 me (some ⟨g, q, none⟩) l w')
          (first
            | exact hR2.cs hlt HOO.out
            | exact hR1.drew.cs hlt HOO.out
            | exact hR1.cs hlt HOO.out)
          (first
            | (go_at_call 19; refine (HA1.out _ hR1.drew.tab hR1.drew.t).mono ?_; rintro e w2 ⟨rfl, hb2⟩; have hR2 := RdyF.below hR1.drew hb2))
        have HR2 := Lib.hid hR2
        cases m with
        | false =>
          have HFF := Lib.hid (HF.out rfl)
          go_wp2_with fail
          go_ret
          exact ⟨by rw [HFF.out]; rfl, HR2.out.bel⟩
        | true =>
          have HNN := Lib.hid (HN.out rfl)
          go_wp2_with fail
          exact ⟨⟨k + 1, by omega, by go_num, HNN, HR2⟩, by simp [intOf]; omega⟩
      · obtain rfl : k = l.length := by omega
        have hn := hall.out
        rw [List.take_of_length_le (Nat.le_refl _)] at hn
        have HN := Lib.hid hn
        clear hall hn
        go_wp2_with fail
        go_ret
        exact ⟨by rw [HN.out]; rfl, hrd.out.bel⟩
end Go.Proofs.YtinjkpbpkedfnaaGreatDoor
