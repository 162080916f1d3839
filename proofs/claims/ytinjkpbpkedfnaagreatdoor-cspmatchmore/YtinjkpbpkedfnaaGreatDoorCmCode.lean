/- The contracts of the program's Any and Frames. -/
import Derived.Test.YtinjkpbpkedfnaaGreatDoorCmCode8
import Derived.Test.YtinjkpbpkedfnaaGreatDoorCmFit
namespace Go.Proofs.YtinjkpbpkedfnaaGreatDoor
open Go.RowKit

/-- A list of one origin, laid anew. -/
theorem seen_one_org {w : World} {B : Nat} {o : Orig} (h : OBox w B o) : SeenOs w (some ⟨B, 0, none⟩) [o] := fun _ => by
  refine ⟨B, 0, rfl, h.lt, fun i hi j hj => ?_⟩
  have hi' : i < 1 := hi
  match i, hi' with
  | 0, _ =>
    have := h.c j
    simp only [Nat.zero_mul, Nat.zero_add]
    exact this
set_option maxHeartbeats 4000000 in
theorem cmAny_any (A : Option Addr) (c : Nat) (l : List (List UInt8)) (o me : Orig) (w : World) (hT : Tab w) (h8 : Tab8 w) (ho : FitM o) (hm : FitM me) (hl : l.length ≤ 10000) (hle : ∀ t ∈ l, t.length ≤ 10000) (hA : SeenT w A l) :
    Calls Tryz.prog 18 #[.slice A l.length c, origV o, origV me] w fun e w' => e = .returned (.bool (Cm.anyB l o me)) ∧ Below w.heap.size w w' := by
  have HX := Lib.hid (Boxes2.mk0 w o me)
  have hb0 := (Boxes2.mk0 w o me).bel
  have hb1 : ∀ x, Below w.heap.size w (((w.alloc (.cells (oCells o) 31)).alloc (.cells (oCells me) 31)).alloc x) := fun x => hb0.alloc hb0.size x
  have hcall := cmEach_any A c l (some ⟨w.heap.size + 1 + 1, 0, none⟩) 1 [o] me (((w.alloc (.cells (oCells o) 31)).alloc (.cells (oCells me) 31)).alloc (.cells (oCells o) 31)) (tab_below hT (hb1 _)) (h8.below (hb1 _)) hm (fun x hx => by rw [List.mem_singleton.1 hx]; exact ho) (by simp) hl hle (hA.below (hb1 _))
    (seen_one_org (by have := OBox.new ((w.alloc (.cells (oCells o) 31)).alloc (.cells (oCells me) 31)) o; simpa using this))
  have e1 : ([o].all fun o => Cm.anyB l o me) = Cm.anyB l o me := by simp
  rw [e1] at hcall
  obtain ⟨r, hr⟩ : ∃ r, Cm.anyB l o me = r := ⟨_, rfl⟩
  rw [hr] at hcall ⊢
  have HC := Lib.hid hcall; have HB := Lib.hid (hb1 (.cells (oCells o) 31))
  clear hcall hb0 hb1 e1 hr hT h8 ho hm hl hle hA
  unfold origV at *
  unfold oCells at *
  go_enter Tryz.func18, Tryz.ntmps18
  go_wp2_with fail
  refine HC.out.mono ?_
  rintro e w2 ⟨rfl, hb2⟩
  go_wp2_with fail
  go_ret
  exact ⟨rfl, Below.onto HB.out hb2⟩
set_option maxHeartbeats 4000000 in
theorem cmFrames_any (p : Cs.Pol) (A1 : Option Addr) (c1 : Nat) (A2 : Option Addr) (c2 : Nat) (me : Orig) (A : Option Addr) (c : Nat) (l : List Orig) (w : World) (hT : Tab w) (h8 : Tab8 w) (hm : FitM me) (hF : ∀ o ∈ l, FitM o) (hl : l.length ≤ 10000) (hpl : p.anc.length ≤ 10000) (hpe : ∀ t ∈ p.anc, t.length ≤ 10000) (hp : SeenT w A1 p.anc) (hA : SeenOs w A l) :
    Calls Tryz.prog 20 #[.agg (polC p A1 c1 A2 c2), origV me, .slice A l.length c] w fun e w' => e = .returned (.bool (Cm.framesB p.hasAnc p.anc me l)) ∧ Below w.heap.size w w' := by
  have hb0 : Below w.heap.size w ((w.alloc (.cells (polC p A1 c1 A2 c2) 36)).alloc (.cells (oCells me) 31)) := ((Below.refl _ w).alloc (Nat.le_refl _) _).alloc (by simp) _
  have hcall := cmEach_any A1 c1 p.anc A c l me ((w.alloc (.cells (polC p A1 c1 A2 c2) 36)).alloc (.cells (oCells me) 31)) (tab_below hT hb0) (h8.below hb0) hm hF hl hpl hpe (hp.below hb0) (hA.below hb0)
  have hal : Cm.framesB p.hasAnc p.anc me l = (!p.hasAnc || l.all fun o => Cm.anyB p.anc o me) := rfl
  rw [hal]
  obtain ⟨r, hr⟩ : ∃ r, (l.all fun o => Cm.anyB p.anc o me) = r := ⟨_, rfl⟩
  rw [hr] at hcall ⊢
  clear hal hr hT h8 hm hF hl hpl hpe hp hA
  obtain ⟨xa, pa, xb, pb⟩ := p
  unfold polC origV at *
  unfold oCells at *
  dsimp only at *
  have HC := Lib.hid hcall; have HB := Lib.hid hb0
  clear hcall hb0
  cases xa with
  | false =>
    go_enter Tryz.func20, Tryz.ntmps20
    go_wp2_with fail
    go_ret
    exact ⟨rfl, HB.out⟩
  | true =>
    go_enter Tryz.func20, Tryz.ntmps20
    go_wp2_with fail
    refine HC.out.mono ?_
    rintro e w2 ⟨rfl, hb2⟩
    go_wp2_with fail
    go_ret
    exact ⟨rfl, Below.onto HB.out hb2⟩
end Go.Proofs.YtinjkpbpkedfnaaGreatDoor
