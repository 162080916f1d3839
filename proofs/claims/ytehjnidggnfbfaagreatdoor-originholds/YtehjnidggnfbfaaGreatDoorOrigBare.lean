/- The contracts of origin's bare, Same and defaultPort. -/
import Derived.Test.YtehjnidggnfbfaaGreatDoorOrigBox
import Derived.Deep.RegionHeld3
namespace Go.Proofs.YtehjnidggnfbfaaGreatDoor
open Go.RowKit
open Go.Maps Go.WideMaps

set_option maxHeartbeats 1000000 in
theorem bare_any (o : Orig) (w : World) : Calls Tryz.prog 27 #[origV o] w fun e w' => e = .returned (origV (bareO o)) ∧ Below w.heap.size w w' := by
  have hb0 : ∀ x : Orig, Below w.heap.size w ((w.alloc (.cells (oCells o) 29)).alloc (.cells (oCells x) 29)) := fun x => ((Below.refl _ w).alloc (Nat.le_refl _) _).alloc (by simp) _
  have q0 : ∀ x : Orig, OBox ((w.alloc (.cells (oCells o) 29)).alloc (.cells (oCells x) 29)) (w.heap.size + 1) x := fun x => by
    have := OBox.new (w.alloc (.cells (oCells o) 29)) x
    simpa using this
  have HB := Lib.hid hb0
  have HQ := Lib.hid q0
  clear hb0 q0
  cases ho : o.op with
  | true =>
    have hbo : bareO o = opaq o.id := by unfold bareO; rw [ho]; rfl
    rw [hbo]
    unfold origV
    unfold oCells at HB HQ ⊢
    rw [ho] at HB HQ ⊢
    clear hbo ho
    go_enter Tryz.func27, Tryz.ntmps27
    go_wp2_with fail
    exact bodyPost_ret (results_orig rfl _ _ rfl (HQ.out (opaq o.id))) rfl ⟨rfl, HB.out (opaq o.id)⟩
  | false =>
    have hbo : bareO o = ⟨false, 0, o.scheme, o.host, o.port⟩ := by unfold bareO; rw [ho]; rfl
    rw [hbo]
    unfold origV
    unfold oCells at HB HQ ⊢
    rw [ho] at HB HQ ⊢
    clear hbo ho
    go_enter Tryz.func27, Tryz.ntmps27
    go_wp2_with fail
    exact bodyPost_ret (results_orig rfl _ _ rfl (HQ.out ⟨false, 0, o.scheme, o.host, o.port⟩)) rfl ⟨rfl, HB.out ⟨false, 0, o.scheme, o.host, o.port⟩⟩

/-- What the calls of Same, and of what calls it, ask of the world: two origins' blocks. -/
structure TwoO (w0 : World) (A B : Nat) (a b : Orig) (W : World) : Prop where
  bel : Below w0.heap.size w0 W
  x : OBox W A a
  y : OBox W B b
theorem TwoO.below {w0 : World} {A B : Nat} {a b : Orig} {W W' : World} (hb : Below W.heap.size W W') (h : TwoO w0 A B a b W) : TwoO w0 A B a b W' := ⟨below_on h.bel hb, h.x.keep hb, h.y.keep hb⟩
theorem TwoO.drew {w0 : World} {A B : Nat} {a b : Orig} {W : World} (h : TwoO w0 A B a b W) : TwoO w0 A B a b W.drew := ⟨h.bel.drew, h.x, h.y⟩
theorem TwoO.all {w0 : World} {A B : Nat} {a b : Orig} {W : World} (h : TwoO w0 A B a b W) : W.cell? ⟨A, 0, none⟩ = some (.bool a.op) ∧ W.cell? ⟨A, 1, none⟩ = some (.int .i64 a.id) ∧ W.cell? ⟨A, 2, none⟩ = some (.string (bA a.scheme)) ∧ W.cell? ⟨A, 3, none⟩ = some (.string (bA a.host.name)) ∧ W.cell? ⟨A, 4, none⟩ = some (.bool a.host.v4) ∧ W.cell? ⟨A, 5, none⟩ = some (.int .u32 a.host.addr) ∧ W.cell? ⟨A, 6, none⟩ = some (.int .i64 a.port) ∧
      W.cell? ⟨B, 0, none⟩ = some (.bool b.op) ∧ W.cell? ⟨B, 1, none⟩ = some (.int .i64 b.id) ∧ W.cell? ⟨B, 2, none⟩ = some (.string (bA b.scheme)) ∧ W.cell? ⟨B, 3, none⟩ = some (.string (bA b.host.name)) ∧ W.cell? ⟨B, 4, none⟩ = some (.bool b.host.v4) ∧ W.cell? ⟨B, 5, none⟩ = some (.int .u32 b.host.addr) ∧ W.cell? ⟨B, 6, none⟩ = some (.int .i64 b.port) ∧ TwoO w0 A B a b W :=
  ⟨h.x.c0, h.x.c1, h.x.c2, h.x.c3, h.x.c4, h.x.c5, h.x.c6, h.y.c0, h.y.c1, h.y.c2, h.y.c3, h.y.c4, h.y.c5, h.y.c6, h⟩

set_option maxHeartbeats 2000000 in
theorem same_any (a b : Orig) (w : World) : Calls Tryz.prog 11 #[origV a, origV b] w fun e w' => e = .returned (.bool (sameO a b)) ∧ Below w.heap.size w w' := by
  have h0 : TwoO w w.heap.size (w.heap.size + 1) a b ((w.alloc (.cells (oCells a) 29)).alloc (.cells (oCells b) 29)) :=
    ⟨((Below.refl _ w).alloc (Nat.le_refl _) _).alloc (by simp) _, (OBox.new w a).alloc _, by have := OBox.new (w.alloc (.cells (oCells a) 29)) b; simpa using this⟩
  have heq : ∀ W : World, (Op.equalIn 10000 29 (origV (bareO a)) (origV (bareO b))).run Tryz.prog W = .ok (sameO a b) W := eqIn_orig _ _
  obtain ⟨r, hr⟩ : ∃ r, sameO a b = r := ⟨_, rfl⟩
  rw [hr] at heq ⊢
  have B1 := Lib.hid (fun W => bare_any a W)
  have B2 := Lib.hid (fun W => bare_any b W)
  obtain ⟨a', ha'⟩ : ∃ a', bareO a = a' := ⟨_, rfl⟩
  obtain ⟨b', hb'⟩ : ∃ b', bareO b = b' := ⟨_, rfl⟩
  rw [ha', hb'] at heq
  rw [ha'] at B1
  rw [hb'] at B2
  clear hr ha' hb'
  unfold origV
  unfold oCells at h0 ⊢
  unfold origV oCells at heq
  unfold origV oCells at B1 B2
  have hR := Lib.hid h0
  clear h0
  go_enter Tryz.func11, Tryz.ntmps11
  go_wp2_with fail
  have hR1 := hR.out
  go_region_held3 (fun w' => w'.cell? ⟨w.heap.size, 0, none⟩ = some (.bool a.op) ∧ w'.cell? ⟨w.heap.size, 1, none⟩ = some (.int .i64 a.id) ∧ w'.cell? ⟨w.heap.size, 2, none⟩ = some (.string (bA a.scheme)) ∧ w'.cell? ⟨w.heap.size, 3, none⟩ = some (.string (bA a.host.name)) ∧ w'.cell? ⟨w.heap.size, 4, none⟩ = some (.bool a.host.v4) ∧ w'.cell? ⟨w.heap.size, 5, none⟩ = some (.int .u32 a.host.addr) ∧ w'.cell? ⟨w.heap.size, 6, none⟩ = some (.int .i64 a.port) ∧
      w'.cell? ⟨w.heap.size + 1, 0, none⟩ = some (.bool b.op) ∧ w'.cell? ⟨w.heap.size + 1, 1, none⟩ = some (.int .i64 b.id) ∧ w'.cell? ⟨w.heap.size + 1, 2, none⟩ = some (.string (bA b.scheme)) ∧ w'.cell? ⟨w.heap.size + 1, 3, none⟩ = some (.string (bA b.host.name)) ∧ w'.cell? ⟨w.heap.size + 1, 4, none⟩ = some (.bool b.host.v4) ∧ w'.cell? ⟨w.heap.size + 1, 5, none⟩ = some (.int .u32 b.host.addr) ∧ w'.cell? ⟨w.heap.size + 1, 6, none⟩ = some (.int .i64 b.port) ∧ TwoO w w.heap.size (w.heap.size + 1) a b w')
    (first
      | exact hR1.all
      | exact hR1.drew.all
      | exact hR2.all
      | exact hR3.all)
    (first
      | (go_at_call 27; refine (B1.out _).mono ?_; clear B1; rintro e w2 ⟨rfl, hb2⟩; have hR2 := TwoO.below hb2 hR1.drew)
      | (go_at_call 27; refine (B2.out _).mono ?_; clear B2; rintro e w3 ⟨rfl, hb3⟩; have hR3 := TwoO.below hb3 hR2))
  go_wp2_with fail
  go_ret
  exact ⟨rfl, hR3.bel⟩
end Go.Proofs.YtehjnidggnfbfaaGreatDoor
