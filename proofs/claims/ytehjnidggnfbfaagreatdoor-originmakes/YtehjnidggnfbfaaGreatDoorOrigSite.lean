/- The contracts of origin.Site and SameSite, of the statements' Small and of. -/
import Derived.Test.YtehjnidggnfbfaaGreatDoorOrigText
import Derived.Test.YtehjnidggnfbfaaGreatDoorOrigOf
namespace Go.Proofs.YtehjnidggnfbfaaGreatDoor
open Go.RowKit

/-- What the calls of Site ask of the suffixes. -/
structure Few (sx : List (List UInt8)) : Prop where
  len : sx.length ≤ 100
  each : ∀ s ∈ sx, s.length ≤ 1000

set_option maxHeartbeats 1000000 in
theorem osite_any (o : Orig) (A : Option Addr) (c : Nat) (sx : List (List UInt8)) (w : World) (hT : Tab w) (a0 : 0 ≤ o.host.addr) (a1 : o.host.addr ≤ 4294967295) (hn : o.host.name.length ≤ 1000) (hsx : Few sx) (hA : Seen w A sx) :
    Calls Tryz.prog 13 #[origV o, .slice A sx.length c] w fun e w' => e = .returned (.string (bA (ositeL o sx))) ∧ Below w.heap.size w w' := by
  have hb0 : Below w.heap.size w (w.alloc (.cells (oCells o) 29)) := (Below.refl _ w).alloc (Nat.le_refl _) _
  have HB := Lib.hid hb0
  unfold origV
  cases ho : o.op with
  | true =>
    have hte : ositeL o sx = [110, 117, 108, 108] := by unfold ositeL; rw [ho]; rfl
    rw [hte]
    clear hte hb0
    unfold oCells at HB ⊢
    rw [ho] at HB ⊢
    clear ho
    go_enter Tryz.func13, Tryz.ntmps13
    go_wp2_with fail
    go_ret
    exact ⟨rfl, HB.out⟩
  | false =>
    have hte : ositeL o sx = siteL o.host sx := by unfold ositeL; rw [ho]; rfl
    rw [hte]
    have HC := Lib.hid (site_any (bA o.host.name) o.host.v4 o.host.addr A c sx _ (hT.below hb0) a0 a1 (by rw [bA_size]; exact hn) (by have := hsx.len; omega) hsx.each (hA.below hb0))
    have e0 : (⟨(bA o.host.name).data.toList, o.host.v4, o.host.addr⟩ : Hst.Host) = o.host := rfl
    rw [e0] at HC
    obtain ⟨r, hr⟩ : ∃ r, siteL o.host sx = r := ⟨_, rfl⟩
    rw [hr] at HC ⊢
    clear hte hb0 hr e0
    unfold oCells at HB HC ⊢
    rw [ho] at HB HC ⊢
    clear ho
    go_enter Tryz.func13, Tryz.ntmps13
    go_wp2_with fail
    refine HC.out.mono ?_
    rintro e w1 ⟨rfl, hb1⟩
    have b1 := below_on HB.out hb1
    go_wp2_with fail
    go_ret
    exact ⟨rfl, b1⟩

/-- What the calls of SameSite ask of the world. -/
structure SReady (w0 : World) (A B : Nat) (a b : Orig) (D : Option Addr) (sx : List (List UInt8)) (W : World) : Prop where
  bel : Below w0.heap.size w0 W
  tab : Tab W
  seen : Seen W D sx
  x : OBox W A a
  y : OBox W B b
theorem SReady.below {w0 : World} {A B : Nat} {a b : Orig} {D : Option Addr} {sx : List (List UInt8)} {W W' : World} (hb : Below W.heap.size W W') (h : SReady w0 A B a b D sx W) : SReady w0 A B a b D sx W' := ⟨below_on h.bel hb, h.tab.below hb, h.seen.below hb, h.x.keep hb, h.y.keep hb⟩
theorem SReady.drew {w0 : World} {A B : Nat} {a b : Orig} {D : Option Addr} {sx : List (List UInt8)} {W : World} (h : SReady w0 A B a b D sx W) : SReady w0 A B a b D sx W.drew := ⟨h.bel.drew, h.tab, h.seen, h.x, h.y⟩
theorem SReady.all {w0 : World} {A B : Nat} {a b : Orig} {D : Option Addr} {sx : List (List UInt8)} {W : World} (h : SReady w0 A B a b D sx W) : W.cell? ⟨A, 0, none⟩ = some (.bool a.op) ∧ W.cell? ⟨A, 1, none⟩ = some (.int .i64 a.id) ∧ W.cell? ⟨A, 2, none⟩ = some (.string (bA a.scheme)) ∧ W.cell? ⟨A, 3, none⟩ = some (.string (bA a.host.name)) ∧ W.cell? ⟨A, 4, none⟩ = some (.bool a.host.v4) ∧ W.cell? ⟨A, 5, none⟩ = some (.int .u32 a.host.addr) ∧ W.cell? ⟨A, 6, none⟩ = some (.int .i64 a.port) ∧
      W.cell? ⟨B, 0, none⟩ = some (.bool b.op) ∧ W.cell? ⟨B, 1, none⟩ = some (.int .i64 b.id) ∧ W.cell? ⟨B, 2, none⟩ = some (.string (bA b.scheme)) ∧ W.cell? ⟨B, 3, none⟩ = some (.string (bA b.host.name)) ∧ W.cell? ⟨B, 4, none⟩ = some (.bool b.host.v4) ∧ W.cell? ⟨B, 5, none⟩ = some (.int .u32 b.host.addr) ∧ W.cell? ⟨B, 6, none⟩ = some (.int .i64 b.port) ∧ SReady w0 A B a b D sx W :=
  ⟨h.x.c0, h.x.c1, h.x.c2, h.x.c3, h.x.c4, h.x.c5, h.x.c6, h.y.c0, h.y.c1, h.y.c2, h.y.c3, h.y.c4, h.y.c5, h.y.c6, h⟩

theorem SReady.all0 {w0 : World} {A B : Nat} {a b : Orig} {D : Option Addr} {sx : List (List UInt8)} {W : World} (ha : a.op = false) (hb : b.op = false) (h : SReady w0 A B a b D sx W) : W.cell? ⟨A, 0, none⟩ = some (.bool false) ∧ W.cell? ⟨A, 1, none⟩ = some (.int .i64 a.id) ∧ W.cell? ⟨A, 2, none⟩ = some (.string (bA a.scheme)) ∧ W.cell? ⟨A, 3, none⟩ = some (.string (bA a.host.name)) ∧ W.cell? ⟨A, 4, none⟩ = some (.bool a.host.v4) ∧ W.cell? ⟨A, 5, none⟩ = some (.int .u32 a.host.addr) ∧ W.cell? ⟨A, 6, none⟩ = some (.int .i64 a.port) ∧
      W.cell? ⟨B, 0, none⟩ = some (.bool false) ∧ W.cell? ⟨B, 1, none⟩ = some (.int .i64 b.id) ∧ W.cell? ⟨B, 2, none⟩ = some (.string (bA b.scheme)) ∧ W.cell? ⟨B, 3, none⟩ = some (.string (bA b.host.name)) ∧ W.cell? ⟨B, 4, none⟩ = some (.bool b.host.v4) ∧ W.cell? ⟨B, 5, none⟩ = some (.int .u32 b.host.addr) ∧ W.cell? ⟨B, 6, none⟩ = some (.int .i64 b.port) ∧ SReady w0 A B a b D sx W := by
  have := h.all
  rwa [ha, hb] at this

/-- What is known of an origin that is compared by site. -/
structure SmallH (o : Orig) : Prop where
  a0 : 0 ≤ o.host.addr
  a1 : o.host.addr ≤ 4294967295
  hn : o.host.name.length ≤ 1000

set_option maxHeartbeats 4000000 in
theorem sameSite_any (a b : Orig) (D : Option Addr) (c : Nat) (sx : List (List UInt8)) (w : World) (hT : Tab w) (ha : SmallH a) (hb : SmallH b) (hsx : Few sx) (hA : Seen w D sx) :
    Calls Tryz.prog 15 #[origV a, origV b, .slice D sx.length c] w fun e w' => e = .returned (.bool (siteB a b sx)) ∧ Below w.heap.size w w' := by
  have hb0 : Below w.heap.size w ((w.alloc (.cells (oCells a) 29)).alloc (.cells (oCells b) 29)) := ((Below.refl _ w).alloc (Nat.le_refl _) _).alloc (by simp) _
  have h0 : SReady w w.heap.size (w.heap.size + 1) a b D sx ((w.alloc (.cells (oCells a) 29)).alloc (.cells (oCells b) 29)) :=
    ⟨hb0, hT.below hb0, hA.below hb0, (OBox.new w a).alloc _, by have := OBox.new (w.alloc (.cells (oCells a) 29)) b; simpa using this⟩
  clear hb0
  cases hor : (a.op || b.op) with
  | true =>
    have hsb : siteB a b sx = sameO a b := by unfold siteB; rw [hor]; rfl
    rw [hsb]
    have HS := Lib.hid (fun W => same_any a b W)
    obtain ⟨r, hr⟩ : ∃ r, sameO a b = r := ⟨_, rfl⟩
    rw [hr] at HS ⊢
    clear hr hsb
    unfold origV at HS ⊢
    unfold oCells at HS h0 ⊢
    have HR := Lib.hid h0
    clear h0
    cases hao : a.op with
    | true =>
      rw [hao] at HS HR
      clear hor hao
      go_enter Tryz.func15, Tryz.ntmps15
      go_wp2_with fail
      refine (HS.out _).mono ?_
      rintro e w1 ⟨rfl, hb1⟩
      have hB := (HR.out.below hb1).bel
      go_wp2_with fail
      go_ret
      exact ⟨rfl, hB⟩
    | false =>
      rw [hao] at HS HR hor
      have hbo : b.op = true := by simpa using hor
      rw [hbo] at HS HR ⊢
      clear hor hao hbo
      go_enter Tryz.func15, Tryz.ntmps15
      go_wp2_with fail
      refine (HS.out _).mono ?_
      rintro e w1 ⟨rfl, hb1⟩
      have hB := (HR.out.below hb1).bel
      go_wp2_with fail
      go_ret
      exact ⟨rfl, hB⟩
  | false =>
    have hao : a.op = false := by revert hor; cases a.op <;> simp
    have hbo : b.op = false := by revert hor; cases b.op <;> simp
    have hsb : siteB a b sx = (ositeL a sx == ositeL b sx) := by unfold siteB; rw [hor]; rfl
    rw [hsb]
    have S1 := Lib.hid (fun W hTW hSW => osite_any a D c sx W hTW ha.a0 ha.a1 ha.hn hsx hSW)
    have S2 := Lib.hid (fun W hTW hSW => osite_any b D c sx W hTW hb.a0 hb.a1 hb.hn hsx hSW)
    obtain ⟨s1, h1⟩ : ∃ r, ositeL a sx = r := ⟨_, rfl⟩
    obtain ⟨s2, h2⟩ : ∃ r, ositeL b sx = r := ⟨_, rfl⟩
    rw [h1] at S1 ⊢
    rw [h2] at S2 ⊢
    clear h1 h2 hsb hor ha hb hsx
    unfold origV at S1 S2 ⊢
    unfold oCells at S1 S2 h0 ⊢
    rw [hao] at h0 S1 ⊢
    rw [hbo] at h0 S2 ⊢
    have HR := Lib.hid h0
    have HAO := Lib.hid hao
    have HBO := Lib.hid hbo
    clear h0 hao hbo
    go_enter Tryz.func15, Tryz.ntmps15
    go_wp2_with fail
    have hR1 := HR.out
    go_region_held3 (fun w' => w'.cell? ⟨w.heap.size, 0, none⟩ = some (.bool false) ∧ w'.cell? ⟨w.heap.size, 1, none⟩ = some (.int .i64 a.id) ∧ w'.cell? ⟨w.heap.size, 2, none⟩ = some (.string (bA a.scheme)) ∧ w'.cell? ⟨w.heap.size, 3, none⟩ = some (.string (bA a.host.name)) ∧ w'.cell? ⟨w.heap.size, 4, none⟩ = some (.bool a.host.v4) ∧ w'.cell? ⟨w.heap.size, 5, none⟩ = some (.int .u32 a.host.addr) ∧ w'.cell? ⟨w.heap.size, 6, none⟩ = some (.int .i64 a.port) ∧
        w'.cell? ⟨w.heap.size + 1, 0, none⟩ = some (.bool false) ∧ w'.cell? ⟨w.heap.size + 1, 1, none⟩ = some (.int .i64 b.id) ∧ w'.cell? ⟨w.heap.size + 1, 2, none⟩ = some (.string (bA b.scheme)) ∧ w'.cell? ⟨w.heap.size + 1, 3, none⟩ = some (.string (bA b.host.name)) ∧ w'.cell? ⟨w.heap.size + 1, 4, none⟩ = some (.bool b.host.v4) ∧ w'.cell? ⟨w.heap.size + 1, 5, none⟩ = some (.int .u32 b.host.addr) ∧ w'.cell? ⟨w.heap.size + 1, 6, none⟩ = some (.int .i64 b.port) ∧ SReady w w.heap.size (w.heap.size + 1) a b D sx w')
      (first
        | exact hR1.all0 HAO.out HBO.out
        | exact hR1.drew.all0 HAO.out HBO.out
        | exact hR2.all0 HAO.out HBO.out
        | exact hR3.all0 HAO.out HBO.out)
      (first
        | (go_at_call 13; refine (S1.out _ hR1.drew.tab hR1.drew.seen).mono ?_; clear S1; rintro e w2 ⟨rfl, hb2⟩; have hR2 := SReady.below hb2 hR1.drew)
        | (go_at_call 13; refine (S2.out _ hR2.tab hR2.seen).mono ?_; clear S2; rintro e w3 ⟨rfl, hb3⟩; have hR3 := SReady.below hb3 hR2))
    go_wp2_with fail
    go_ret
    exact ⟨rfl, hR3.bel⟩
end Go.Proofs.YtehjnidggnfbfaaGreatDoor
