/- The walk of the statement on paths. -/
import Derived.Test.YtehjnidggnfbfaaDoorOrigAwake
import Derived.Test.YtehjnidggnfbfaaDoorOrigOpen
namespace Go.Proofs.YtehjnidggnfbfaaDoor
open Go.RowKit

/-- What the calls of the statement ask of the world: a URL's block and two origins'. -/
structure PaO (w0 : World) (A B C : Nat) (u : Urp.URL) (a b : Orig) (W : World) : Prop where
  bel : Below w0.heap.size w0 W
  x : UBox W A u
  y : OBox W B a
  z : OBox W C b
theorem PaO.below {w0 : World} {A B C : Nat} {u : Urp.URL} {a b : Orig} {W W' : World} (hb : Below W.heap.size W W') (h : PaO w0 A B C u a b W) : PaO w0 A B C u a b W' := ⟨below_on h.bel hb, h.x.keep hb, h.y.keep hb, h.z.keep hb⟩
theorem eq_orig_is {a b : Orig} {r : Bool} (h : eqO a b = r) (W : World) : (Op.equalIn 10000 26 (.agg #[.bool a.op, .int .i64 a.id, .string (bA a.scheme), .string (bA a.host.name), .bool a.host.v4, .int .u32 a.host.addr, .int .i64 a.port]) (.agg #[.bool b.op, .int .i64 b.id, .string (bA b.scheme), .string (bA b.host.name), .bool b.host.v4, .int .u32 b.host.addr, .int .i64 b.port])).run Tryd.prog W = .ok r W := by
  have := eqIn_orig a b W
  rw [h] at this
  exact this
theorem of_is {u : Urp.URL} {id : Int} {o : Orig} (h : ofO u id = o) (W : World) (hl : u.rest.length ≤ 4000) (hT : Tab8 W) : Calls Tryd.prog 13 #[.agg #[.string (bA u.scheme), .string (bA u.host.name), .bool u.host.v4, .int .u32 u.host.addr, .int .i64 u.port, .string (bA u.path), .bool u.hasq, .string (bA u.query), .string (bA u.rest)], .int .i64 id] W fun e w' => e = .returned (.agg #[.bool o.op, .int .i64 o.id, .string (bA o.scheme), .string (bA o.host.name), .bool o.host.v4, .int .u32 o.host.addr, .int .i64 o.port]) ∧ Below W.heap.size W w' := by
  have := of_any u id W hl hT
  rw [h] at this
  exact this
theorem inner_is {u x : Urp.URL} {b : Bool} (hx : (Urp.innerU u).getD Urp.zeroU = x) (h : (Urp.innerU u).isSome = b) (W : World) (hl : u.rest.length ≤ 4000) (hT : Tab8 W) : Calls Tryd.prog 15 #[.agg #[.string (bA u.scheme), .string (bA u.host.name), .bool u.host.v4, .int .u32 u.host.addr, .int .i64 u.port, .string (bA u.path), .bool u.hasq, .string (bA u.query), .string (bA u.rest)]] W fun e w' => e = .returned (.tuple #[.agg #[.string (bA x.scheme), .string (bA x.host.name), .bool x.host.v4, .int .u32 x.host.addr, .int .i64 x.port, .string (bA x.path), .bool x.hasq, .string (bA x.query), .string (bA x.rest)], .bool b]) ∧ Below W.heap.size W w' := by
  have := inner_any u W hl hT
  unfold inV urlV uCells at this
  rw [hx, h] at this
  exact this
theorem net_is {u : Urp.URL} {b : Bool} (h : Urp.netB u.scheme = b) (W : World) : Calls Tryd.prog 12 #[.agg #[.string (bA u.scheme), .string (bA u.host.name), .bool u.host.v4, .int .u32 u.host.addr, .int .i64 u.port, .string (bA u.path), .bool u.hasq, .string (bA u.query), .string (bA u.rest)]] W fun e w' => e = .returned (.bool b) ∧ Below W.heap.size W w' := by
  have := net_any u W
  rw [h] at this
  exact this

theorem of_opaq {u : Urp.URL} {id : Int} (h : ofO u id = opaq id) (W : World) (hl : u.rest.length ≤ 4000) (hT : Tab8 W) : Calls Tryd.prog 13 #[.agg #[.string (bA u.scheme), .string (bA u.host.name), .bool u.host.v4, .int .u32 u.host.addr, .int .i64 u.port, .string (bA u.path), .bool u.hasq, .string (bA u.query), .string (bA u.rest)], .int .i64 id] W fun e w' => e = .returned (.agg #[.bool true, .int .i64 id, .string ⟨#[]⟩, .string ⟨#[]⟩, .bool false, .int .u32 0, .int .i64 0]) ∧ Below W.heap.size W w' := by
  have := of_any u id W hl hT
  rw [h] at this
  exact this
theorem eq_opaq (id : Int) (W : World) : (Op.equalIn 10000 26 (.agg #[.bool true, .int .i64 id, .string ⟨#[]⟩, .string ⟨#[]⟩, .bool false, .int .u32 0, .int .i64 0]) (.agg #[.bool true, .int .i64 id, .string ⟨#[]⟩, .string ⟨#[]⟩, .bool false, .int .u32 0, .int .i64 0])).run Tryd.prog W = .ok true W := by
  have := eqIn_orig (opaq id) (opaq id) W
  rw [eqO_iff.2 rfl] at this
  exact this

set_option maxHeartbeats 16000000 in
set_option maxRecDepth 100000 in
theorem walk_OriginPaths (u : Urp.URL) (p q : ByteArray) (id : Int) (w : World) (hw : WideU u) (_ : p.size ≤ maxLen) (_ : q.size ≤ maxLen) (_ : (Lit.int .i64 id).wf = true) (hT : Tab w) (hT8 : Tab8 w) :
    Calls Tryd.prog 5 #[urlV u, .string p, .string q, .int .i64 id] w fun e w' => e = .returned (.bool true) ∧ Below w.heap.size w w' := by
  obtain ⟨s1, s2, a0, a1, p0, p1, s3, s4, s5⟩ := hw
  unfold maxLen at s1 s2 s3 s4 s5
  have hbx : Below w.heap.size w (w.alloc (.cells (uCells u) 34)) := (Below.refl _ w).alloc (Nat.le_refl _) _
  have HA := Lib.hid (awake_any _ (hT.below hbx) (hT8.below hbx))
  have HT8 := Lib.hid hT8
  have HBX := Lib.hid hbx
  have HQ := Lib.hid (UBox.new w u)
  unfold urlV
  unfold uCells at HA HBX HQ ⊢
  clear hT hT8 hbx
  by_cases hr : 3000 < u.rest.length
  · have hr' : (3000 : Int) < (u.rest.length : Int) := by omega
    clear hr
    go_enter Tryd.func5, Tryd.ntmps5
    go_wp2_with fail
    refine HA.out.mono ?_
    rintro e w1 ⟨rfl, hb1⟩
    have q1 := UBox.keep HQ.out hb1
    have hB := below_on HBX.out hb1
    clear hb1
    have c0 := q1.c0; have c1 := q1.c1; have c8 := q1.c8
    go_wp2_with fail
    go_ret
    exact ⟨rfl, hB⟩
  have hr' : (u.rest.length : Int) ≤ 3000 := by omega
  have hr3 : u.rest.length ≤ 3000 := by omega
  clear hr
  by_cases hs : 3000 < u.scheme.length
  · have hs' : (3000 : Int) < (u.scheme.length : Int) := by omega
    clear hs
    go_enter Tryd.func5, Tryd.ntmps5
    go_wp2_with fail
    refine HA.out.mono ?_
    rintro e w1 ⟨rfl, hb1⟩
    have q1 := UBox.keep HQ.out hb1
    have hB := below_on HBX.out hb1
    clear hb1
    have c0 := q1.c0; have c1 := q1.c1; have c8 := q1.c8
    go_wp2_with fail
    go_ret
    exact ⟨rfl, hB⟩
  have hs' : (u.scheme.length : Int) ≤ 3000 := by omega
  clear hs
  by_cases hn : 3000 < u.host.name.length
  · have hn' : (3000 : Int) < (u.host.name.length : Int) := by omega
    clear hn
    go_enter Tryd.func5, Tryd.ntmps5
    go_wp2_with fail
    refine HA.out.mono ?_
    rintro e w1 ⟨rfl, hb1⟩
    have q1 := UBox.keep HQ.out hb1
    have hB := below_on HBX.out hb1
    clear hb1
    have c0 := q1.c0; have c1 := q1.c1; have c8 := q1.c8
    go_wp2_with fail
    go_ret
    exact ⟨rfl, hB⟩
  have hn' : (u.host.name.length : Int) ≤ 3000 := by omega
  clear hn
  have key : ∀ (op : Bool) (oi : Int) (sc : List UInt8) (h : Hst.Host) (po : Int) (x : Urp.URL) (n i : Bool), ofO u id = ⟨op, oi, sc, h, po⟩ → (Urp.innerU u).getD Urp.zeroU = x → Urp.netB u.scheme = n → (Urp.innerU u).isSome = i →
      ((op = false ∧ n = true ∧ i = false) ∨ (op = false ∧ n = false ∧ i = true) ∨ (n = false ∧ i = false ∧ op = true)) →
      Calls Tryd.prog 5 #[.agg #[.string (bA u.scheme), .string (bA u.host.name), .bool u.host.v4, .int .u32 u.host.addr, .int .i64 u.port, .string (bA u.path), .bool u.hasq, .string (bA u.query), .string (bA u.rest)], .string p, .string q, .int .i64 id] w fun e w' => e = .returned (.bool true) ∧ Below w.heap.size w w' := by
    intro op oi sc h po x n i e1 e2 e3 e4 hw
    obtain ⟨pl, rfl⟩ : ∃ l, p = bA l := ⟨p.data.toList, rfl⟩
    obtain ⟨ql, rfl⟩ : ∃ l, q = bA l := ⟨q.data.toList, rfl⟩
    have e5 : ofO ⟨u.scheme, u.host, u.port, pl, !u.hasq, ql, u.rest⟩ id = ⟨op, oi, sc, h, po⟩ := by rw [ofO_path]; exact e1
    have N1 := Lib.hid (fun W => net_is e3 W)
    have I1 := Lib.hid (fun W h => inner_is e2 e4 W (by omega) h)
    have G1 := fun W h => of_is e1 W (by omega) h
    have G2 := fun W h => of_is e5 W (by show u.rest.length ≤ 4000; omega) h
    have heq := fun W => eq_orig_is (a := ⟨op, oi, sc, h, po⟩) (b := ⟨op, oi, sc, h, po⟩) (r := true) (eqO_iff.2 rfl) W
    dsimp only at G1 G2 heq
    have EO := Lib.hid (fun e => ofO_opaq u id e)
    rw [e1] at EO
    have E1 := Lib.hid e1
    have E5 := Lib.hid e5
    clear e1 e2 e3 e4 e5
    rcases hw with ⟨rfl, rfl, rfl⟩ | ⟨rfl, rfl, rfl⟩ | ⟨rfl, rfl, rfl⟩
    rotate_right
    · have e0 := EO.out rfl
      unfold opaq at e0
      simp only [Orig.mk.injEq, true_and] at e0
      obtain ⟨h1, rfl, rfl, rfl⟩ := e0
      have h1' : id = oi := h1.symm
      subst h1'
      clear h1
      clear EO
      have O1 := Lib.hid (fun W h => of_opaq E1.out W (by omega) h)
      have O2 := Lib.hid (fun W h => of_opaq (u := ⟨u.scheme, u.host, u.port, pl, !u.hasq, ql, u.rest⟩) E5.out W (by show u.rest.length ≤ 4000; omega) h)
      dsimp only at O2
      have heq2 := fun W => eq_opaq id W
      clear E1 E5
      clear heq G1 G2
      go_enter Tryd.func5, Tryd.ntmps5
      go_wp2_with fail
      refine HA.out.mono ?_
      rintro e w1 ⟨rfl, hb1⟩
      have q1 := UBox.keep HQ.out hb1
      have hB := below_on HBX.out hb1
      clear hb1
      have c0 := q1.c0; have c1 := q1.c1; have c8 := q1.c8
      have c2 := q1.c2; have c3 := q1.c3; have c4 := q1.c4; have c5 := q1.c5; have c6 := q1.c6; have c7 := q1.c7
      have HT1 := Lib.hid (HT8.out.below hB)
      go_wp2_with fail
      refine (O1.out _ HT1.out).mono ?_
      rintro e w2 ⟨rfl, hb2⟩
      have b2 := below_on hB hb2
      have q2 := q1.keep hb2
      have l2 := q2.lt
      have n2 : w.heap.size ≠ w2.heap.size := by omega
      have b3 := (b2.alloc (o := .cells (oCells (opaq id)) 26) b2.size).alloc (o := .cells (uCells ⟨u.scheme, u.host, u.port, pl, !u.hasq, ql, u.rest⟩) 34) (by simp; have := b2.size; omega)
      have q3 := (q2.alloc (.cells (oCells (opaq id)) 26)).alloc (.cells (uCells ⟨u.scheme, u.host, u.port, pl, !u.hasq, ql, u.rest⟩) 34)
      have a3 := (OBox.new w2 (opaq id)).alloc (.cells (uCells ⟨u.scheme, u.host, u.port, pl, !u.hasq, ql, u.rest⟩) 34)
      have HT2 := Lib.hid (HT8.out.below b3)
      clear hb2 q1 hB c0 c1 c2 c3 c4 c5 c6 c7 c8
      have c0 := q2.c0; have c1 := q2.c1; have c2 := q2.c2; have c3 := q2.c3; have c4 := q2.c4; have c5 := q2.c5; have c6 := q2.c6; have c7 := q2.c7; have c8 := q2.c8
      go_wp2_with fail
      refine (O2.out _ HT2.out).mono ?_
      rintro e w3 ⟨rfl, hb3⟩
      have b4 := below_on b3 hb3
      have q4 := q3.keep hb3
      have a4 := a3.keep hb3
      have l4 := q4.lt
      have n4 : w.heap.size ≠ w3.heap.size := by omega
      have hR : PaO w w.heap.size w2.heap.size w3.heap.size u (opaq id) (opaq id) (w3.alloc (.cells (oCells (opaq id)) 26)) := ⟨b4.alloc b4.size _, q4.alloc _, a4.alloc _, OBox.new w3 (opaq id)⟩
      clear hb3 b2 b3 b4 q2 q3 a3 a4 c0 c1 c2 c3 c4 c5 c6 c7 c8 l2 n2
      have c0 := q4.c0; have c1 := q4.c1; have c2 := q4.c2; have c3 := q4.c3; have c4 := q4.c4; have c5 := q4.c5; have c6 := q4.c6; have c7 := q4.c7; have c8 := q4.c8
      go_wp2_with fail
      refine (N1.out _).mono ?_
      rintro e w4 ⟨rfl, hb4⟩
      have hR2 := PaO.below hb4 hR
      clear c0 c1 c2 c3 c4 c5 c6 c7 c8 q4 l4 n4 hR hb4
      have HT3 := Lib.hid (HT8.out.below hR2.bel)
      have c0 := hR2.x.c0; have c1 := hR2.x.c1; have c2 := hR2.x.c2; have c3 := hR2.x.c3; have c4 := hR2.x.c4; have c5 := hR2.x.c5; have c6 := hR2.x.c6; have c7 := hR2.x.c7; have c8 := hR2.x.c8
      go_wp2_with fail
      refine (I1.out _ HT3.out).mono ?_
      rintro e w5 ⟨rfl, hb5⟩
      have hR3 := PaO.below hb5 hR2
      clear c0 c1 c2 c3 c4 c5 c6 c7 c8 hR2 hb5
      have i0 : w5.cell? ⟨w2.heap.size, 0, none⟩ = some (.bool true) := hR3.y.c0
      have i1 : w5.cell? ⟨w2.heap.size, 1, none⟩ = some (.int .i64 id) := hR3.y.c1
      have i2 : w5.cell? ⟨w2.heap.size, 2, none⟩ = some (.string ⟨#[]⟩) := hR3.y.c2
      have i3 : w5.cell? ⟨w2.heap.size, 3, none⟩ = some (.string ⟨#[]⟩) := hR3.y.c3
      have i4 : w5.cell? ⟨w2.heap.size, 4, none⟩ = some (.bool false) := hR3.y.c4
      have i5 : w5.cell? ⟨w2.heap.size, 5, none⟩ = some (.int .u32 0) := hR3.y.c5
      have i6 : w5.cell? ⟨w2.heap.size, 6, none⟩ = some (.int .i64 0) := hR3.y.c6
      have j0 : w5.cell? ⟨w3.heap.size, 0, none⟩ = some (.bool true) := hR3.z.c0
      have j1 : w5.cell? ⟨w3.heap.size, 1, none⟩ = some (.int .i64 id) := hR3.z.c1
      have j2 : w5.cell? ⟨w3.heap.size, 2, none⟩ = some (.string ⟨#[]⟩) := hR3.z.c2
      have j3 : w5.cell? ⟨w3.heap.size, 3, none⟩ = some (.string ⟨#[]⟩) := hR3.z.c3
      have j4 : w5.cell? ⟨w3.heap.size, 4, none⟩ = some (.bool false) := hR3.z.c4
      have j5 : w5.cell? ⟨w3.heap.size, 5, none⟩ = some (.int .u32 0) := hR3.z.c5
      have j6 : w5.cell? ⟨w3.heap.size, 6, none⟩ = some (.int .i64 0) := hR3.z.c6
      have hB := hR3.bel
      have l5 := hR3.y.lt
      have l6 := hR3.z.lt
      have n5 : w2.heap.size ≠ w5.heap.size := by omega
      have n6 : w3.heap.size ≠ w5.heap.size := by omega
      have hB2 := hB.alloc (o := .cells (uCells x) 34) hB.size
      clear hR3
      go_wp2_with fail
      go_ret
      exact ⟨rfl, hB2⟩
    all_goals
      have O1 := Lib.hid G1
      have O2 := Lib.hid G2
      clear G1 G2 EO E1 E5
      go_enter Tryd.func5, Tryd.ntmps5
      go_wp2_with fail
      refine HA.out.mono ?_
      rintro e w1 ⟨rfl, hb1⟩
      have q1 := UBox.keep HQ.out hb1
      have hB := below_on HBX.out hb1
      clear hb1
      have c0 := q1.c0; have c1 := q1.c1; have c8 := q1.c8
      have c2 := q1.c2; have c3 := q1.c3; have c4 := q1.c4; have c5 := q1.c5; have c6 := q1.c6; have c7 := q1.c7
      have HT1 := Lib.hid (HT8.out.below hB)
      go_wp2_with fail
      refine (O1.out _ HT1.out).mono ?_
      rintro e w2 ⟨rfl, hb2⟩
      have b2 := below_on hB hb2
      have q2 := q1.keep hb2
      have l2 := q2.lt
      have n2 : w.heap.size ≠ w2.heap.size := by omega
      have b3 := (b2.alloc (o := .cells (oCells ⟨false, oi, sc, h, po⟩) 26) b2.size).alloc (o := .cells (uCells ⟨u.scheme, u.host, u.port, pl, !u.hasq, ql, u.rest⟩) 34) (by simp; have := b2.size; omega)
      have q3 := (q2.alloc (.cells (oCells ⟨false, oi, sc, h, po⟩) 26)).alloc (.cells (uCells ⟨u.scheme, u.host, u.port, pl, !u.hasq, ql, u.rest⟩) 34)
      have a3 := (OBox.new w2 ⟨false, oi, sc, h, po⟩).alloc (.cells (uCells ⟨u.scheme, u.host, u.port, pl, !u.hasq, ql, u.rest⟩) 34)
      have HT2 := Lib.hid (HT8.out.below b3)
      clear hb2 q1 hB c0 c1 c2 c3 c4 c5 c6 c7 c8
      have c0 := q2.c0; have c1 := q2.c1; have c2 := q2.c2; have c3 := q2.c3; have c4 := q2.c4; have c5 := q2.c5; have c6 := q2.c6; have c7 := q2.c7; have c8 := q2.c8
      go_wp2_with fail
      refine (O2.out _ HT2.out).mono ?_
      rintro e w3 ⟨rfl, hb3⟩
      have b4 := below_on b3 hb3
      have q4 := q3.keep hb3
      have a4 := a3.keep hb3
      have l4 := q4.lt
      have n4 : w.heap.size ≠ w3.heap.size := by omega
      have hR : PaO w w.heap.size w2.heap.size w3.heap.size u ⟨false, oi, sc, h, po⟩ ⟨false, oi, sc, h, po⟩ (w3.alloc (.cells (oCells ⟨false, oi, sc, h, po⟩) 26)) := ⟨b4.alloc b4.size _, q4.alloc _, a4.alloc _, OBox.new w3 ⟨false, oi, sc, h, po⟩⟩
      clear hb3 b2 b3 b4 q2 q3 a3 a4 c0 c1 c2 c3 c4 c5 c6 c7 c8 l2 n2
      have c0 := q4.c0; have c1 := q4.c1; have c2 := q4.c2; have c3 := q4.c3; have c4 := q4.c4; have c5 := q4.c5; have c6 := q4.c6; have c7 := q4.c7; have c8 := q4.c8
      go_wp2_with fail
      refine (N1.out _).mono ?_
      rintro e w4 ⟨rfl, hb4⟩
      have hR2 := PaO.below hb4 hR
      clear c0 c1 c2 c3 c4 c5 c6 c7 c8 q4 l4 n4 hR hb4
      have HT3 := Lib.hid (HT8.out.below hR2.bel)
      have c0 := hR2.x.c0; have c1 := hR2.x.c1; have c2 := hR2.x.c2; have c3 := hR2.x.c3; have c4 := hR2.x.c4; have c5 := hR2.x.c5; have c6 := hR2.x.c6; have c7 := hR2.x.c7; have c8 := hR2.x.c8
      go_wp2_with fail
      refine (I1.out _ HT3.out).mono ?_
      rintro e w5 ⟨rfl, hb5⟩
      have hR3 := PaO.below hb5 hR2
      clear c0 c1 c2 c3 c4 c5 c6 c7 c8 hR2 hb5
      have i0 : w5.cell? ⟨w2.heap.size, 0, none⟩ = some (.bool false) := hR3.y.c0
      have i1 : w5.cell? ⟨w2.heap.size, 1, none⟩ = some (.int .i64 oi) := hR3.y.c1
      have i2 : w5.cell? ⟨w2.heap.size, 2, none⟩ = some (.string (bA sc)) := hR3.y.c2
      have i3 : w5.cell? ⟨w2.heap.size, 3, none⟩ = some (.string (bA h.name)) := hR3.y.c3
      have i4 : w5.cell? ⟨w2.heap.size, 4, none⟩ = some (.bool h.v4) := hR3.y.c4
      have i5 : w5.cell? ⟨w2.heap.size, 5, none⟩ = some (.int .u32 h.addr) := hR3.y.c5
      have i6 : w5.cell? ⟨w2.heap.size, 6, none⟩ = some (.int .i64 po) := hR3.y.c6
      have j0 : w5.cell? ⟨w3.heap.size, 0, none⟩ = some (.bool false) := hR3.z.c0
      have j1 : w5.cell? ⟨w3.heap.size, 1, none⟩ = some (.int .i64 oi) := hR3.z.c1
      have j2 : w5.cell? ⟨w3.heap.size, 2, none⟩ = some (.string (bA sc)) := hR3.z.c2
      have j3 : w5.cell? ⟨w3.heap.size, 3, none⟩ = some (.string (bA h.name)) := hR3.z.c3
      have j4 : w5.cell? ⟨w3.heap.size, 4, none⟩ = some (.bool h.v4) := hR3.z.c4
      have j5 : w5.cell? ⟨w3.heap.size, 5, none⟩ = some (.int .u32 h.addr) := hR3.z.c5
      have j6 : w5.cell? ⟨w3.heap.size, 6, none⟩ = some (.int .i64 po) := hR3.z.c6
      have hB := hR3.bel
      have l5 := hR3.y.lt
      have l6 := hR3.z.lt
      have n5 : w2.heap.size ≠ w5.heap.size := by omega
      have n6 : w3.heap.size ≠ w5.heap.size := by omega
      have hB2 := hB.alloc (o := .cells (uCells x) 34) hB.size
      clear hR3
      go_wp2_with fail
      go_ret
      exact ⟨rfl, hB2⟩
  obtain ⟨⟨op, oi, sc, h, po⟩, ho⟩ : ∃ o, ofO u id = o := ⟨_, rfl⟩
  have hop := ofO_op u id
  rw [ho] at hop
  refine key op oi sc h po _ _ _ ho rfl rfl rfl ?_
  cases hn : Urp.netB u.scheme with
  | true =>
    rw [inner_of_net hn]
    rw [hn] at hop
    exact .inl ⟨hop, rfl, rfl⟩
  | false =>
    rw [hn] at hop
    cases hi : (Urp.innerU u).isSome with
    | true => rw [hi] at hop; exact .inr (.inl ⟨hop, rfl, rfl⟩)
    | false => rw [hi] at hop; exact .inr (.inr ⟨rfl, rfl, hop⟩)
end Go.Proofs.YtehjnidggnfbfaaDoor
