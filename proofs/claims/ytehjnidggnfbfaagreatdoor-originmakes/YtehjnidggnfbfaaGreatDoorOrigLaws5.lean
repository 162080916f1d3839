/- The walk of the statement on any URL's origin, and its text. -/
import Derived.Test.YtehjnidggnfbfaaGreatDoorOrigAwake
import Derived.Test.YtehjnidggnfbfaaGreatDoorOrigOpen
import Derived.Test.YtehjnidggnfbfaaGreatDoorOrigRof
import Derived.Test.YtehjnidggnfbfaaGreatDoorOrigRsame
import Derived.Deep.RegionHeld3
namespace Go.Proofs.YtehjnidggnfbfaaGreatDoor
open Go.RowKit

theorem gsmallO {u : Urp.URL} (g : Urp.Good u) (hl : (utextL u).length ≤ 3900) (id : Int) : SmallO (ofO u id) := by
  obtain ⟨s1, s2, a0, a1, p0, p1, _, _, _⟩ := Urp.good_small g hl
  rw [ofO_net g.net]
  refine ⟨by show u.scheme.length ≤ _; omega, s2, a0, a1, ?_, ?_⟩
  all_goals
    show _ ≤ _
    dsimp only
    split
    · rcases Urp.net_cases g.net with h | h <;> rw [h] <;> decide
    · assumption
/-- The origin of any URL whose parts are short. -/
theorem small_of {u : Urp.URL} (id : Int) (h1 : u.rest.length ≤ 3000) (h2 : u.host.name.length ≤ 3000) (a0 : 0 ≤ u.host.addr) (a1 : u.host.addr ≤ 4294967295) (p0 : -9223372036854775808 ≤ u.port) (p1 : u.port ≤ 9223372036854775807) : SmallO (ofO u id) := by
  cases hi : Urp.innerU u with
  | some v =>
    have e : ofO u id = ofO v id := by
      unfold ofO
      rw [hi, inner_of_net (inner_net hi)]
      rfl
    have hn := inner_net hi
    unfold Urp.innerU at hi
    split at hi
    · rw [Urp.netU_parse] at hi
      cases hp : Urp.parse u.rest with
      | error e => rw [hp] at hi; cases hi
      | ok y =>
        rw [hp] at hi
        simp only at hi
        split at hi
        · cases hi
          obtain ⟨g, gl⟩ := Urp.parse_good hp hn
          rw [e]
          exact gsmallO g (by omega) id
        · cases hi
    · cases hi
  | none =>
    unfold ofO ofN
    rw [hi, Option.getD_none]
    split
    · rename_i hn
      have hs := Urp.net_cases hn
      refine ⟨by show u.scheme.length ≤ _; rcases hs with h | h <;> rw [h] <;> decide, by show u.host.name.length ≤ 4000; omega, a0, a1, ?_, ?_⟩
      all_goals
        show _ ≤ _
        dsimp only
        split
        · rcases hs with h | h <;> rw [h] <;> decide
        · assumption
    · refine ⟨?_, ?_, ?_, ?_, ?_, ?_⟩
      all_goals (simp [opaq, Hst.none_])
theorem mof_is {u : Urp.URL} {id : Int} {o : Orig} (h : ofO u id = o) (W : World) (hl : u.rest.length ≤ 4000) (hT : Tab8 W) : Calls Tryz.prog 6 #[.agg #[.string (bA u.scheme), .string (bA u.host.name), .bool u.host.v4, .int .u32 u.host.addr, .int .i64 u.port, .string (bA u.path), .bool u.hasq, .string (bA u.query), .string (bA u.rest)], .int .i64 id] W fun e w' => e = .returned (.agg #[.bool o.op, .int .i64 o.id, .string (bA o.scheme), .string (bA o.host.name), .bool o.host.v4, .int .u32 o.host.addr, .int .i64 o.port]) ∧ Below W.heap.size W w' := by
  have := of_any u id W hl hT
  rw [h] at this
  exact this
theorem rof_is {u : Urp.URL} {id : Int} {o : Orig} (h : ofO u id = o) (W : World) (hl : u.rest.length ≤ 4000) : Calls Tryz.prog 7 #[.agg #[.string (bA u.scheme), .string (bA u.host.name), .bool u.host.v4, .int .u32 u.host.addr, .int .i64 u.port, .string (bA u.path), .bool u.hasq, .string (bA u.query), .string (bA u.rest)], .int .i64 id] W fun e w' => e = .returned (.agg #[.bool o.op, .int .i64 o.id, .string (bA o.scheme), .string (bA o.host.name), .bool o.host.v4, .int .u32 o.host.addr, .int .i64 o.port]) ∧ Below W.heap.size W w' := by
  have := rof_any u id W hl
  rw [h] at this
  exact this
theorem mtext_is {o : Orig} {t : List UInt8} (h : otextL o = t) (W : World) (hS : SmallO o) (hT : Tab W) : Calls Tryz.prog 8 #[.agg #[.bool o.op, .int .i64 o.id, .string (bA o.scheme), .string (bA o.host.name), .bool o.host.v4, .int .u32 o.host.addr, .int .i64 o.port]] W fun e w' => e = .returned (.string (bA t)) ∧ Below W.heap.size W w' := by
  have := otext_any o W hS hT
  rw [h] at this
  exact this
theorem rtext_is {o : Orig} {t : List UInt8} (h : otextL o = t) (W : World) (hS : SmallO o) (hT : Tab W) : Calls Tryz.prog 9 #[.agg #[.bool o.op, .int .i64 o.id, .string (bA o.scheme), .string (bA o.host.name), .bool o.host.v4, .int .u32 o.host.addr, .int .i64 o.port]] W fun e w' => e = .returned (.string (bA t)) ∧ Below W.heap.size W w' := by
  have := rotext_any o W hS hT
  rw [h] at this
  exact this
theorem meq_is (a : Orig) (W : World) : (Op.equalIn 10000 29 (.agg #[.bool a.op, .int .i64 a.id, .string (bA a.scheme), .string (bA a.host.name), .bool a.host.v4, .int .u32 a.host.addr, .int .i64 a.port]) (.agg #[.bool a.op, .int .i64 a.id, .string (bA a.scheme), .string (bA a.host.name), .bool a.host.v4, .int .u32 a.host.addr, .int .i64 a.port])).run Tryz.prog W = .ok true W := by
  have := eqIn_orig a a W
  rw [eqO_iff.2 rfl] at this
  exact this

/-- What the calls of the statement ask of the world: two origins' blocks. -/
structure MaO (w0 : World) (A B : Nat) (a b : Orig) (W : World) : Prop where
  bel : Below w0.heap.size w0 W
  tab : Tab W
  x : OBox W A a
  y : OBox W B b
theorem MaO.below {w0 : World} {A B : Nat} {a b : Orig} {W W' : World} (hb : Below W.heap.size W W') (h : MaO w0 A B a b W) : MaO w0 A B a b W' := ⟨below_on h.bel hb, h.tab.below hb, h.x.keep hb, h.y.keep hb⟩
theorem MaO.drew {w0 : World} {A B : Nat} {a b : Orig} {W : World} (h : MaO w0 A B a b W) : MaO w0 A B a b W.drew := ⟨h.bel.drew, h.tab, h.x, h.y⟩
theorem MaO.all {w0 : World} {A B : Nat} {a b : Orig} {W : World} (h : MaO w0 A B a b W) : W.cell? ⟨A, 0, none⟩ = some (.bool a.op) ∧ W.cell? ⟨A, 1, none⟩ = some (.int .i64 a.id) ∧ W.cell? ⟨A, 2, none⟩ = some (.string (bA a.scheme)) ∧ W.cell? ⟨A, 3, none⟩ = some (.string (bA a.host.name)) ∧ W.cell? ⟨A, 4, none⟩ = some (.bool a.host.v4) ∧ W.cell? ⟨A, 5, none⟩ = some (.int .u32 a.host.addr) ∧ W.cell? ⟨A, 6, none⟩ = some (.int .i64 a.port) ∧ W.cell? ⟨B, 0, none⟩ = some (.bool b.op) ∧ W.cell? ⟨B, 1, none⟩ = some (.int .i64 b.id) ∧ W.cell? ⟨B, 2, none⟩ = some (.string (bA b.scheme)) ∧ W.cell? ⟨B, 3, none⟩ = some (.string (bA b.host.name)) ∧ W.cell? ⟨B, 4, none⟩ = some (.bool b.host.v4) ∧ W.cell? ⟨B, 5, none⟩ = some (.int .u32 b.host.addr) ∧ W.cell? ⟨B, 6, none⟩ = some (.int .i64 b.port) ∧ MaO w0 A B a b W :=
  ⟨h.x.c0, h.x.c1, h.x.c2, h.x.c3, h.x.c4, h.x.c5, h.x.c6, h.y.c0, h.y.c1, h.y.c2, h.y.c3, h.y.c4, h.y.c5, h.y.c6, h⟩

set_option maxHeartbeats 16000000 in
set_option maxRecDepth 100000 in
theorem walk_OriginMakes (u : Urp.URL) (id : Int) (w : World) (hw : WideU u) (_ : (Lit.int .i64 id).wf = true) (hT : Tab w) (hT8 : Tab8 w) :
    Calls Tryz.prog 3 #[urlV u, .int .i64 id] w fun e w' => e = .returned (.bool true) ∧ Below w.heap.size w w' := by
  obtain ⟨s1, s2, a0, a1, p0, p1, s3, s4, s5⟩ := hw
  unfold maxLen at s1 s2 s3 s4 s5
  have hbx : Below w.heap.size w (w.alloc (.cells (uCells u) 26)) := (Below.refl _ w).alloc (Nat.le_refl _) _
  have HA := Lib.hid (awake_any _ (hT.below hbx) (hT8.below hbx))
  have HT8 := Lib.hid hT8
  have HT := Lib.hid hT
  have HBX := Lib.hid hbx
  have HQ := Lib.hid (UBox.new w u)
  unfold urlV
  unfold uCells at HA HBX HQ ⊢
  clear hT hT8 hbx
  by_cases hr : 3000 < u.rest.length
  · have hr' : (3000 : Int) < (u.rest.length : Int) := by omega
    clear hr
    go_enter Tryz.func3, Tryz.ntmps3
    go_wp2_with fail
    refine HA.out.mono ?_
    rintro e w1 ⟨rfl, hb1⟩
    have q1 := UBox.keep HQ.out hb1
    have hB := below_on HBX.out hb1
    clear hb1
    have c0 := q1.c0; have c1 := q1.c1; have c8 := q1.c8
    go_wp2_with fail
    go_ret
    exact ⟨rfl, hB⟩
  have hr' : (u.rest.length : Int) ≤ 3000 := by omega
  have hr3 : u.rest.length ≤ 3000 := by omega
  clear hr
  by_cases hn : 3000 < u.host.name.length
  · have hn' : (3000 : Int) < (u.host.name.length : Int) := by omega
    clear hn
    go_enter Tryz.func3, Tryz.ntmps3
    go_wp2_with fail
    refine HA.out.mono ?_
    rintro e w1 ⟨rfl, hb1⟩
    have q1 := UBox.keep HQ.out hb1
    have hB := below_on HBX.out hb1
    clear hb1
    have c0 := q1.c0; have c1 := q1.c1; have c8 := q1.c8
    go_wp2_with fail
    go_ret
    exact ⟨rfl, hB⟩
  have hn' : (u.host.name.length : Int) ≤ 3000 := by omega
  have hn3 : u.host.name.length ≤ 3000 := by omega
  clear hn
  by_cases hs : 3000 < u.scheme.length
  · have hs' : (3000 : Int) < (u.scheme.length : Int) := by omega
    clear hs
    go_enter Tryz.func3, Tryz.ntmps3
    go_wp2_with fail
    refine HA.out.mono ?_
    rintro e w1 ⟨rfl, hb1⟩
    have q1 := UBox.keep HQ.out hb1
    have hB := below_on HBX.out hb1
    clear hb1
    have c0 := q1.c0; have c1 := q1.c1; have c8 := q1.c8
    go_wp2_with fail
    go_ret
    exact ⟨rfl, hB⟩
  have hs' : (u.scheme.length : Int) ≤ 3000 := by omega
  have hs3 : u.scheme.length ≤ 3000 := by omega
  clear hs
  have hsm := small_of id hr3 hn3 a0 a1 p0 p1
  obtain ⟨o, ho⟩ : ∃ o, ofO u id = o := ⟨_, rfl⟩
  rw [ho] at hsm
  have O1 := Lib.hid (fun W h => mof_is ho W (by omega) h)
  have O2 := Lib.hid (fun W => rof_is ho W (by omega))
  obtain ⟨t, ht⟩ : ∃ t, otextL o = t := ⟨_, rfl⟩
  have T1 := Lib.hid (fun W h => mtext_is ht W hsm h)
  have T2 := Lib.hid (fun W h => rtext_is ht W hsm h)
  have heq := fun W => meq_is o W
  clear ho ht hsm
  go_enter Tryz.func3, Tryz.ntmps3
  go_wp2_with fail
  refine HA.out.mono ?_
  rintro e w1 ⟨rfl, hb1⟩
  have q1 := UBox.keep HQ.out hb1
  have hB := below_on HBX.out hb1
  clear hb1
  have c0 := q1.c0; have c1 := q1.c1; have c8 := q1.c8
  have c2 := q1.c2; have c3 := q1.c3; have c4 := q1.c4; have c5 := q1.c5; have c6 := q1.c6; have c7 := q1.c7
  have HT1 := Lib.hid (HT8.out.below hB)
  go_wp2_with fail
  refine (O1.out _ HT1.out).mono ?_
  rintro e w2 ⟨rfl, hb2⟩
  have b2 := below_on hB hb2
  have q2 := q1.keep hb2
  have l2 := q2.lt
  have n2 : w.heap.size ≠ w2.heap.size := by omega
  have b3 := b2.alloc (o := .cells (oCells o) 29) b2.size
  have a3 := OBox.new w2 o
  clear hb2 q1 hB c0 c1 c2 c3 c4 c5 c6 c7 c8
  have HB3 := Lib.hid b3
  have HA3 := Lib.hid a3
  have c0 := q2.c0; have c1 := q2.c1; have c2 := q2.c2; have c3 := q2.c3; have c4 := q2.c4; have c5 := q2.c5; have c6 := q2.c6; have c7 := q2.c7; have c8 := q2.c8
  clear b2 b3 a3 q2
  go_wp2_with fail
  refine (O2.out _).mono ?_
  rintro e w3 ⟨rfl, hb3⟩
  have b4 := below_on HB3.out hb3
  have a4 := OBox.keep HA3.out hb3
  have b5 := b4.alloc (o := .cells (oCells o) 29) b4.size
  have hR : MaO w w2.heap.size w3.heap.size o o (w3.alloc (.cells (oCells o) 29)) := ⟨b5, HT.out.below b5, a4.alloc _, OBox.new w3 o⟩
  clear hb3 HB3 HA3 b4 b5 a4 l2 n2 c0 c1 c2 c3 c4 c5 c6 c7 c8
  unfold oCells at hR
  go_wp2_with fail
  go_region_held3 (fun w' => w'.cell? ⟨w2.heap.size, 0, none⟩ = some (.bool o.op) ∧ w'.cell? ⟨w2.heap.size, 1, none⟩ = some (.int .i64 o.id) ∧ w'.cell? ⟨w2.heap.size, 2, none⟩ = some (.string (bA o.scheme)) ∧ w'.cell? ⟨w2.heap.size, 3, none⟩ = some (.string (bA o.host.name)) ∧ w'.cell? ⟨w2.heap.size, 4, none⟩ = some (.bool o.host.v4) ∧ w'.cell? ⟨w2.heap.size, 5, none⟩ = some (.int .u32 o.host.addr) ∧ w'.cell? ⟨w2.heap.size, 6, none⟩ = some (.int .i64 o.port) ∧ w'.cell? ⟨w3.heap.size, 0, none⟩ = some (.bool o.op) ∧ w'.cell? ⟨w3.heap.size, 1, none⟩ = some (.int .i64 o.id) ∧ w'.cell? ⟨w3.heap.size, 2, none⟩ = some (.string (bA o.scheme)) ∧ w'.cell? ⟨w3.heap.size, 3, none⟩ = some (.string (bA o.host.name)) ∧ w'.cell? ⟨w3.heap.size, 4, none⟩ = some (.bool o.host.v4) ∧ w'.cell? ⟨w3.heap.size, 5, none⟩ = some (.int .u32 o.host.addr) ∧ w'.cell? ⟨w3.heap.size, 6, none⟩ = some (.int .i64 o.port) ∧ MaO w w2.heap.size w3.heap.size o o w')
    (first
      | exact hR.all
      | exact hR.drew.all
      | exact hR2.all
      | exact hR3.all)
    (first
      | (go_at_call 8; refine (T1.out _ hR.drew.tab).mono ?_; rintro e w7 ⟨rfl, hb7⟩; have hR2 := MaO.below hb7 hR.drew)
      | (go_at_call 9; refine (T2.out _ hR2.tab).mono ?_; rintro e w8 ⟨rfl, hb8⟩; have hR3 := MaO.below hb8 hR2))
  go_wp2_with fail
  go_ret
  exact ⟨rfl, hR3.bel⟩
end Go.Proofs.YtehjnidggnfbfaaGreatDoor
