/- The contract of urlp.Text. -/
import Derived.Test.YtbeckddgelcbhaaGreatDoorUrlpParse
import Derived.Deep.RegionHeld3
import Derived.Lib.ItoaLen
namespace Go.Proofs.YtbeckddgelcbhaaGreatDoor
open Go.RowKit

def portT (p : Int) : List UInt8 := if 0 ≤ p then 58 :: Lib.itoa p else []
def queryT (u : Urp.URL) : List UInt8 := if u.hasq then 63 :: u.query else []
/-- A URL as it is written. -/
def utextL (u : Urp.URL) : List UInt8 :=
  if Urp.netB u.scheme then u.scheme ++ [58, 47, 47] ++ textL u.host ++ portT u.port ++ u.path ++ queryT u
  else u.scheme ++ [58] ++ u.rest
theorem bA_app (a b : List UInt8) : bA a ++ bA b = bA (a ++ b) := by
  apply ByteArray.ext
  simp
theorem itoa_all (n : Int) (w : World) (h0 : -9223372036854775808 ≤ n) (h1 : n ≤ 9223372036854775807) (hT : Tab w) : Calls Tryz.prog 14 #[.int .i64 n] w fun e w' => e = .returned (.string (bA (Lib.itoa n))) ∧ Below w.heap.size w w' :=
  (Tryz.strconv_Itoa n h0 h1 w hT).mono (by rintro e w' ⟨rfl, k, os, rfl⟩; exact ⟨rfl, below_grow w k os⟩)
/-- The parts of a URL are small enough. -/
structure SmallU (u : Urp.URL) : Prop where
  sc : u.scheme.length ≤ 4000
  hn : u.host.name.length ≤ 4000
  a0 : 0 ≤ u.host.addr
  a1 : u.host.addr ≤ 4294967295
  p0 : -9223372036854775808 ≤ u.port
  p1 : u.port ≤ 9223372036854775807
  pa : u.path.length ≤ 4000
  qu : u.query.length ≤ 4000
  re : u.rest.length ≤ 4000

/-- What the calls of Text ask of the world. -/
structure TxReady (w0 : World) (B : Nat) (u : Urp.URL) (W : World) : Prop where
  bel : Below w0.heap.size w0 W
  tab : Tab W
  box : UBox W B u
theorem TxReady.below {w0 : World} {B : Nat} {u : Urp.URL} {W W' : World} (hb : Below W.heap.size W W') (h : TxReady w0 B u W) : TxReady w0 B u W' := ⟨below_on h.bel hb, h.tab.below hb, h.box.keep hb⟩
theorem TxReady.drew {w0 : World} {B : Nat} {u : Urp.URL} {W : World} (h : TxReady w0 B u W) : TxReady w0 B u W.drew := ⟨h.bel.drew, h.tab, h.box⟩
theorem TxReady.all {w0 : World} {B : Nat} {u : Urp.URL} {W : World} (h : TxReady w0 B u W) :
    W.cell? ⟨B, 0, none⟩ = some (.string (bA u.scheme)) ∧ W.cell? ⟨B, 1, none⟩ = some (.string (bA u.host.name)) ∧ W.cell? ⟨B, 2, none⟩ = some (.bool u.host.v4) ∧ W.cell? ⟨B, 3, none⟩ = some (.int .u32 u.host.addr) ∧ TxReady w0 B u W := ⟨h.box.c0, h.box.c1, h.box.c2, h.box.c3, h⟩
theorem textL_len (h : Hst.Host) (hn : h.name.length ≤ 4000) (a0 : 0 ≤ h.addr) (a1 : h.addr ≤ 4294967295) : (textL h).length ≤ 4000 := by
  unfold textL
  split
  · have := quad_join h.addr a0 a1; omega
  · exact hn

set_option maxHeartbeats 4000000 in
theorem utext_any (u : Urp.URL) (w : World) (hS : SmallU u) (hT : Tab w) : Calls Tryz.prog 7 #[urlV u] w fun e w' => e = .returned (.string (bA (utextL u))) ∧ Below w.heap.size w w' := by
  obtain ⟨s1, s2, a0, a1, p0, p1, s3, s4, s5⟩ := hS
  have hb0 : Below w.heap.size w (w.alloc (.cells (uCells u) 26)) := (Below.refl _ w).alloc (Nat.le_refl _) _
  have hR0 : TxReady w w.heap.size u (w.alloc (.cells (uCells u) 26)) := ⟨hb0, hT.below hb0, UBox.new w u⟩
  unfold urlV
  unfold uCells at hR0 ⊢
  cases hn : Urp.netB u.scheme with
  | false =>
    have hte : utextL u = u.scheme ++ [58] ++ u.rest := by unfold utextL; rw [hn]; rfl
    rw [hte]
    have HN := Lib.hid hn
    have HR := Lib.hid hR0
    clear hn hte hR0 hb0
    go_enter Tryz.func7, Tryz.ntmps7
    go_wp2_with fail
    refine (netV_any _ _ _ _ _ _ _ _ _ _).mono ?_
    rintro e w1 ⟨rfl, hb1⟩
    have r1 := TxReady.below hb1 HR.out
    have en : Urp.netB (bA u.scheme).data.toList = Urp.netB u.scheme := rfl
    rw [en, HN.out]
    clear hb1 en
    have c0 := r1.box.c0; have c8 := r1.box.c8
    have hB := r1.bel
    clear r1
    go_wp2_with fail
    go_ret
    refine ⟨Oct.ret_str ?_, hB⟩
    show bA u.scheme ++ bA [58] ++ bA u.rest = _
    rw [bA_app, bA_app]
  | true =>
    have hte : utextL u = u.scheme ++ [58, 47, 47] ++ textL u.host ++ portT u.port ++ u.path ++ queryT u := by unfold utextL; rw [hn]; rfl
    rw [hte]
    have HN := Lib.hid hn
    have HR := Lib.hid hR0
    obtain ⟨ht, hht⟩ : ∃ t, textL u.host = t := ⟨_, rfl⟩
    rw [hht]
    have HTX : Hid (∀ W : World, Tab W → Calls Tryz.prog 13 #[.agg #[.string (bA u.host.name), .bool u.host.v4, .int .u32 u.host.addr]] W fun e w' => e = .returned (.string (bA ht)) ∧ Below W.heap.size W w') := Lib.hid (fun W hW => by
      rw [← hht]; exact text_any (bA u.host.name) u.host.v4 u.host.addr W hW a0 a1)
    have htl : ht.length ≤ 4000 := by rw [← hht]; exact textL_len u.host s2 a0 a1
    have hz1 : ∀ W : World, (Op.stringOp .add (bA u.scheme) ⟨#[58, 47, 47]⟩).run Tryz.prog W = .ok (.string (bA u.scheme ++ ⟨#[58, 47, 47]⟩)) W := fun W => run_string_add_sum W _ _ (by
      have e1 : (bA u.scheme).size = u.scheme.length := rfl
      have e2 : (⟨#[58, 47, 47]⟩ : ByteArray).size = 3 := rfl
      omega)
    have hz2 : ∀ W : World, (Op.stringOp .add (bA u.scheme ++ ⟨#[58, 47, 47]⟩) (bA ht)).run Tryz.prog W = .ok (.string (bA u.scheme ++ ⟨#[58, 47, 47]⟩ ++ bA ht)) W := fun W => run_string_add_sum W _ _ (by
      have e1 : (bA u.scheme).size = u.scheme.length := rfl
      have e2 : (⟨#[58, 47, 47]⟩ : ByteArray).size = 3 := rfl
      have e3 : (bA ht).size = ht.length := rfl
      rw [ByteArray.size_append]
      omega)
    have hil := Lib.itoa_length_le u.port p0 p1
    clear hn hte hR0 hb0 hht
    have key : ∀ (P Q : List UInt8), portT u.port = P → queryT u = Q → Calls Tryz.prog 7 #[.agg #[.string (bA u.scheme), .string (bA u.host.name), .bool u.host.v4, .int .u32 u.host.addr, .int .i64 u.port, .string (bA u.path), .bool u.hasq, .string (bA u.query), .string (bA u.rest)]] w fun e w' => e = .returned (.string (bA (u.scheme ++ [58, 47, 47] ++ ht ++ P ++ u.path ++ Q))) ∧ Below w.heap.size w w' := by
      intro P Q hP hQ
      unfold portT at hP
      unfold queryT at hQ
      by_cases hp : 0 ≤ u.port
      · rw [if_pos hp] at hP
        rcases Bool.eq_false_or_eq_true u.hasq with hq | hq
        ·
          rw [hq, if_pos rfl] at hQ
          subst hP; subst hQ
          have HQ := Lib.hid hq
          clear hq
          go_enter Tryz.func7, Tryz.ntmps7
          go_wp2_with fail
          refine (netV_any _ _ _ _ _ _ _ _ _ _).mono ?_
          rintro e w1 ⟨rfl, hb1⟩
          have hR := TxReady.below hb1 HR.out
          have en : Urp.netB (bA u.scheme).data.toList = Urp.netB u.scheme := rfl
          rw [en, HN.out]
          clear hb1 en
          go_wp2_with fail
          go_region_held3 (fun w' => w'.cell? ⟨w.heap.size, 0, none⟩ = some (.string (bA u.scheme)) ∧ w'.cell? ⟨w.heap.size, 1, none⟩ = some (.string (bA u.host.name)) ∧ w'.cell? ⟨w.heap.size, 2, none⟩ = some (.bool u.host.v4) ∧ w'.cell? ⟨w.heap.size, 3, none⟩ = some (.int .u32 u.host.addr) ∧ TxReady w w.heap.size u w')
            (first
              | exact hR.all
              | exact hR.drew.all
              | exact hR2.all)
            (first
              | (go_at_call 13; refine (HTX.out _ hR.drew.tab).mono ?_; rintro e w2 ⟨rfl, hb2⟩; have hR2 := TxReady.below hb2 hR.drew))
          have k4 := hR2.box.c4
          go_wp2_with fail
          refine (itoa_all u.port _ p0 p1 hR2.tab).mono ?_
          rintro e w3 ⟨rfl, hb3⟩
          have r3 := TxReady.below hb3 hR2
          have hB := r3.bel
          have k5 := r3.box.c5; have k6 := r3.box.c6; have k7 := r3.box.c7
          rw [HQ.out] at k6
          go_wp2_with fail
          go_ret
          refine ⟨Oct.ret_str ?_, hB⟩
          show bA u.scheme ++ bA [58, 47, 47] ++ bA ht ++ (bA [58] ++ bA (Lib.itoa u.port)) ++ bA u.path ++ (bA [63] ++ bA u.query) = _
          simp only [bA_app]; rfl
        ·
          rw [hq, if_neg (by simp)] at hQ
          subst hP; subst hQ
          have HQ := Lib.hid hq
          clear hq
          go_enter Tryz.func7, Tryz.ntmps7
          go_wp2_with fail
          refine (netV_any _ _ _ _ _ _ _ _ _ _).mono ?_
          rintro e w1 ⟨rfl, hb1⟩
          have hR := TxReady.below hb1 HR.out
          have en : Urp.netB (bA u.scheme).data.toList = Urp.netB u.scheme := rfl
          rw [en, HN.out]
          clear hb1 en
          go_wp2_with fail
          go_region_held3 (fun w' => w'.cell? ⟨w.heap.size, 0, none⟩ = some (.string (bA u.scheme)) ∧ w'.cell? ⟨w.heap.size, 1, none⟩ = some (.string (bA u.host.name)) ∧ w'.cell? ⟨w.heap.size, 2, none⟩ = some (.bool u.host.v4) ∧ w'.cell? ⟨w.heap.size, 3, none⟩ = some (.int .u32 u.host.addr) ∧ TxReady w w.heap.size u w')
            (first
              | exact hR.all
              | exact hR.drew.all
              | exact hR2.all)
            (first
              | (go_at_call 13; refine (HTX.out _ hR.drew.tab).mono ?_; rintro e w2 ⟨rfl, hb2⟩; have hR2 := TxReady.below hb2 hR.drew))
          have k4 := hR2.box.c4
          go_wp2_with fail
          refine (itoa_all u.port _ p0 p1 hR2.tab).mono ?_
          rintro e w3 ⟨rfl, hb3⟩
          have r3 := TxReady.below hb3 hR2
          have hB := r3.bel
          have k5 := r3.box.c5; have k6 := r3.box.c6; have k7 := r3.box.c7
          rw [HQ.out] at k6
          go_wp2_with fail
          go_ret
          refine ⟨Oct.ret_str ?_, hB⟩
          show bA u.scheme ++ bA [58, 47, 47] ++ bA ht ++ (bA [58] ++ bA (Lib.itoa u.port)) ++ bA u.path = _
          simp only [bA_app, List.append_nil]; rfl
      · rw [if_neg hp] at hP
        have hp' : u.port < 0 := by omega
        rcases Bool.eq_false_or_eq_true u.hasq with hq | hq
        ·
          rw [hq, if_pos rfl] at hQ
          subst hP; subst hQ
          have HQ := Lib.hid hq
          clear hq
          go_enter Tryz.func7, Tryz.ntmps7
          go_wp2_with fail
          refine (netV_any _ _ _ _ _ _ _ _ _ _).mono ?_
          rintro e w1 ⟨rfl, hb1⟩
          have hR := TxReady.below hb1 HR.out
          have en : Urp.netB (bA u.scheme).data.toList = Urp.netB u.scheme := rfl
          rw [en, HN.out]
          clear hb1 en
          go_wp2_with fail
          go_region_held3 (fun w' => w'.cell? ⟨w.heap.size, 0, none⟩ = some (.string (bA u.scheme)) ∧ w'.cell? ⟨w.heap.size, 1, none⟩ = some (.string (bA u.host.name)) ∧ w'.cell? ⟨w.heap.size, 2, none⟩ = some (.bool u.host.v4) ∧ w'.cell? ⟨w.heap.size, 3, none⟩ = some (.int .u32 u.host.addr) ∧ TxReady w w.heap.size u w')
            (first
              | exact hR.all
              | exact hR.drew.all
              | exact hR2.all)
            (first
              | (go_at_call 13; refine (HTX.out _ hR.drew.tab).mono ?_; rintro e w2 ⟨rfl, hb2⟩; have hR2 := TxReady.below hb2 hR.drew))
          have k4 := hR2.box.c4
          have hB := hR2.bel
          have k5 := hR2.box.c5; have k6 := hR2.box.c6; have k7 := hR2.box.c7
          rw [HQ.out] at k6
          go_wp2_with fail
          go_ret
          refine ⟨Oct.ret_str ?_, hB⟩
          show bA u.scheme ++ bA [58, 47, 47] ++ bA ht ++ bA u.path ++ (bA [63] ++ bA u.query) = _
          simp only [bA_app, List.append_nil]; rfl
        ·
          rw [hq, if_neg (by simp)] at hQ
          subst hP; subst hQ
          have HQ := Lib.hid hq
          clear hq
          go_enter Tryz.func7, Tryz.ntmps7
          go_wp2_with fail
          refine (netV_any _ _ _ _ _ _ _ _ _ _).mono ?_
          rintro e w1 ⟨rfl, hb1⟩
          have hR := TxReady.below hb1 HR.out
          have en : Urp.netB (bA u.scheme).data.toList = Urp.netB u.scheme := rfl
          rw [en, HN.out]
          clear hb1 en
          go_wp2_with fail
          go_region_held3 (fun w' => w'.cell? ⟨w.heap.size, 0, none⟩ = some (.string (bA u.scheme)) ∧ w'.cell? ⟨w.heap.size, 1, none⟩ = some (.string (bA u.host.name)) ∧ w'.cell? ⟨w.heap.size, 2, none⟩ = some (.bool u.host.v4) ∧ w'.cell? ⟨w.heap.size, 3, none⟩ = some (.int .u32 u.host.addr) ∧ TxReady w w.heap.size u w')
            (first
              | exact hR.all
              | exact hR.drew.all
              | exact hR2.all)
            (first
              | (go_at_call 13; refine (HTX.out _ hR.drew.tab).mono ?_; rintro e w2 ⟨rfl, hb2⟩; have hR2 := TxReady.below hb2 hR.drew))
          have k4 := hR2.box.c4
          have hB := hR2.bel
          have k5 := hR2.box.c5; have k6 := hR2.box.c6; have k7 := hR2.box.c7
          rw [HQ.out] at k6
          go_wp2_with fail
          go_ret
          refine ⟨Oct.ret_str ?_, hB⟩
          show bA u.scheme ++ bA [58, 47, 47] ++ bA ht ++ bA u.path = _
          simp only [bA_app, List.append_nil]
    exact key _ _ rfl rfl
end Go.Proofs.YtbeckddgelcbhaaGreatDoor
