/- The contract of origin.Text. -/
import Derived.Test.YtehjnidggnfbfaaGreatDoorOrigPort
import Derived.Test.YtehjnidggnfbfaaGreatDoorUrlpText
import Derived.Deep.RegionHeld3
import Derived.Lib.ItoaLen
namespace Go.Proofs.YtehjnidggnfbfaaGreatDoor
open Go.RowKit

/-- The parts of an origin are small enough. -/
structure SmallO (o : Orig) : Prop where
  sc : o.scheme.length ≤ 140737488351232
  hn : o.host.name.length ≤ 4000
  a0 : 0 ≤ o.host.addr
  a1 : o.host.addr ≤ 4294967295
  p0 : -9223372036854775808 ≤ o.port
  p1 : o.port ≤ 9223372036854775807
/-- What the calls of Text ask of the world. -/
structure OReady (w0 : World) (B : Nat) (o : Orig) (W : World) : Prop where
  bel : Below w0.heap.size w0 W
  tab : Tab W
  box : OBox W B o
theorem OReady.below {w0 : World} {B : Nat} {o : Orig} {W W' : World} (hb : Below W.heap.size W W') (h : OReady w0 B o W) : OReady w0 B o W' := ⟨below_on h.bel hb, h.tab.below hb, h.box.keep hb⟩
theorem OReady.drew {w0 : World} {B : Nat} {o : Orig} {W : World} (h : OReady w0 B o W) : OReady w0 B o W.drew := ⟨h.bel.drew, h.tab, h.box⟩
theorem OReady.all {w0 : World} {B : Nat} {o : Orig} {W : World} (h : OReady w0 B o W) :
    W.cell? ⟨B, 2, none⟩ = some (.string (bA o.scheme)) ∧ W.cell? ⟨B, 3, none⟩ = some (.string (bA o.host.name)) ∧ W.cell? ⟨B, 4, none⟩ = some (.bool o.host.v4) ∧ W.cell? ⟨B, 5, none⟩ = some (.int .u32 o.host.addr) ∧ OReady w0 B o W := ⟨h.box.c2, h.box.c3, h.box.c4, h.box.c5, h⟩

set_option maxHeartbeats 4000000 in
theorem otext_any (o : Orig) (w : World) (hS : SmallO o) (hT : Tab w) : Calls Tryz.prog 8 #[origV o] w fun e w' => e = .returned (.string (bA (otextL o))) ∧ Below w.heap.size w w' := by
  obtain ⟨s1, s2, a0, a1, p0, p1⟩ := hS
  have hb0 : Below w.heap.size w (w.alloc (.cells (oCells o) 29)) := (Below.refl _ w).alloc (Nat.le_refl _) _
  have hR0 : OReady w w.heap.size o (w.alloc (.cells (oCells o) 29)) := ⟨hb0, hT.below hb0, OBox.new w o⟩
  unfold origV
  cases ho : o.op with
  | true =>
    have hte : otextL o = [110, 117, 108, 108] := by unfold otextL; rw [ho]; rfl
    rw [hte]
    have HB := Lib.hid hb0
    clear hte hR0 hb0
    unfold oCells at HB ⊢
    rw [ho] at HB ⊢
    clear ho
    go_enter Tryz.func8, Tryz.ntmps8
    go_wp2_with fail
    go_ret
    exact ⟨rfl, HB.out⟩
  | false =>
    have hte : otextL o = o.scheme ++ [58, 47, 47] ++ textL o.host ++ otail o := by unfold otextL; rw [ho]; rfl
    rw [hte]
    obtain ⟨ht, hht⟩ : ∃ t, textL o.host = t := ⟨_, rfl⟩
    obtain ⟨tl, htl0⟩ : ∃ t, otail o = t := ⟨_, rfl⟩
    rw [hht, htl0]
    have HTX : Hid (∀ W : World, Tab W → Calls Tryz.prog 24 #[.agg #[.string (bA o.host.name), .bool o.host.v4, .int .u32 o.host.addr]] W fun e w' => e = .returned (.string (bA ht)) ∧ Below W.heap.size W w') := Lib.hid (fun W hW => by
      rw [← hht]; exact text_any (bA o.host.name) o.host.v4 o.host.addr W hW a0 a1)
    have htl : ht.length ≤ 4000 := by rw [← hht]; exact textL_len o.host s2 a0 a1
    have hz1 : ∀ W : World, (Op.stringOp .add (bA o.scheme) ⟨#[58, 47, 47]⟩).run Tryz.prog W = .ok (.string (bA o.scheme ++ ⟨#[58, 47, 47]⟩)) W := fun W => run_string_add_sum W _ _ (by
      have e1 : (bA o.scheme).size = o.scheme.length := rfl
      have e2 : (⟨#[58, 47, 47]⟩ : ByteArray).size = 3 := rfl
      omega)
    have hz2 : ∀ W : World, (Op.stringOp .add (bA o.scheme ++ ⟨#[58, 47, 47]⟩) (bA ht)).run Tryz.prog W = .ok (.string (bA o.scheme ++ ⟨#[58, 47, 47]⟩ ++ bA ht)) W := fun W => run_string_add_sum W _ _ (by
      have e1 : (bA o.scheme).size = o.scheme.length := rfl
      have e2 : (⟨#[58, 47, 47]⟩ : ByteArray).size = 3 := rfl
      have e3 : (bA ht).size = ht.length := rfl
      rw [ByteArray.size_append]
      omega)
    have hil := Lib.itoa_length_le o.port p0 p1
    have HD := Lib.hid (fun W => defaultPort_any o.scheme W (by unfold maxLen; omega))
    unfold otail at htl0
    obtain ⟨d, hd⟩ : ∃ d, dport o.scheme = d := ⟨_, rfl⟩
    rw [hd] at HD htl0
    unfold oCells at hR0 ⊢
    rw [ho] at hR0 ⊢
    have HR := Lib.hid hR0
    clear hte hR0 hb0 hht ho hd
    cases hn : Urp.netB o.scheme with
    | false =>
      rw [hn] at HD htl0
      have htl1 : tl = 58 :: Lib.itoa o.port := by rw [← htl0]; rfl
      subst htl1
      clear htl0 hn
      go_enter Tryz.func8, Tryz.ntmps8
      go_wp2_with fail
      have hR := HR.out
      go_region_held3 (fun w' => w'.cell? ⟨w.heap.size, 2, none⟩ = some (.string (bA o.scheme)) ∧ w'.cell? ⟨w.heap.size, 3, none⟩ = some (.string (bA o.host.name)) ∧ w'.cell? ⟨w.heap.size, 4, none⟩ = some (.bool o.host.v4) ∧ w'.cell? ⟨w.heap.size, 5, none⟩ = some (.int .u32 o.host.addr) ∧ OReady w w.heap.size o w')
        (first
          | exact hR.all
          | exact hR.drew.all
          | exact hR2.all)
        (first
          | (go_at_call 24; refine (HTX.out _ hR.drew.tab).mono ?_; rintro e w2 ⟨rfl, hb2⟩; have hR2 := OReady.below hb2 hR.drew))
      have k2 := hR2.box.c2
      go_wp2_with fail
      refine (HD.out _).mono ?_
      rintro e w3 ⟨rfl, hb3⟩
      have hR3 := OReady.below hb3 hR2
      have k6 := hR3.box.c6
      have ht3 := hR3.tab
      go_wp2_with fail
      refine (itoa_all o.port _ p0 p1 ht3).mono ?_
      rintro e w4 ⟨rfl, hb4⟩
      have hB := (OReady.below hb4 hR3).bel
      go_wp2_with fail
      go_ret
      refine ⟨Oct.ret_str ?_, hB⟩
      show bA o.scheme ++ bA [58, 47, 47] ++ bA ht ++ bA [58] ++ bA (Lib.itoa o.port) = _
      simp only [bA_app, List.append_assoc]; rfl
    | true =>
      rw [hn] at HD htl0
      clear hn
      by_cases hdp : d = o.port
      · have hdb : (d == o.port) = true := beq_iff_eq.2 hdp
        rw [hdb] at htl0
        have htl1 : tl = [] := by rw [← htl0]; rfl
        subst htl1
        clear htl0 hdp
        go_enter Tryz.func8, Tryz.ntmps8
        go_wp2_with fail
        have hR := HR.out
        go_region_held3 (fun w' => w'.cell? ⟨w.heap.size, 2, none⟩ = some (.string (bA o.scheme)) ∧ w'.cell? ⟨w.heap.size, 3, none⟩ = some (.string (bA o.host.name)) ∧ w'.cell? ⟨w.heap.size, 4, none⟩ = some (.bool o.host.v4) ∧ w'.cell? ⟨w.heap.size, 5, none⟩ = some (.int .u32 o.host.addr) ∧ OReady w w.heap.size o w')
          (first
            | exact hR.all
            | exact hR.drew.all
            | exact hR2.all)
          (first
            | (go_at_call 24; refine (HTX.out _ hR.drew.tab).mono ?_; rintro e w2 ⟨rfl, hb2⟩; have hR2 := OReady.below hb2 hR.drew))
        have k2 := hR2.box.c2
        go_wp2_with fail
        refine (HD.out _).mono ?_
        rintro e w3 ⟨rfl, hb3⟩
        have hR3 := OReady.below hb3 hR2
        have k6 := hR3.box.c6
        have hB := hR3.bel
        go_wp2_with fail
        go_ret
        refine ⟨Oct.ret_str ?_, hB⟩
        show bA o.scheme ++ bA [58, 47, 47] ++ bA ht = _
        simp only [bA_app, List.append_nil]
      · have hdb : (d == o.port) = false := beq_eq_false_iff_ne.2 hdp
        rw [hdb] at htl0
        have htl1 : tl = 58 :: Lib.itoa o.port := by rw [← htl0]; rfl
        subst htl1
        clear htl0 hdp
        go_enter Tryz.func8, Tryz.ntmps8
        go_wp2_with fail
        have hR := HR.out
        go_region_held3 (fun w' => w'.cell? ⟨w.heap.size, 2, none⟩ = some (.string (bA o.scheme)) ∧ w'.cell? ⟨w.heap.size, 3, none⟩ = some (.string (bA o.host.name)) ∧ w'.cell? ⟨w.heap.size, 4, none⟩ = some (.bool o.host.v4) ∧ w'.cell? ⟨w.heap.size, 5, none⟩ = some (.int .u32 o.host.addr) ∧ OReady w w.heap.size o w')
          (first
            | exact hR.all
            | exact hR.drew.all
            | exact hR2.all)
          (first
            | (go_at_call 24; refine (HTX.out _ hR.drew.tab).mono ?_; rintro e w2 ⟨rfl, hb2⟩; have hR2 := OReady.below hb2 hR.drew))
        have k2 := hR2.box.c2
        go_wp2_with fail
        refine (HD.out _).mono ?_
        rintro e w3 ⟨rfl, hb3⟩
        have hR3 := OReady.below hb3 hR2
        have k6 := hR3.box.c6
        have ht3 := hR3.tab
        go_wp2_with fail
        refine (itoa_all o.port _ p0 p1 ht3).mono ?_
        rintro e w4 ⟨rfl, hb4⟩
        have hB := (OReady.below hb4 hR3).bel
        go_wp2_with fail
        go_ret
        refine ⟨Oct.ret_str ?_, hB⟩
        show bA o.scheme ++ bA [58, 47, 47] ++ bA ht ++ bA [58] ++ bA (Lib.itoa o.port) = _
        simp only [bA_app, List.append_assoc]; rfl
end Go.Proofs.YtehjnidggnfbfaaGreatDoor
