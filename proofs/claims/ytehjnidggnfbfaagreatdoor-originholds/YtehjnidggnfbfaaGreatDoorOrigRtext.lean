/- The document's Text, Same, Site and SameSite of origins. -/
import Derived.Test.YtehjnidggnfbfaaGreatDoorOrigSite
import Derived.Test.YtehjnidggnfbfaaGreatDoorHostAll
namespace Go.Proofs.YtehjnidggnfbfaaGreatDoor
open Go.RowKit

def ownB (o : Orig) : Bool := (o.scheme == Urp.sHttp && o.port == 80) || (o.scheme == Urp.sHttps && o.port == 443)
theorem otail_own (o : Orig) : otail o = if ownB o then [] else 58 :: Lib.itoa o.port := by
  have e : (Urp.netB o.scheme && dport o.scheme == o.port) = ownB o := by
    unfold ownB
    by_cases h1 : o.scheme = Urp.sHttp
    · rw [h1, Bool.eq_iff_iff]
      have e1 : Urp.netB Urp.sHttp = true := rfl
      have e2 : dport Urp.sHttp = 80 := rfl
      have e3 : (Urp.sHttp == Urp.sHttps) = false := rfl
      have e4 : (Urp.sHttp == Urp.sHttp) = true := rfl
      rw [e1, e2, e3, e4]
      simp only [Bool.true_and, Bool.false_and, Bool.or_false, beq_iff_eq]
      exact eq_comm
    · by_cases h2 : o.scheme = Urp.sHttps
      · rw [h2, Bool.eq_iff_iff]
        have e1 : Urp.netB Urp.sHttps = true := rfl
        have e2 : dport Urp.sHttps = 443 := rfl
        have e3 : (Urp.sHttps == Urp.sHttp) = false := rfl
        have e4 : (Urp.sHttps == Urp.sHttps) = true := rfl
        rw [e1, e2, e3, e4]
        simp only [Bool.true_and, Bool.false_and, Bool.false_or, beq_iff_eq]
        exact eq_comm
      · have e1 : Urp.netB o.scheme = false := by unfold Urp.netB; simp [h1, h2]
        have e2 : (o.scheme == Urp.sHttp) = false := beq_eq_false_iff_ne.2 h1
        have e3 : (o.scheme == Urp.sHttps) = false := beq_eq_false_iff_ne.2 h2
        rw [e1, e2, e3]; rfl
  unfold otail
  rw [e]

set_option maxHeartbeats 4000000 in
theorem rotext_any (o : Orig) (w : World) (hS : SmallO o) (hT : Tab w) : Calls Tryz.prog 9 #[origV o] w fun e w' => e = .returned (.string (bA (otextL o))) ∧ Below w.heap.size w w' := by
  obtain ⟨s1, s2, a0, a1, p0, p1⟩ := hS
  have hb0 : Below w.heap.size w (w.alloc (.cells (oCells o) 29)) := (Below.refl _ w).alloc (Nat.le_refl _) _
  have hR0 : OReady w w.heap.size o (w.alloc (.cells (oCells o) 29)) := ⟨hb0, hT.below hb0, OBox.new w o⟩
  unfold origV
  cases ho : o.op with
  | true =>
    have hte : otextL o = [110, 117, 108, 108] := by unfold otextL; rw [ho]; rfl
    rw [hte]
    have HB := Lib.hid hb0
    clear hte hR0 hb0
    unfold oCells at HB ⊢
    rw [ho] at HB ⊢
    clear ho
    go_enter Tryz.func9, Tryz.ntmps9
    go_wp2_with fail
    go_ret
    exact ⟨rfl, HB.out⟩
  | false =>
    have hte : otextL o = o.scheme ++ [58, 47, 47] ++ textL o.host ++ otail o := by unfold otextL; rw [ho]; rfl
    rw [hte, otail_own]
    obtain ⟨ht, hht⟩ : ∃ t, textL o.host = t := ⟨_, rfl⟩
    obtain ⟨tl, htl0⟩ : ∃ t, (if ownB o then [] else 58 :: Lib.itoa o.port) = t := ⟨_, rfl⟩
    rw [hht, htl0]
    have HTX : Hid (∀ W : World, Tab W → Calls Tryz.prog 26 #[.agg #[.string (bA o.host.name), .bool o.host.v4, .int .u32 o.host.addr]] W fun e w' => e = .returned (.string (bA ht)) ∧ Below W.heap.size W w') := Lib.hid (fun W hW => by
      rw [← hht]; exact rtext_any (bA o.host.name) o.host.v4 o.host.addr W hW a0 a1)
    have htl : ht.length ≤ 4000 := by rw [← hht]; exact textL_len o.host s2 a0 a1
    have hz1 : ∀ W : World, (Op.stringOp .add (bA o.scheme) ⟨#[58, 47, 47]⟩).run Tryz.prog W = .ok (.string (bA o.scheme ++ ⟨#[58, 47, 47]⟩)) W := fun W => run_string_add_sum W _ _ (by
      have e1 : (bA o.scheme).size = o.scheme.length := rfl
      have e2 : (⟨#[58, 47, 47]⟩ : ByteArray).size = 3 := rfl
      omega)
    have hz2 : ∀ W : World, (Op.stringOp .add (bA o.scheme ++ ⟨#[58, 47, 47]⟩) (bA ht)).run Tryz.prog W = .ok (.string (bA o.scheme ++ ⟨#[58, 47, 47]⟩ ++ bA ht)) W := fun W => run_string_add_sum W _ _ (by
      have e1 : (bA o.scheme).size = o.scheme.length := rfl
      have e2 : (⟨#[58, 47, 47]⟩ : ByteArray).size = 3 := rfl
      have e3 : (bA ht).size = ht.length := rfl
      rw [ByteArray.size_append]
      omega)
    have hil := Lib.itoa_length_le o.port p0 p1
    unfold oCells at hR0 ⊢
    rw [ho] at hR0 ⊢
    have HR := Lib.hid hR0
    clear hte hR0 hb0 hht ho
    have key : ∀ (x1 x2 x3 x4 : Bool), (o.scheme == [104, 116, 116, 112]) = x1 → (o.port == 80) = x2 → (o.scheme == [104, 116, 116, 112, 115]) = x3 → (o.port == 443) = x4 →
        ((x1 = true ∧ x2 = true ∧ tl = []) ∨ (x1 = true ∧ x2 = false ∧ x3 = false ∧ tl = 58 :: Lib.itoa o.port) ∨ (x1 = false ∧ x3 = true ∧ x4 = true ∧ tl = []) ∨ (x1 = false ∧ x3 = true ∧ x4 = false ∧ tl = 58 :: Lib.itoa o.port) ∨ (x1 = false ∧ x3 = false ∧ tl = 58 :: Lib.itoa o.port)) →
        Calls Tryz.prog 9 #[.agg #[.bool false, .int .i64 o.id, .string (bA o.scheme), .string (bA o.host.name), .bool o.host.v4, .int .u32 o.host.addr, .int .i64 o.port]] w fun e w' => e = .returned (.string (bA (o.scheme ++ [58, 47, 47] ++ ht ++ tl))) ∧ Below w.heap.size w w' := by
      intro x1 x2 x3 x4 e1 e2 e3 e4 hw
      have BY : Hid (bA o.scheme ++ bA [58, 47, 47] ++ bA ht = bA (o.scheme ++ [58, 47, 47] ++ ht)) := Lib.hid (by simp only [bA_app])
      rcases hw with ⟨rfl, rfl, rfl⟩ | ⟨rfl, rfl, rfl, rfl⟩ | ⟨rfl, rfl, rfl, rfl⟩ | ⟨rfl, rfl, rfl, rfl⟩ | ⟨rfl, rfl, rfl⟩
      all_goals
        go_enter Tryz.func9, Tryz.ntmps9
        go_wp2_with fail
        have hR := HR.out
        go_region_held3 (fun w' => w'.cell? ⟨w.heap.size, 2, none⟩ = some (.string (bA o.scheme)) ∧ w'.cell? ⟨w.heap.size, 3, none⟩ = some (.string (bA o.host.name)) ∧ w'.cell? ⟨w.heap.size, 4, none⟩ = some (.bool o.host.v4) ∧ w'.cell? ⟨w.heap.size, 5, none⟩ = some (.int .u32 o.host.addr) ∧ OReady w w.heap.size o w')
          (first
            | exact hR.all
            | exact hR.drew.all
            | exact hR2.all)
          (first
            | (go_at_call 26; refine (HTX.out _ hR.drew.tab).mono ?_; rintro e w2 ⟨rfl, hb2⟩; have hR2 := OReady.below hb2 hR.drew))
        have k2 := hR2.box.c2
        have k6 := hR2.box.c6
        have ht3 := hR2.tab
        have hB := hR2.bel
        go_wp2_with fail
        first
        | (go_ret
           refine ⟨Oct.ret_str ?_, hB⟩
           rw [List.append_nil]
           exact BY.out)
        | (refine (itoa_all o.port _ p0 p1 ht3).mono ?_
           rintro e w4 ⟨rfl, hb4⟩
           have hB2 := (OReady.below hb4 hR2).bel
           go_wp2_with fail
           go_ret
           refine ⟨Oct.ret_str ?_, hB2⟩
           show bA o.scheme ++ bA [58, 47, 47] ++ bA ht ++ bA [58] ++ bA (Lib.itoa o.port) = _
           simp only [bA_app, List.append_assoc]; rfl)
    refine key _ _ _ _ rfl rfl rfl rfl ?_
    unfold ownB at htl0
    have q1 : (o.scheme == Urp.sHttp) = (o.scheme == [104, 116, 116, 112]) := rfl
    have q2 : (o.scheme == Urp.sHttps) = (o.scheme == [104, 116, 116, 112, 115]) := rfl
    rw [q1, q2] at htl0
    cases h1 : (o.scheme == [104, 116, 116, 112]) with
    | true =>
      have h3 : (o.scheme == [104, 116, 116, 112, 115]) = false := by rw [beq_iff_eq.1 h1]; rfl
      rw [h1, h3] at htl0
      cases h2 : (o.port == 80) with
      | true => rw [h2] at htl0; exact .inl ⟨rfl, rfl, htl0.symm⟩
      | false => rw [h2] at htl0; exact .inr (.inl ⟨rfl, rfl, h3, htl0.symm⟩)
    | false =>
      rw [h1] at htl0
      cases h3 : (o.scheme == [104, 116, 116, 112, 115]) with
      | true =>
        rw [h3] at htl0
        cases h4 : (o.port == 443) with
        | true => rw [h4] at htl0; exact .inr (.inr (.inl ⟨rfl, rfl, rfl, htl0.symm⟩))
        | false => rw [h4] at htl0; exact .inr (.inr (.inr (.inl ⟨rfl, rfl, rfl, htl0.symm⟩)))
      | false => rw [h3] at htl0; exact .inr (.inr (.inr (.inr ⟨rfl, rfl, htl0.symm⟩)))
end Go.Proofs.YtehjnidggnfbfaaGreatDoor
