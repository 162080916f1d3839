/- The contracts of the document's first directive of a name, and of its policy of a text. -/
import Derived.Test.YtcmbckacbdiebaaCsMath2
import Derived.Test.YtcmbckacbdiebaaCsSeen
import Derived.Test.YtcmbckacbdiebaaOctRwords
import Derived.Test.YtcmbckacbdiebaaOctLow
namespace Go.Proofs.Ytcmbckacbdiebaa
open Go.RowKit

theorem rlow_at (s : List UInt8) (w : World) (hs : s.length ≤ 100000000) : Calls Try.prog 36 #[.string (bA s)] w fun e w' => e = .returned (.string (bA (Oct.lower s))) ∧ Below w.heap.size w w' :=
  rlower_any (bA s) w (by rw [bA_size]; unfold maxLen; omega)
theorem rsplit_at (s : List UInt8) (b : Int) (w : World) (hs : s.length ≤ 100000000) : Calls Try.prog 26 #[.string (bA s), .int .u8 b] w (RetTexts w (Oct.split (fun x => x == b) s)) :=
  rsplit_any (bA s) b w (by rw [bA_size]; omega)
theorem rwords_at (s : List UInt8) (w : World) (hs : s.length ≤ 100000000) : Calls Try.prog 35 #[.string (bA s)] w (RetTexts w (Oct.words s)) :=
  rwords_any (bA s) w (by rw [bA_size]; omega)
/-- What a first directive is handed back as. -/
def RetFirst (w : World) (r : Option (List (List UInt8))) (e : Ending) (w' : World) : Prop :=
  ∃ A c, e = .returned (.tuple #[.slice A (r.getD []).length c, .bool r.isSome]) ∧ Below w.heap.size w w' ∧ TextsIn w' A (r.getD [])
set_option maxHeartbeats 4000000 in
theorem rfirst_any (s n : List UInt8) (w : World) (hs : s.length ≤ 10000000) : Calls Try.prog 23 #[.string (bA s), .string (bA n)] w (RetFirst w (Cs.firstD (Cs.dirs s) n)) := by
  have hcall := rsplit_at s 59 w (by omega)
  have hq : Cs.dirs s = Cs.dirsQ (Oct.split (fun x => x == 59) s) := rfl
  have hsm : ∀ q ∈ Oct.split (fun x => x == 59) s, q.length ≤ 10000000 := fun q hq => Nat.le_trans (Cs.part_len hq) hs
  have hln : (Oct.split (fun x => x == 59) s).length ≤ 10000001 := by have := Oct.split_len (fun x => x == 59) s; omega
  rw [hq]
  obtain ⟨qs, hqs⟩ : ∃ qs, Oct.split (fun x => x == 59) s = qs := ⟨_, rfl⟩
  rw [hqs] at hcall hsm hln ⊢
  have HC := Lib.hid hcall; have HSM := Lib.hid hsm
  clear hcall hq hsm hqs
  go_enter Try.func23, Try.ntmps23
  go_wp2_with fail
  refine HC.out.mono ?_
  rintro e w1 ⟨v, rfl, hb1, hr1⟩
  obtain ⟨A2, c2, rfl, _⟩ := own_cap hr1
  have HR1 := Lib.hid hr1; have HB1 := Lib.hid hb1
  clear hb1 hr1 HC
  go_wp2
  go_loopw [7] (fun i wr => ∃ k : Nat, k ≤ qs.length ∧ i = .int .i64 k ∧ Hid (Cs.firstD (Cs.dirsQ (qs.take k)) n = none) ∧ Hid (Below w1.heap.size w1 wr)) (fun i _ => qs.length - (intOf i).toNat)
  case atStart => exact ⟨0, by omega, rfl, Lib.hid rfl, Lib.hid (Below.refl _ _)⟩
  case round =>
    obtain ⟨k, hk, rfl, hno, hbel⟩ := hrel
    by_cases hlt : k < qs.length
    · rcases owns_view (owns_below HR1.out hbel.out) with ⟨e1, h0⟩ | ⟨g, cap, e1, _, hg, hgb, hc⟩
      · exfalso; rw [h0] at hlt; simp at hlt
      · cases e1
        have hce := hc k hlt
        have hql : qs[k].length ≤ 10000000 := HSM.out _ (List.getElem_mem hlt)
        have hsucc := Cs.firstQ_succ hlt n
        rw [hno.out] at hsucc
        have hall := fun x => Cs.firstQ_all (qs := qs) (k := k + 1) n (x := x)
        obtain ⟨q, hq⟩ : ∃ q, qs[k] = q := ⟨_, rfl⟩
        rw [hq] at hce hql hsucc
        unfold Oct.strV at hce
        have hcall := fun W => rwords_at q W (by omega)
        have hwl := Oct.words_len q
        have hww := fun x hx => Oct.word_len q x hx
        clear hc hq
        cases hw : Oct.words q with
        | nil =>
          rw [Cs.dirsQ_none hw] at hsucc
          have HS : Hid (Cs.firstD (Cs.dirsQ (qs.take (k + 1))) n = none) := Lib.hid (by rw [hsucc]; rfl)
          rw [hw] at hcall
          clear hsucc hall hww hwl hw
          go_wp2_with fail
          refine (hcall _).mono ?_
          rintro e w2 ⟨v2, rfl, hb2, hr2⟩
          obtain ⟨A3, c3, rfl, _⟩ := own_cap hr2
          have HB2 := Lib.hid (hbel.out.trans (hb2.mono hbel.out.size))
          clear hcall hb2 hr2
          go_wp2_with fail
          exact ⟨⟨k + 1, by omega, by go_num, HS, HB2⟩, by simp [intOf]; omega⟩
        | cons x r =>
          rw [Cs.dirsQ_some hw, Cs.first_one] at hsucc
          have hxl : x.length ≤ 10000000 := Nat.le_trans (hww x (by rw [hw]; simp)) hql
          have hlow := fun W => rlow_at x W (by omega)
          rw [hw] at hcall hwl
          have hM : (x :: r).length = r.length + 1 := rfl
          have hMz : (0 : Int) < ((r.length + 1 : Nat) : Int) := by omega
          clear hww hw
          obtain ⟨y, hy⟩ : ∃ y, Oct.lower x = y := ⟨_, rfl⟩
          rw [hy] at hsucc
          simp only [hy] at hlow
          have HL := Lib.hid hlow
          clear hlow hy
          go_wp2_with fail
          refine (hcall _).mono ?_
          rintro e w2 ⟨v2, rfl, hb2, hr2⟩
          obtain ⟨A3, c3, rfl, hcap⟩ := own_cap hr2
          have HB2 := Lib.hid (hbel.out.trans (hb2.mono hbel.out.size))
          have HT2 := Lib.hid (own_texts hr2)
          obtain ⟨g3, o3, rfl, hg3, hc3⟩ := HT2.out.seen (by simp)
          have hx0 : w2.cell? ⟨g3, o3, none⟩ = some (.string (bA x)) := hc3 0 (by simp)
          rw [hM] at hcap ⊢
          obtain ⟨A4, hA4, hA4s⟩ := texts_from (some ⟨g3, o3, none⟩) (r.length + 1) c3 1 (by omega) hcap
          have HA4 := Lib.hid hA4s
          have hsl : ∀ W : World, (Instr.slice 24 (.slice (some ⟨g3, o3, none⟩) (r.length + 1) c3) (some (.int .i64 1)) none none).run Try.prog W = .ok (.slice A4 r.length (c3 - 1)) W := fun W => by
            have := hA4 W
            rwa [Nat.add_sub_cancel] at this
          clear hcall hb2 hr2 hc3 hA4 hA4s hcap
          go_wp2_with fail
          refine (HL.out _).mono ?_
          rintro e w3 ⟨rfl, hb3⟩
          have HB3 := Lib.hid (HB2.out.trans (hb3.mono HB2.out.size))
          have HT3 := Lib.hid (HA4.out w3 (x :: r) rfl (HT2.out.below hb3))
          clear hb3 hx0 HL HB2
          cases hyn : y == n with
          | true =>
            rw [if_pos hyn] at hsucc
            have HR := Lib.hid (hall r (by rw [hsucc]; rfl))
            have HYN := Lib.hid hyn
            clear hsucc hall
            go_wp2_with fail
            go_ret2
            rw [HR.out]
            exact ⟨A4, c3 - 1, rfl, Below.onto HB1.out HB3.out, HT3.out⟩
          | false =>
            rw [if_neg (by rw [hyn]; decide)] at hsucc
            have HS : Hid (Cs.firstD (Cs.dirsQ (qs.take (k + 1))) n = none) := Lib.hid (by rw [hsucc]; rfl)
            clear hsucc hall
            go_wp2_with fail
            exact ⟨⟨k + 1, by omega, by go_num, HS, HB3⟩, by simp [intOf]; omega⟩
    · obtain rfl : k = qs.length := by omega
      have hno2 := hno.out
      rw [List.take_of_length_le (Nat.le_refl _)] at hno2
      have HN := Lib.hid hno2
      clear hno hno2
      go_wp2_with fail
      go_ret2
      rw [HN.out]
      exact ⟨none, 0, rfl, Below.onto HB1.out hbel.out, TextsIn.nil _ _⟩
theorem one_fit {s : List UInt8} (hs : s.length ≤ 10000000) : FitP (Cs.one s) := by
  have h := Cs.one_words s
  exact ⟨by have := h.1.1; omega, by have := h.2.1; omega⟩
/-- What a policy is handed back as. -/
def RetPol (w : World) (p : Cs.Pol) (e : Ending) (w' : World) : Prop := ∃ v, e = .returned v ∧ Below w.heap.size w w' ∧ PolIn w' p v
set_option maxHeartbeats 4000000 in
theorem rcsOne_any (s : List UInt8) (w : World) (hs : s.length ≤ 10000000) : Calls Try.prog 12 #[.string (bA s)] w (RetPol w (Cs.one s)) := by
  have c1 := fun W => rfirst_any s Cs.nA W hs
  have c2 := fun W => rfirst_any s Cs.nB W hs
  have hone : Cs.one s = Cs.mk (Cs.firstD (Cs.dirs s) Cs.nA) (Cs.firstD (Cs.dirs s) Cs.nB) := rfl
  rw [hone]
  obtain ⟨r1, h1⟩ : ∃ r, Cs.firstD (Cs.dirs s) Cs.nA = r := ⟨_, rfl⟩
  obtain ⟨r2, h2⟩ : ∃ r, Cs.firstD (Cs.dirs s) Cs.nB = r := ⟨_, rfl⟩
  simp only [h1] at c1 ⊢
  simp only [h2] at c2 ⊢
  have C1 := Lib.hid c1; have C2 := Lib.hid c2
  have HB0 : Hid (Below w.heap.size w (w.alloc (.cells #[.bool false, .slice none 0 0, .bool false, .slice none 0 0] 26))) := Lib.hid ((Below.refl _ _).alloc (Nat.le_refl _) _)
  have HX0 := Lib.hid (CBox.new w 26 #[.bool false, .slice none 0 0, .bool false, .slice none 0 0])
  clear c1 c2 h1 h2 hone
  go_enter Try.func12, Try.ntmps12
  go_wp2_with fail
  refine (C1.out _).mono ?_
  rintro e w1 ⟨A1, k1, rfl, hb1, ht1⟩
  have HB1 := Lib.hid (HB0.out.trans (hb1.mono HB0.out.size)); have HX1 := Lib.hid (HX0.out.keep hb1); have HT1 := Lib.hid ht1
  clear hb1 ht1 C1
  go_wp2_with fail
  refine (C2.out _).mono ?_
  rintro e w2 ⟨A2, k2, rfl, hb2, ht2⟩
  have HB2 := Lib.hid (HB1.out.trans (hb2.mono HB1.out.size)); have HX2 := Lib.hid (HX1.out.keep hb2); have HT2 := Lib.hid ht2
  have HT3 := Lib.hid (HT1.out.below hb2)
  clear hb2 ht2 C2 HX1 HT1 HB1 HB0 HX0
  obtain ⟨f0, f1, f2, f3, f4, f5, f6, f7⟩ := HX2.out.all4
  go_wp2_with fail
  refine bodyPost_ret (results_pol (p := Cs.mk r1 r2) rfl _ _ rfl (HX2.out.set4 _ _ _ _)) rfl ⟨_, rfl, of_grow (g_set4 (grow_of HB2.out none) _ _ _ _ (.inl (Nat.le_refl _))), A1, k1, A2, k2, rfl, ?_, ?_⟩
  · exact HT3.out.kept (kept_set4 HX2.out _ _ _ _)
  · exact HT2.out.kept (kept_set4 HX2.out _ _ _ _)
end Go.Proofs.Ytcmbckacbdiebaa
