/- The contract of a reader's value. -/
import Derived.Test.YtgddmihojladfaaGreatDoorSfForm
import Derived.Test.YtgddmihojladfaaGreatDoorSfMath4
namespace Go.Proofs.YtgddmihojladfaaGreatDoor
open Go.RowKit Go.Shelf

set_option maxHeartbeats 400000 in
theorem value_by (b : Nat) (s : List UInt8) (o : Option (Sf.Par × List UInt8)) (w : World) (hR : Rd b s w) (F : FuncId)
    (hF : ∀ W, Rd b s W → Calls Tryz.prog 96 #[.pointer (some ⟨b, 0, none⟩)] W fun e w' => e = .returned (.func (.func F) #[.pointer (some ⟨b, 0, none⟩)] #[]) ∧ W = w')
    (hen : ∀ args w, (callFunc F args).run Tryz.prog w = .ok (.enter F args) w)
    (hC : ∀ W, Rd b s W → Calls Tryz.prog F #[.pointer (some ⟨b, 0, none⟩)] W (Got b W (mapV o))) : Calls Tryz.prog 79 #[.pointer (some ⟨b, 0, none⟩)] w (Got b w (mapV o)) := by
  have hlt := hR.lt
  have hR0 := hR.alloc (.cells zC 111)
  have H1 := Lib.hid (hF _ hR0)
  have H2 := Lib.hid (hC _ hR0)
  have hb := Lib.hid (CBox.new w 111 zC)
  obtain ⟨m, hm⟩ : ∃ m, mapV o = m := ⟨_, rfl⟩
  rw [hm] at H2 ⊢
  have HM := Lib.hid hm
  clear hR hR0 hF hC hm
  go_enter Tryz.func79, Tryz.ntmps79
  go_wp2_with fail
  refine H1.out.mono ?_
  rintro e w1 ⟨rfl, rfl⟩
  go_wp2_with fail
  refine H2.out.mono ?_
  rintro e w2 ⟨hg, ⟨v, r, ho, rfl, hr⟩ | ⟨ho, rfl⟩⟩
  · obtain ⟨⟨x, r'⟩, hx, hy⟩ : ∃ x, o = some x ∧ (valV x.1, x.2) = (v, r) := by
      cases ho' : o with
      | none => rw [ho'] at HM; rw [← HM.out] at ho; cases ho
      | some x => exact ⟨x, rfl, by rw [ho'] at HM; rw [← HM.out] at ho; simpa [mapV] using ho⟩
    simp only [Prod.mk.injEq] at hy
    obtain ⟨rfl, rfl⟩ := hy
    have hb1 := hb.out.kept hg (by simp; omega)
    obtain ⟨c0, c1, c2, f0, f1, f2⟩ := hb1.all3
    have hG := Lib.hid (g_trans (World.grownBy_alloc w _ _) hg)
    have HB := Lib.hid hb1
    have HO := Lib.hid ho
    clear hg hb hb1 hx ho HM
    unfold valV vC
    go_wp2_with fail
    rw [HO.out]
    refine bodyPost_ret (results_val (x := x) rfl _ _ rfl (HB.out.set3 _ _ _)) rfl (Got.ok ?_ ?_)
    · exact g_set3 hG.out _ _ _ (.inl (Nat.le_refl _))
    · exact hr.other3 (by omega) _ _ _
  · have HO := Lib.hid ho
    clear ho
    go_wp2_with fail
    refine ⟨rfl, ?_⟩
    rw [HO.out]
    exact Got.no (g_trans (World.grownBy_alloc w _ _) hg)
set_option maxHeartbeats 400000 in
theorem value_not (b : Nat) (s : List UInt8) (w : World) (hR : Rd b s w)
    (hF : ∀ W, Rd b s W → Calls Tryz.prog 96 #[.pointer (some ⟨b, 0, none⟩)] W fun e w' => e = .panicked [fault] ∧ W = w') : Calls Tryz.prog 79 #[.pointer (some ⟨b, 0, none⟩)] w (Got b w (mapV none)) := by
  have H1 := Lib.hid (hF _ (hR.alloc (.cells zC 111)))
  clear hR hF
  go_enter Tryz.func79, Tryz.ntmps79
  go_wp2_with fail
  refine H1.out.mono ?_
  rintro e w1 ⟨rfl, rfl⟩
  go_wp2_with fail
  exact ⟨rfl, Got.no (World.grownBy_alloc w _ _)⟩

theorem beqI {c : UInt8} {k : Nat} (hk : k < 256) : ((c.toNat : Int) == (k : Int)) = (c == UInt8.ofNat k) := by
  rw [Bool.eq_iff_iff, beq_iff_eq, beq_iff_eq]
  constructor
  · intro h; apply UInt8.toNat_inj.1; simp; omega
  · intro h; subst h; simp; omega
theorem beqT {c : UInt8} {k : UInt8} : ((c.toNat : Int) == (k.toNat : Int)) = (c == k) := by
  rw [Bool.eq_iff_iff, beq_iff_eq, beq_iff_eq]
  exact ⟨fun h => UInt8.toNat_inj.1 (by omega), fun h => by rw [h]⟩
theorem bneF {c k : UInt8} (h : ¬ c = k) : ((c.toNat : Int) == (k.toNat : Int)) = false := by rw [beqT]; simpa using h
theorem num_is_dig {c : UInt8} {r : List UInt8} (h : ¬ c = 45) : numOf (c :: r) = Sf.num 1 (c :: r) := by simp [numOf, h]
theorem num_is_neg (r : List UInt8) : numOf (45 :: r) = Sf.num (-1) r := by simp [numOf]
theorem tok_cons {c : UInt8} {r : List UInt8} (h : Sf.tokI c.toNat = true) : Sf.tw Sf.tokI (c :: r) = c :: Sf.tw Sf.tokI r ∧ Sf.dw Sf.tokI (c :: r) = Sf.dw Sf.tokI r := by
  constructor
  · simp [Sf.tw, h]
  · simp [Sf.dw, h]
/-- What a reader's value comes to. -/
theorem value_any (b : Nat) (s : List UInt8) (w : World) (hR : Rd b s w) (hs : s.length ≤ 140737488355300) : Calls Tryz.prog 79 #[.pointer (some ⟨b, 0, none⟩)] w (Got b w (mapV (Sf.value s))) := by
  cases s with
  | nil => exact value_not b [] w hR (fun W h => form_nil b W h)
  | cons c r =>
    have hs' : r.length ≤ 140737488355299 := by simp at hs; omega
    rw [Sf.value_cons]
    by_cases h45 : c = 45
    · subst h45
      rw [if_pos rfl, ← num_is_neg]
      exact value_by b _ _ w hR 110 (fun W h => form_neg b _ r W h rfl) (enters_of Tryz.func110 (by kernel_rfl) rfl) (fun W h => number_any b _ W h (by simp; omega))
    rw [if_neg h45]
    have f45 : ((c.toNat : Int) == 45) = false := bneF (k := 45) h45
    cases hD : Oct.digitI c.toNat with
    | true =>
      rw [if_pos rfl, ← num_is_dig h45]
      exact value_by b _ _ w hR 110 (fun W h => form_dig b _ r W h f45 hD) (enters_of Tryz.func110 (by kernel_rfl) rfl) (fun W h => number_any b _ W h (by simp; omega))
    | false =>
    rw [if_neg (by simp)]
    by_cases h34 : c = 34
    · subst h34
      rw [if_pos rfl]
      exact value_by b _ _ w hR 111 (fun W h => form_quo b _ r W h f45 hD rfl) (enters_of Tryz.func111 (by kernel_rfl) rfl) (fun W h => quotation_any b r W h (by omega))
    rw [if_neg h34]
    have f34 : ((c.toNat : Int) == 34) = false := bneF (k := 34) h34
    cases hL : Oct.letterI c.toNat with
    | true =>
      have ht : Sf.tokI c.toNat = true := by rw [tok_is, hL]; rfl
      have htk := tok_cons (r := r) ht
      rw [if_pos (by simp), ← htk.1, ← htk.2]
      exact value_by b _ _ w hR 113 (fun W h => form_let b _ r W h f45 hD f34 hL) (enters_of Tryz.func113 (by kernel_rfl) rfl) (fun W h => token_any b _ W h (by simp; omega))
    | false =>
    rw [Bool.false_or]
    by_cases h42 : c = 42
    · subst h42
      have htk := tok_cons (r := r) (c := 42) (by decide)
      rw [if_pos (by simp), ← htk.1, ← htk.2]
      exact value_by b _ _ w hR 113 (fun W h => form_star b _ r W h f45 hD f34 hL rfl) (enters_of Tryz.func113 (by kernel_rfl) rfl) (fun W h => token_any b _ W h (by simp; omega))
    rw [if_neg (by simpa using h42)]
    have f42 : ((c.toNat : Int) == 42) = false := bneF (k := 42) h42
    by_cases h58 : c = 58
    · subst h58
      rw [if_pos rfl]
      exact value_by b _ _ w hR 114 (fun W h => form_seq b _ r W h f45 hD f34 hL f42 rfl) (enters_of Tryz.func114 (by kernel_rfl) rfl) (fun W h => sequence_any b r W h (by omega))
    rw [if_neg h58]
    have f58 : ((c.toNat : Int) == 58) = false := bneF (k := 58) h58
    by_cases h63 : c = 63
    · subst h63
      rw [if_pos rfl]
      exact value_by b _ _ w hR 115 (fun W h => form_tru b _ r W h f45 hD f34 hL f42 f58 rfl) (enters_of Tryz.func115 (by kernel_rfl) rfl) (fun W h => truth_any b r W h)
    rw [if_neg h63]
    have f63 : ((c.toNat : Int) == 63) = false := bneF (k := 63) h63
    exact value_not b _ w hR (fun W h => form_no b _ r W h f45 hD f34 hL f42 f58 f63)
end Go.Proofs.YtgddmihojladfaaGreatDoor
