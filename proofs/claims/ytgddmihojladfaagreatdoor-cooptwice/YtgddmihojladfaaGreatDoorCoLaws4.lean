/- The walk of CoopTwice. -/
import Derived.Test.YtgddmihojladfaaGreatDoorCoApp
import Derived.Test.YtgddmihojladfaaGreatDoorHdPall
import Derived.Deep.RegionHeld3
namespace Go.Proofs.YtgddmihojladfaaGreatDoor
open Go.RowKit Go.Deep

namespace Co
theorem foldOO : Hd.foldB nO nO = true := by decide
theorem parts_one (a : List UInt8) : Hd.partsL [⟨nO, a⟩] nO = Hd.parts (Oct.trim a) := by
  unfold Hd.partsL
  rw [Hd.vals_one, if_pos foldOO]
  simp
theorem parts_two (a b : List UInt8) : Hd.partsL [⟨nO, a⟩, ⟨nO, b⟩] nO = Hd.parts (Oct.trim a) ++ Hd.parts (Oct.trim b) := by
  unfold Hd.partsL
  rw [show ([⟨nO, a⟩, ⟨nO, b⟩] : List Hd.Hdr) = [⟨nO, a⟩] ++ [⟨nO, b⟩] from rfl, Hd.vals_app, Hd.vals_one, Hd.vals_one, if_pos foldOO, if_pos foldOO]
  simp
theorem twice_value (a b : List UInt8) (h : ∀ c ∈ a, c ≠ 34) : (coopL [⟨nO, a⟩, ⟨nO, b⟩] true).value = 0 := by
  show coopW (word [⟨nO, a⟩, ⟨nO, b⟩] nO).1 _ = 0
  rw [twice_none h]
  exact coopW_nil _
theorem trim_short (a : List UInt8) : (Oct.trim a).length ≤ a.length := by
  obtain ⟨x, y, h, _⟩ := trim_cut a
  have := congrArg List.length h
  simp only [List.length_append] at this
  omega
end Co
theorem texts_slice {w : World} {ps : List (List UInt8)} {e : Ending} {w' : World} (h : RetTexts w ps e w') : ∃ A c, e = .returned (.slice A ps.length c) ∧ Below w.heap.size w w' := by
  obtain ⟨v, rfl, hb, ho⟩ := h
  rcases owns_view ho with ⟨rfl, e⟩ | ⟨g, c, rfl, _⟩
  · subst e; exact ⟨none, 0, rfl, hb⟩
  · exact ⟨_, _, rfl, hb⟩
theorem field_val (a b c d : Value) (W : World) : (Instr.field 28 (.agg #[a, b, c, d]) 0).run Tryz.prog W = .ok a W := by
  first
  | kernel_rfl
  | rfl
  | simp [go_sem]
/-- How many parts: of both lines, of the first, of the second. -/
def cnt (n1 n2 : Nat) : Nat → Nat → Nat
  | _, 2 => n1 + n2
  | 0, _ => n1
  | _, _ => n2
set_option maxHeartbeats 8000000 in
set_option maxRecDepth 100000 in
theorem walk_CoopTwice (a b : ByteArray) (w : World) (ha : a.size ≤ maxLen) (hb : b.size ≤ maxLen) : Calls Tryz.prog 7 #[.string a, .string b] w fun e w' => e = .returned (.bool true) ∧ Below w.heap.size w w' := by
  unfold maxLen at ha hb
  by_cases h1 : a.size ≤ 1000
  · have h1z : ¬ ((1000 : Int) < (a.size : Int)) := by omega
    by_cases h2 : b.size ≤ 1000
    · have h2z : ¬ ((1000 : Int) < (b.size : Int)) := by omega
      have smx : ∀ x : List Hd.Hdr, x.length ≤ 2 → (∀ h ∈ x, h = ⟨Co.nO, a.data.toList⟩ ∨ h = ⟨Co.nO, b.data.toList⟩) → SmallH x := fun x hx hh => ⟨by omega, fun h hm => by
        rcases hh h hm with rfl | rfl
        · exact ⟨show Co.nO.length ≤ 10000 by decide, by show a.data.toList.length ≤ 5000; have : a.data.toList.length = a.size := rfl; omega⟩
        · exact ⟨show Co.nO.length ≤ 10000 by decide, by show b.data.toList.length ≤ 5000; have : b.data.toList.length = b.size := rfl; omega⟩⟩
      have sm0 := smx [⟨Co.nO, a.data.toList⟩, ⟨Co.nO, b.data.toList⟩] (by simp) (by simp)
      have sm1 := smx [⟨Co.nO, a.data.toList⟩] (by simp) (by simp)
      have sm2 := smx [⟨Co.nO, b.data.toList⟩] (by simp) (by simp)
      have p0 := fun W g (h : SeenH W (some ⟨g, 0, none⟩) [⟨Co.nO, a.data.toList⟩, ⟨Co.nO, b.data.toList⟩]) => (parts_any (some ⟨g, 0, none⟩) 2 2 _ Co.nO W rfl sm0 (by decide) h).mono fun e w' h => texts_slice h
      have p1 := fun W g c (h : SeenH W (some ⟨g, 0, none⟩) [⟨Co.nO, a.data.toList⟩]) => (parts_any (some ⟨g, 0, none⟩) c 1 _ Co.nO W rfl sm1 (by decide) h).mono fun e w' h => texts_slice h
      have p2 := fun W g c (h : SeenH W (some ⟨g, 2, none⟩) [⟨Co.nO, b.data.toList⟩]) => (parts_any (some ⟨g, 2, none⟩) c 1 _ Co.nO W rfl sm2 (by decide) h).mono fun e w' h => texts_slice h
      have co := fun W g (h : SeenH W (some ⟨g, 0, none⟩) [⟨Co.nO, a.data.toList⟩, ⟨Co.nO, b.data.toList⟩]) => coop_any (some ⟨g, 0, none⟩) 2 2 _ true W rfl sm0 h
      rw [Co.parts_two, List.length_append] at p0
      rw [Co.parts_one] at p1 p2
      have l1 := parts_short (Oct.trim a.data.toList)
      have l2 := parts_short (Oct.trim b.data.toList)
      have t1 := Co.trim_short a.data.toList
      have t2 := Co.trim_short b.data.toList
      have s1 : a.data.toList.length = a.size := rfl
      have s2 : b.data.toList.length = b.size := rfl
      obtain ⟨n1, hn1⟩ : ∃ n, (Hd.parts (Oct.trim a.data.toList)).length = n := ⟨_, rfl⟩
      obtain ⟨n2, hn2⟩ : ∃ n, (Hd.parts (Oct.trim b.data.toList)).length = n := ⟨_, rfl⟩
      rw [hn1] at p0 p1 l1
      rw [hn2] at p0 p2 l2
      have n1b : n1 ≤ 1001 := by omega
      have n2b : n2 ≤ 1001 := by omega
      have hval := Co.twice_value a.data.toList b.data.toList
      obtain ⟨⟨x1, x2, x3, x4⟩, hX⟩ : ∃ X, Co.coopL [⟨Co.nO, a.data.toList⟩, ⟨Co.nO, b.data.toList⟩] true = X := ⟨_, rfl⟩
      rw [hX] at co hval
      unfold plV plC at co
      dsimp only at co hval
      have P0 := Lib.hid p0; have P1 := Lib.hid p1; have P2 := Lib.hid p2; have CO := Lib.hid co; have HV := Lib.hid hval
      clear p0 p1 p2 co hval hX hn1 hn2 l1 l2 t1 t2 s1 s2 sm0 sm1 sm2 smx h1 h2 ha hb
      go_enter Tryz.func7, Tryz.ntmps7
      go_wp2_with fail
      refine (awake8_any _).mono ?_
      rintro e w1 ⟨rfl, hb1⟩
      go_wp2_with fail
      have hS : SeenH (w1.alloc (.cells #[.string ⟨#[99, 114, 111, 115, 115, 45, 111, 114, 105, 103, 105, 110, 45, 111, 112, 101, 110, 101, 114, 45, 112, 111, 108, 105, 99, 121]⟩, .string a, .string ⟨#[99, 114, 111, 115, 115, 45, 111, 114, 105, 103, 105, 110, 45, 111, 112, 101, 110, 101, 114, 45, 112, 111, 108, 105, 99, 121]⟩, .string b] 35)) (some ⟨w1.heap.size, 0, none⟩) [⟨Co.nO, a.data.toList⟩, ⟨Co.nO, b.data.toList⟩] := seen_block (World.alloc_heap_new _ _) rfl
      have hB : Below w.heap.size w (w1.alloc (.cells #[.string ⟨#[99, 114, 111, 115, 115, 45, 111, 114, 105, 103, 105, 110, 45, 111, 112, 101, 110, 101, 114, 45, 112, 111, 108, 105, 99, 121]⟩, .string a, .string ⟨#[99, 114, 111, 115, 115, 45, 111, 114, 105, 103, 105, 110, 45, 111, 112, 101, 110, 101, 114, 45, 112, 111, 108, 105, 99, 121]⟩, .string b] 35)) := below_al hb1 _
      obtain ⟨w2, hw2⟩ : ∃ w2, w1.alloc (.cells #[.string ⟨#[99, 114, 111, 115, 115, 45, 111, 114, 105, 103, 105, 110, 45, 111, 112, 101, 110, 101, 114, 45, 112, 111, 108, 105, 99, 121]⟩, .string a, .string ⟨#[99, 114, 111, 115, 115, 45, 111, 114, 105, 103, 105, 110, 45, 111, 112, 101, 110, 101, 114, 45, 112, 111, 108, 105, 99, 121]⟩, .string b] 35) = w2 := ⟨_, rfl⟩
      rw [hw2] at hS hB ⊢
      have S0 := Lib.hid hS
      have S1 := Lib.hid (hS.take 1)
      have S2 := Lib.hid (hS.drop 1)
      have HB := Lib.hid hB
      clear hS hB hb1 hw2
      have hP : ∀ W o m c, Below w2.heap.size w2 W → ((o = 0 ∧ m = 2) ∨ (o = 0 ∧ m = 1) ∨ (o = 2 ∧ m = 1)) → m ≤ c → c ≤ 2 → Calls Tryz.prog 23 #[.slice (some ⟨w1.heap.size, o, none⟩) m c, .string (bA Co.nO)] W fun e w' => ∃ A c', e = .returned (.slice A (cnt n1 n2 o m) c') ∧ Below W.heap.size W w' := by
        rintro W o m c hbW (⟨rfl, rfl⟩ | ⟨rfl, rfl⟩ | ⟨rfl, rfl⟩) h1 h2
        · obtain rfl : c = 2 := by omega
          exact P0.out W _ (S0.out.below hbW)
        · exact P1.out W _ c (S1.out.below hbW)
        · exact P2.out W _ c (S2.out.below hbW)
      have HP := Lib.hid hP
      clear hP
      have hb : Below w2.heap.size w2 w2 := Below.refl _ _
      go_region_held3 (fun W => Below w2.heap.size w2 W)
        (first
          | exact hb
          | exact hb.drew)
        (first
          | (go_at_call 23; refine (HP.out _ _ _ _ (by first | exact hb | exact hb.drew) (by decide) (by decide) (by decide)).mono ?_; rintro e w3 ⟨A3, c3, rfl, hb3⟩; have hb := Below.onto (by first | exact hb | exact hb.drew) hb3; simp only [cnt]))
      rename_i hHeld
      have HB3 := Lib.hid (Below.onto HB.out hb)
      have HS3 := Lib.hid (S0.out.below hb)
      clear hHeld hb P0 P1 P2 HP S0 S1 S2 HB
      have hcmp : ((n1 : Int) + (n2 : Int) != IntKind.i64.wrap ((n1 : Int) + (n2 : Int))) = false := by
        have e : IntKind.i64.wrap ((n1 : Int) + (n2 : Int)) = (n1 : Int) + (n2 : Int) := IntWalk.i64_in _ (by omega)
        rw [e]; simp
      go_wp2
      go_loopw [8] (fun i wr => ∃ k : Nat, k ≤ a.size ∧ i = .int .i64 k ∧ Hid (∀ j (h : j < a.size), j < k → a[j] ≠ 34) ∧ wr = w3) (fun i _ => a.size - (intOf i).toNat)
      case atStart => exact ⟨0, by omega, rfl, Lib.hid fun j _ hj => absurd hj (Nat.not_lt_zero _), rfl⟩
      case round =>
        obtain ⟨k, hk, rfl, hno, rfl⟩ := hrel
        by_cases hlt : k < a.size
        · have hltz : (k : Int) < (a.size : Int) := by omega
          by_cases hc : a[k] = 34
          · have hcz : (a[k].toNat : Int) = 34 := by rw [hc]; rfl
            clear hc
            go_wp2_with fail
            go_ret
            exact ⟨rfl, HB3.out⟩
          · have hcz : ¬ (a[k].toNat : Int) = 34 := fun e => hc (UInt8.toNat_inj.1 (by exact_mod_cast e))
            have HC := Lib.hid hc
            clear hc
            go_wp2_with fail
            refine ⟨⟨k + 1, by omega, by go_num, Lib.hid fun j hj hjk => ?_, trivial⟩, by simp [intOf]; omega⟩
            by_cases e : j = k
            · subst e; exact HC.out
            · exact hno.out j hj (by omega)
        · obtain rfl : k = a.size := by omega
          have hx : x1 = 0 := HV.out fun c hc => by
            obtain ⟨j, hj, rfl⟩ := List.getElem_of_mem hc
            have hja : j < a.size := hj
            exact fun e => hno.out j hja hja e
          subst hx
          clear hno
          go_wp2_with fail
          have hfd := field_val (.int .i64 0) (.string (bA x2)) (.int .i64 x3) (.string (bA x4))
          refine (CO.out _ _ HS3.out).mono ?_
          rintro e w6 ⟨rfl, hb6⟩
          go_wp2_with fail
          go_ret
          exact ⟨rfl, Below.onto HB3.out hb6⟩
    · have h2z : (1000 : Int) < (b.size : Int) := by omega
      clear h1 h2
      go_enter Tryz.func7, Tryz.ntmps7
      go_wp2_with fail
      refine (awake8_any _).mono ?_
      rintro e w1 ⟨rfl, hb1⟩
      go_wp2_with fail
      go_ret
      exact ⟨rfl, hb1⟩
  · have h1z : (1000 : Int) < (a.size : Int) := by omega
    clear h1
    go_enter Tryz.func7, Tryz.ntmps7
    go_wp2_with fail
    refine (awake8_any _).mono ?_
    rintro e w1 ⟨rfl, hb1⟩
    go_wp2_with fail
    go_ret
    exact ⟨rfl, hb1⟩
end Go.Proofs.YtgddmihojladfaaGreatDoor
