/- The contract of the document's Tail. -/
import Derived.Test.YtilclhhpmenjaaaGreatDoorSfRefT
import Derived.Test.YtilclhhpmenjaaaGreatDoorSfSame
namespace Go.Proofs.YtilclhhpmenjaaaGreatDoor
open Go.RowKit Go.Shelf Go.Maps Go.Deep

structure LInv (w : World) (l : List Sf.Par) (j : Nat) (wr : World) (t : List UInt8) : Prop where
  jl : j ≤ l.length
  below : Below w.heap.size w wr
  len : t.length ≤ j * 60000
  eq : Sf.tailF [] l = (Sf.tailF (Sf.keys (l.take j)) (l.drop j)).map fun x => t ++ x
theorem key_full {k : List UInt8} (h : Sf.keyB k = true) : Sf.keyOf k = some (k, []) := by
  have := Sf.keyOf_back (r := []) h (.inl rfl)
  simpa using this
theorem below_q {w w' : World} {n : Nat} (h : Below n w w') (q : Nat) : Below n w (w'.drewN q) := ⟨h.os, h.tape, h.output, h.size, h.block⟩
theorem mem_keys {l : List Sf.Par} {j m : Nat} {k : List UInt8} (hm : m < j) (hj : j ≤ l.length) (hk : (l[m]'(by omega)).key = k) : k ∈ Sf.keys (l.take j) := by
  unfold Sf.keys
  rw [← hk]
  refine List.mem_map_of_mem ?_
  rw [List.mem_take_iff_getElem]
  exact ⟨m, by omega, rfl⟩
theorem not_keys {l : List Sf.Par} {j : Nat} {k : List UInt8} (hj : j ≤ l.length) (h : ∀ m (hm : m < l.length), m < j → l[m].key ≠ k) : k ∉ Sf.keys (l.take j) := by
  intro hk
  unfold Sf.keys at hk
  obtain ⟨p, hp, rfl⟩ := List.mem_map.1 hk
  obtain ⟨m, hm, rfl⟩ := List.mem_take_iff_getElem.1 hp
  exact h m (by omega) (by omega) rfl

/-- What stands while a parameter's value is told. -/
structure RdyV (wr : World) (g of : Nat) (p : Sf.Par) (W : World) : Prop where
  lt : g < wr.heap.size
  b : Below wr.heap.size wr W
  c1 : W.cell? ⟨g, of + 1, none⟩ = some (.int .i64 p.kind)
  c2 : W.cell? ⟨g, of + 2, none⟩ = some (.int .i64 p.n)
  c3 : W.cell? ⟨g, of + 3, none⟩ = some (.string (bA p.text))
theorem RdyV.all {wr W : World} {g of : Nat} {p : Sf.Par} (h : RdyV wr g of p W) : W.cell? ⟨g, of + 1, none⟩ = some (.int .i64 p.kind) ∧ W.cell? ⟨g, of + 2, none⟩ = some (.int .i64 p.n) ∧ W.cell? ⟨g, of + 3, none⟩ = some (.string (bA p.text)) ∧ RdyV wr g of p W := ⟨h.c1, h.c2, h.c3, h⟩
theorem RdyV.drew {wr W : World} {g of : Nat} {p : Sf.Par} (h : RdyV wr g of p W) : RdyV wr g of p W.drew := ⟨h.lt, h.b.drew, h.c1, h.c2, h.c3⟩
theorem RdyV.on {wr W W' : World} {g of : Nat} {p : Sf.Par} (h : RdyV wr g of p W) (hb : Below W.heap.size W W') : RdyV wr g of p W' := by
  have hl := Nat.lt_of_lt_of_le h.lt h.b.size
  exact ⟨h.lt, onto h.b hb, (hb.cell hl).trans h.c1, (hb.cell hl).trans h.c2, (hb.cell hl).trans h.c3⟩
theorem cat_val (t k v : List UInt8) : bA (t ++ 59 :: k) ++ ⟨#[61]⟩ ++ bA v = bA (t ++ 59 :: (k ++ 61 :: v)) := by
  show bA (t ++ 59 :: k) ++ bA [61] ++ bA v = _
  rw [bA_app (t ++ 59 :: k) [61], bA_app _ v]
  congr 1; simp
theorem keyV_form (o : Option (List UInt8 × List UInt8)) : ∃ (K R : List UInt8) (E : Int), keyV o = .tuple #[.string (bA K), .string (bA R), .int .i64 E] ∧ ((o = none ∧ E = 50) ∨ (o = some (K, R) ∧ E = 0)) := by
  cases o with
  | none => exact ⟨[], [], 50, rfl, .inl ⟨rfl, rfl⟩⟩
  | some x => exact ⟨x.1, x.2, 0, rfl, .inr ⟨rfl, rfl⟩⟩
theorem pt_key {p : Sf.Par} (h : Sf.keyB p.key = false) : Sf.ptext p = none := by unfold Sf.ptext; rw [h]; rfl
theorem pt_val {p : Sf.Par} (h : Sf.vtext p.kind p.n p.text = none) : Sf.ptext p = none := by
  unfold Sf.ptext; rw [h]; split <;> rfl
theorem pt_some {p : Sf.Par} {v : List UInt8} (hk : Sf.keyB p.key = true) (h : Sf.vtext p.kind p.n p.text = some v) : Sf.ptext p = some (59 :: (p.key ++ (if p.kind = 6 ∧ p.n = 1 then [] else 61 :: v))) := by
  unfold Sf.ptext; rw [hk, h]; rfl
theorem tail_none {l : List Sf.Par} {j : Nat} (hj : j < l.length) {p : Sf.Par} (hp : l[j] = p) (seen : List (List UInt8)) (h : Sf.ptext p = none) : Sf.tailF seen (l.drop j) = none := by
  rw [tail_step hj, hp, h]; split <;> rfl
set_option maxHeartbeats 4000000 in
set_option maxRecDepth 100000 in
theorem rtail_any (A : Option Addr) (cp : Nat) (l : List Sf.Par) (w : World) (hA : SeenP w A l) (hS : SmallL l) (hT : Tab w) :
    Calls Tryz.prog 27 #[.slice A l.length cp] w fun e w' => e = .returned (textV (Sf.tailF [] l)) ∧ Below w.heap.size w w' := by
  have hst : LInv w l 0 w [] := ⟨Nat.zero_le _, Below.refl _ _, by simp, by simp [Sf.keys]⟩
  have HS := Lib.hid hst
  have hlen := hS.len
  have HE := Lib.hid hS.each
  have HA := Lib.hid hA; have HT := Lib.hid hT
  obtain ⟨o, ho⟩ : ∃ o, Sf.tailF [] l = o := ⟨_, rfl⟩
  rw [ho]
  have HO := Lib.hid ho
  clear hst hS hA hT ho
  go_enter Tryz.func27, Tryz.ntmps27
  go_wp2_with fail
  go_loopg [4, 5] l.length (fun k v i wr => ∃ j t, l.length - j = k ∧ i = .int .i64 ((j : Nat) : Int) ∧ v = .string (bA t) ∧ LInv w l j wr t)
  case atStart => exact ⟨0, [], rfl, rfl, rfl, HS.out⟩
  case round =>
    obtain ⟨j, t, hk, rfl, rfl, hI⟩ := hrel
    have HI := Lib.hid hI
    have hjl := hI.jl
    have htl := hI.len
    clear hI HS
    by_cases hj : j < l.length
    · obtain ⟨g, of, rfl, hab, hcell⟩ := HA.out.below HI.out.below (by omega)
      obtain ⟨c0, c1, c2, c3⟩ := hcell j hj
      obtain ⟨p, hp⟩ : ∃ p, l[j] = p := ⟨_, rfl⟩
      rw [hp] at c0 c1 c2 c3
      have hsp : SmallP p := by rw [← hp]; exact HE.out _ (List.getElem_mem hj)
      have HP := Lib.hid hp
      have HSP := Lib.hid hsp
      have hkl := hsp.key
      have HC := Lib.hid hcell
      clear hp hcell hsp
      have H1 := Lib.hid (rkey_any p.key wr (by omega))
      go_wp2_with fail
      refine H1.out.mono ?_
      rintro e w1 ⟨rfl, q, hq⟩
      have HB1 : Hid (Below wr.heap.size wr w1) := by rw [Hid, hq]; exact below_drew wr q
      have hz1 : w1.heap.size = wr.heap.size := by rw [hq]; rfl
      obtain ⟨K, R, E, hkv, hkc⟩ := keyV_form (Sf.keyOf p.key)
      rw [hkv]
      have HKC := Lib.hid hkc
      have hr1 : RdyV wr g (of + j * 4) p w1 := ⟨hab, HB1.out, (HB1.out.cell hab).trans c1, (HB1.out.cell hab).trans c2, (HB1.out.cell hab).trans c3⟩
      have H2 := Lib.hid (fun W (h : RdyV wr g (of + j * 4) p W) => rval_any p.kind p.n p.text W HSP.out.text (HT.out.below (onto HI.out.below h.b)))
      clear hkv hkc hq H1 c0 c1 c2 c3 hz1
      obtain ⟨c1, c2, c3, _⟩ := hr1.all
      go_wp2_with fail
      go_region_held3 (fun w' => w'.cell? ⟨g, of + j * 4 + 1, none⟩ = some (.int .i64 p.kind) ∧ w'.cell? ⟨g, of + j * 4 + 2, none⟩ = some (.int .i64 p.n) ∧ w'.cell? ⟨g, of + j * 4 + 3, none⟩ = some (.string (bA p.text)) ∧ RdyV wr g (of + j * 4) p w')
        (first
          | exact hr1.all
          | exact hr1.drew.all
          | exact hr3.all)
        (first
          | (go_at_call 41; refine (H2.out _ hr1.drew).mono ?_; rintro e w3 ⟨⟨x, rfl, hx⟩, hb3⟩; have hr3 := hr1.drew.on hb3))
      rename_i hHeld
      have HB3 := Lib.hid hr3.b
      have HX := Lib.hid hx
      have HR3 := Lib.hid hr3
      have HC3 : Hid (∀ i (h : i < l.length), w3.cell? ⟨g, of + i * 4, none⟩ = some (.string (bA l[i].key))) := Lib.hid (fun i h => (HB3.out.cell hab).trans (HC.out i h).1)
      clear hx hb3 c1 c2 c3 HC H2 HB1 hHeld hr1 hr3
      have HTN := Lib.hid (fun h => tail_none hj HP.out (Sf.keys (l.take j)) h)
      have HON : Hid (Sf.ptext p = none → o = none) := Lib.hid (fun h => by rw [← HO.out, HI.out.eq, HTN.out h]; rfl)
      rcases HKC.out with ⟨hko, hE⟩ | ⟨hko, hE⟩
      · have hn : o = none := HON.out (pt_key (by cases hkb : Sf.keyB p.key; rfl; rw [key_full hkb] at hko; cases hko))
        subst hn
        subst hE
        clear hko HKC HON HTN
        go_wp2_with fail
        go_ret2
        exact ⟨rfl, onto HI.out.below HB3.out⟩
      · subst hE
        obtain ⟨e1, e2, _⟩ := Sf.keyOf_ways hko
        cases R with
        | cons c R =>
          have hn : o = none := HON.out (pt_key (by cases hkb : Sf.keyB p.key; rfl; rw [key_full hkb] at hko; cases hko))
          subst hn
          clear hko HKC HON HTN e1 e2
          go_wp2_with fail
          go_ret2
          exact ⟨rfl, onto HI.out.below HB3.out⟩
        | nil =>
          rw [List.append_nil] at e1
          subst e1
          cases hv : Sf.vtext p.kind p.n p.text with
          | none =>
            have hn : o = none := HON.out (pt_val hv)
            subst hn
            clear hko HKC HON HTN e2 hv
            rw [Option.isSome_none]
            go_wp2_with fail
            go_ret2
            exact ⟨rfl, onto HI.out.below HB3.out⟩
          | some v =>
            have hxv := HX.out v hv
            subst hxv
            have HPT := Lib.hid (pt_some e2 hv)
            have hvl := vtext_len hv HSP.out.text
            rw [Option.isSome_some]
            clear hko HKC HON HTN e2 hv HX
            go_wp2_with fail
            go_loop [11] (fun kk => ∃ m : Nat, m ≤ j ∧ kk = .int .i64 m ∧ Hid (∀ i (hi : i < l.length), i < m → l[i].key ≠ p.key)) (fun kk => j - (intOf kk).toNat)
            case atStart => exact ⟨0, Nat.zero_le _, rfl, fun i hi h => absurd h (by omega)⟩
            case round =>
              obtain ⟨m, hm, rfl, hin⟩ := hrel
              by_cases hmj : m < j
              · have hml : m < l.length := by omega
                have d0 := HC3.out m hml
                obtain ⟨y, hy⟩ : ∃ y, l[m] = y := ⟨_, rfl⟩
                rw [hy] at d0
                have HY := Lib.hid hy
                clear hy
                cases hb : (y.key == p.key) with
                | true =>
                  have hmem : p.key ∈ Sf.keys (l.take j) := mem_keys hmj hjl (by rw [HY.out]; exact beq_iff_eq.1 hb)
                  have hn : o = none := by rw [← HO.out, HI.out.eq, tail_step hj, HP.out, if_pos hmem]; rfl
                  subst hn
                  clear hmem
                  go_wp2_with fail
                  go_ret2
                  exact ⟨rfl, onto HI.out.below HB3.out⟩
                | false =>
                  have hne : y.key ≠ p.key := by simpa using hb
                  have HN : Hid (∀ i (hi : i < l.length), i < m + 1 → l[i].key ≠ p.key) := Lib.hid (fun i hi h => by
                    by_cases hi' : i < m
                    · exact hin.out i hi hi'
                    · have : i = m := by omega
                      subst this
                      rw [HY.out]; exact hne)
                  clear hne hin
                  go_wp2_with fail
                  go_round
                  case rel => exact ⟨m + 1, by omega, by go_num, HN⟩
                  case measure => simp [intOf]; omega
              · have hmm : m = j := by omega
                subst hmm
                have hmem : p.key ∉ Sf.keys (l.take m) := not_keys hjl hin.out
                have HST := Lib.hid (tail_step hj (Sf.keys (l.take m)))
                have HKT := Lib.hid (keys_take hj)
                rw [HP.out] at HST HKT
                obtain ⟨c1, c2, c3, _⟩ := HR3.out.all
                obtain ⟨K, hK⟩ : ∃ K, p.key = K := ⟨_, rfl⟩
                have hkl2 : K.length ≤ 10000 := by rw [← hK]; exact hkl
                have z1 : ∀ W : World, (Op.stringOp .add (bA t) ⟨#[59]⟩).run Tryz.prog W = .ok (.string (bA (t ++ [59]))) W := fun W => by
                  rw [run_string_add_sum W (bA t) (bA [59]) (by simp only [bA_size, List.length_cons, List.length_nil]; omega), bA_app]
                have z2 : ∀ W : World, (Op.stringOp .add (bA (t ++ [59])) (bA p.key)).run Tryz.prog W = .ok (.string (bA (t ++ [59] ++ p.key))) W := fun W => by
                  rw [run_string_add_sum W _ (bA p.key) (by simp only [bA_size, List.length_append, List.length_cons, List.length_nil]; omega), bA_app]
                have z3 : ∀ W : World, (Op.stringOp .add (bA (t ++ [59] ++ p.key)) ⟨#[61]⟩).run Tryz.prog W = .ok (.string (bA (t ++ [59] ++ p.key ++ [61]))) W := fun W => by
                  rw [run_string_add_sum W _ (bA [61]) (by simp only [bA_size, List.length_append, List.length_cons, List.length_nil]; omega), bA_app]
                have z4 : ∀ W : World, (Op.stringOp .add (bA (t ++ [59] ++ p.key ++ [61])) (bA v)).run Tryz.prog W = .ok (.string (bA (t ++ [59] ++ p.key ++ [61] ++ v))) W := fun W => by
                  rw [run_string_add_sum W _ (bA v) (by simp only [bA_size, List.length_append, List.length_cons, List.length_nil]; omega), bA_app]
                clear hin hK hkl2
                by_cases k6 : p.kind = 6
                · by_cases n1 : p.n = 1
                  · have q1 : (p.kind != 6) = false := by simp [k6]
                    have q2 : (p.n != 1) = false := by simp [n1]
                    have HTX : Hid (Sf.ptext p = some (59 :: p.key)) := by rw [Hid, HPT.out]; rw [if_pos ⟨k6, n1⟩, List.append_nil]
                    have HL := Lib.hid (ptext_len HTX.out HSP.out)
                    have HN : Hid (LInv w l (m + 1) w3 (t ++ (59 :: p.key))) := Lib.hid ⟨by omega, onto HI.out.below HB3.out, by rw [List.length_append]; have := HL.out; omega, by rw [HI.out.eq, HST.out, if_neg hmem, HTX.out, HKT.out]; simp only [Option.map_map]; congr 1; funext x; simp⟩
                    clear hmem HPT HTX HL HST HKT HO
                    go_wp2_with fail
                    go_roundg (l.length - (m + 1))
                    case measure => omega
                    case rel => exact ⟨m + 1, t ++ (59 :: p.key), rfl, by go_num, by simp, HN.out⟩
                  · have q1 : (p.kind != 6) = false := by simp [k6]
                    have q2 : (p.n != 1) = true := by simpa using n1
                    have HTX : Hid (Sf.ptext p = some (59 :: (p.key ++ 61 :: v))) := by rw [Hid, HPT.out]; rw [if_neg (fun h => n1 h.2)]
                    have HL := Lib.hid (ptext_len HTX.out HSP.out)
                    have HN : Hid (LInv w l (m + 1) w3 (t ++ (59 :: (p.key ++ 61 :: v)))) := Lib.hid ⟨by omega, onto HI.out.below HB3.out, by rw [List.length_append]; have := HL.out; omega, by rw [HI.out.eq, HST.out, if_neg hmem, HTX.out, HKT.out]; simp only [Option.map_map]; congr 1; funext x; simp⟩
                    clear hmem HPT HTX HL HST HKT HO
                    go_wp2_with fail
                    go_roundg (l.length - (m + 1))
                    case measure => omega
                    case rel => exact ⟨m + 1, t ++ (59 :: (p.key ++ 61 :: v)), rfl, by go_num, by simp; exact cat_val _ _ _, HN.out⟩
                · have q1 : (p.kind != 6) = true := by simpa using k6
                  have HTX : Hid (Sf.ptext p = some (59 :: (p.key ++ 61 :: v))) := by rw [Hid, HPT.out]; rw [if_neg (fun h => k6 h.1)]
                  have HL := Lib.hid (ptext_len HTX.out HSP.out)
                  have HN : Hid (LInv w l (m + 1) w3 (t ++ (59 :: (p.key ++ 61 :: v)))) := Lib.hid ⟨by omega, onto HI.out.below HB3.out, by rw [List.length_append]; have := HL.out; omega, by rw [HI.out.eq, HST.out, if_neg hmem, HTX.out, HKT.out]; simp only [Option.map_map]; congr 1; funext x; simp⟩
                  clear hmem HPT HTX HL HST HKT HO
                  go_wp2_with fail
                  go_roundg (l.length - (m + 1))
                  case measure => omega
                  case rel => exact ⟨m + 1, t ++ (59 :: (p.key ++ 61 :: v)), rfl, by go_num, by simp; exact cat_val _ _ _, HN.out⟩
    · have hjj : j = l.length := by omega
      subst hjj
      have hn : o = some t := by
        rw [← HO.out, HI.out.eq, List.drop_length, Sf.tailF]; simp
      subst hn
      go_wp2_with fail
      go_ret2
      exact ⟨rfl, HI.out.below⟩
end Go.Proofs.YtilclhhpmenjaaaGreatDoor
