/- The walk of the statement that any address is read from its text as itself. -/
import Derived.Test.YtknadldebedpiaaDoorHostAwake
import Derived.Test.YtknadldebedpiaaDoorHostMath2
import Derived.Laws.StructEq
import Derived.OpenShut
namespace Go.Proofs.YtknadldebedpiaaDoor
open Go.RowKit

theorem number_val (p : List UInt8) (v : Int) (w : World) (hs : p.length ≤ 1000) (hok : Oct.numOk p 255 = true) (hv : Oct.val p = v) :
    Calls Tryd.prog 20 #[.string ⟨p.toArray⟩, .int .i64 255] w fun e w' => e = .returned (.tuple #[.int .i64 v, .bool true]) ∧ w = w' := by
  subst hv
  exact number_ok ⟨p.toArray⟩ w (by unfold maxLen; simp [ByteArray.size]; omega) hok
theorem quad_nums (a : Int) (a0 : 0 ≤ a) (a1 : a ≤ 4294967295) : (quad a).all (fun p => Oct.numOk p 255) = true ∧ Hst.addrOf (quad a) = a := by
  have h := quad_read a a0 a1
  have hp := quad_dot a a0 a1
  have hn : ∀ p ∈ quad a, Oct.numOk p 255 = true := fun p hp => by
    obtain ⟨x, hx, rfl⟩ := List.mem_map.1 hp
    exact (itoa_num x (quad_bd a a0 a1 x hx).1 (quad_bd a a0 a1 x hx).2).1
  refine ⟨by rw [List.all_eq_true]; exact hn, ?_⟩
  have hv : ∀ x ∈ quadI a, Oct.val (Lib.itoa x) = x := fun x hx => (itoa_num x (quad_bd a a0 a1 x hx).1 (quad_bd a a0 a1 x hx).2).2
  have h1 := hv (a / 16777216) (by simp [quadI])
  have h2 := hv (a / 65536 % 256) (by simp [quadI])
  have h3 := hv (a / 256 % 256) (by simp [quadI])
  have h4 := hv (a % 256) (by simp [quadI])
  simp only [quad, quadI, List.map_cons, List.map_nil, Hst.addrOf, List.foldl_cons, List.foldl_nil, h1, h2, h3, h4]
  omega
theorem all_at {p : List UInt8 → Bool} {ps : List (List UInt8)} (h : ps.all p = true) (k : Nat) (hk : k < ps.length) : p ps[k] = true := by
  rw [List.all_eq_true] at h; exact h _ (List.getElem_mem hk)
theorem all_take {p : List UInt8 → Bool} {ps : List (List UInt8)} (h : ps.all p = true) (k : Nat) : (ps.take k).all p = true := by
  rw [List.all_eq_true] at h ⊢; exact fun x hx => h x (List.mem_of_mem_take hx)

set_option maxHeartbeats 2000000 in
theorem walk_HostNumbers (a : Int) (s : ByteArray) (w : World) (ha : (Lit.int .u32 a).wf = true) (hs : s.size ≤ maxLen) (hT : Tab w) : Calls Tryd.prog 10 #[.int .u32 a, .string s] w fun e w' => e = .returned (.bool true) ∧ Below w.heap.size w w' := by
  obtain ⟨a0, a1⟩ := bounds_u32 ha
  clear ha
  have HT := Lib.hid hT
  unfold maxLen at hs
  by_cases hbig : 1000 < s.size
  · have hbig' : (1000 : Int) < (s.size : Int) := by omega
    clear hT
    go_enter Tryd.func10, Tryd.ntmps10
    go_wp2_with fail
    refine (awake_any _ HT.out).mono ?_
    rintro e w1 ⟨rfl, hb1⟩
    go_wp2_with fail
    go_ret
    exact ⟨rfl, hb1⟩
  have hsm : s.size ≤ 1000 := by omega
  obtain ⟨ps, hps⟩ : ∃ ps, quad a = ps := ⟨_, rfl⟩
  have hpl : ps.length = 4 := by rw [← hps]; rfl
  have hrd := quad_read a a0 a1
  have hdt := quad_dot a a0 a1
  obtain ⟨hnm, had⟩ := quad_nums a a0 a1
  have hjl := quad_join a a0 a1
  rw [hps] at hrd hdt hnm had hjl
  obtain ⟨t, ht⟩ : ∃ t : ByteArray, t = ⟨(Oct.join 46 ps).toArray⟩ := ⟨_, rfl⟩
  have hts : t.size ≤ 15 := by rw [ht, size_list]; exact hjl
  have H1 : Hid (∀ W, Tab W → Calls Tryd.prog 14 #[.agg #[.string s, .bool true, .int .u32 a]] W fun e w' => e = .returned (.string t) ∧ Below W.heap.size W w') := fun W hTW => by
    have := text_any s true a W hTW a0 a1
    rw [ht, ← hps]
    exact this
  have H2 : Hid (∀ W, Calls Tryd.prog 12 #[.string t] W fun e w' => e = .returned (.tuple #[.agg #[.string ⟨#[]⟩, .bool true, .int .u32 a], .int .i64 0]) ∧ Below W.heap.size W w') := fun W => by
    have := parse_any t W (by unfold maxLen; omega)
    rw [show Hst.parse t.data.toList = some ⟨[], true, a⟩ by rw [ht]; exact hrd] at this
    exact this
  have H3 : Hid (∀ W, Calls Tryd.prog 19 #[.string t, .int .u8 46] W (RetTexts W ps)) := fun W => by
    have := split_any t 46 W (by omega)
    rw [show Oct.split (fun x => x == 46) t.data.toList = ps by rw [ht]; exact hdt] at this
    exact this
  have hsh : ∀ k (h : k < ps.length), ps[k].length ≤ 1000 := fun k h => by
    have := Oct.join_len 46 ps k h
    omega
  have HNM := Lib.hid hnm; have HAD := Lib.hid had; have HSH := Lib.hid hsh; have HPL := Lib.hid hpl
  clear hrd hdt hnm had hjl ht hts hsh hps hbig hT
  go_enter Tryd.func10, Tryd.ntmps10
  go_wp2_with fail
  refine (awake_any _ HT.out).mono ?_
  rintro e w1 ⟨rfl, hb1⟩
  go_wp2_with fail
  refine (H1.out _ (HT.out.below hb1)).mono ?_
  rintro e w2 ⟨rfl, hb2⟩
  go_wp2_with fail
  refine (H2.out _).mono ?_
  rintro e w3 ⟨rfl, hb3⟩
  go_wp2_with fail
  refine (H3.out _).mono ?_
  rintro e w4 ⟨v, rfl, hb4, ho⟩
  rcases owns_view ho with ⟨rfl, h0'⟩ | ⟨g, cap, rfl, hm, hg, hgb, hcells⟩
  · exfalso; rw [h0'] at hpl; simp at hpl
  have q4 := (HBox.new w3 ⟨#[]⟩ true a).below hb4 (by simp)
  have c0 := q4.c0; have c1 := q4.c1; have c2 := q4.c2
  have hB := Below.onto1 (Below.onto (Below.onto hb1 hb2) hb3) hb4
  have HC := Lib.hid hcells
  clear hb1 hb2 hb3 hb4 q4 ho hcells hm hgb
  have h4' : ((ps.length : Int) != 4) = false := by rw [HPL.out]; rfl
  have hp4 : 4 ≤ ps.length := by rw [HPL.out]; exact Nat.le_refl _
  clear hpl
  go_wp2_with fail
  clear h4'
  go_loop [10, 11] (fun nv i => ∃ j : Nat, ∃ x : Int, j ≤ 4 ∧ i = .int .i64 j ∧ nv = .int .u32 x ∧ Hid (x = Hst.addrOf (ps.take j))) (fun _ i => 4 - (intOf i).toNat)
  case atStart => exact ⟨0, 0, by omega, rfl, rfl, rfl⟩
  case round =>
    obtain ⟨j, x, hj, rfl, rfl, HX⟩ := hrel
    by_cases hjl : j < 4
    · have hjp : j < ps.length := by omega
      have hce := HC.out j hjp
      have hsh2 := HSH.out j hjp
      have hnum := all_at HNM.out j hjp
      obtain ⟨x0, x1⟩ := addr_bd3 ps j hjl (by omega) (all_take HNM.out j)
      rw [← HX.out] at x0 x1
      have hnx := addr_take ps j hjp
      rw [← HX.out] at hnx
      obtain ⟨p, hp⟩ : ∃ p, ps[j] = p := ⟨_, rfl⟩
      rw [hp] at hce hsh2 hnum hnx
      obtain ⟨v, hv⟩ : ∃ v, Oct.val p = v := ⟨_, rfl⟩
      have hbd := num_bd hnum
      rw [hv] at hbd hnx
      obtain ⟨v0, v1⟩ := hbd
      have HV := Lib.hid hv
      have HNUM := Lib.hid hnum
      have HNX := Lib.hid hnx
      clear hp hv hnum hnx
      unfold Oct.strV at hce
      go_wp2_with (go_at_call 20; refine (number_val p v _ hsh2 HNUM.out HV.out).mono ?_; rintro e w' ⟨rfl, rfl⟩)
      go_round
      case rel => exact ⟨j + 1, x * 256 + v, by omega, by go_num, rfl, by rw [HNX.out]; refine Lib.hid ?_; omega⟩
      case measure => simp [intOf]; omega
    · obtain rfl : j = 4 := by omega
      have hx : x = a := by rw [HX.out, List.take_of_length_le (by rw [HPL.out]; exact Nat.le_refl _), HAD.out]
      clear HX
      subst hx
      go_wp2_with fail
      go_ret
      exact ⟨rfl, hB⟩
end Go.Proofs.YtknadldebedpiaaDoor
