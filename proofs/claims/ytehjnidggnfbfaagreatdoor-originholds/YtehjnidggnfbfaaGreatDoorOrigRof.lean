/- The document's Of. -/
import Derived.Test.YtehjnidggnfbfaaGreatDoorOrigOf
import Derived.Test.YtehjnidggnfbfaaGreatDoorUrlpRtext
namespace Go.Proofs.YtehjnidggnfbfaaGreatDoor
open Go.RowKit

theorem roinner_some {u v : Urp.URL} (h : Urp.innerU u = some v) (W : World) (hl : u.rest.length ≤ 4000) : Calls Tryz.prog 21 #[.agg #[.string (bA u.scheme), .string (bA u.host.name), .bool u.host.v4, .int .u32 u.host.addr, .int .i64 u.port, .string (bA u.path), .bool u.hasq, .string (bA u.query), .string (bA u.rest)]] W fun e w' => e = .returned (.tuple #[.agg #[.string (bA v.scheme), .string (bA v.host.name), .bool v.host.v4, .int .u32 v.host.addr, .int .i64 v.port, .string (bA v.path), .bool v.hasq, .string (bA v.query), .string (bA v.rest)], .bool true]) ∧ Below W.heap.size W w' := by
  have := rinner_any u W hl
  rw [h] at this
  exact this
theorem roinner_none {u : Urp.URL} (h : Urp.innerU u = none) (W : World) (hl : u.rest.length ≤ 4000) : Calls Tryz.prog 21 #[.agg #[.string (bA u.scheme), .string (bA u.host.name), .bool u.host.v4, .int .u32 u.host.addr, .int .i64 u.port, .string (bA u.path), .bool u.hasq, .string (bA u.query), .string (bA u.rest)]] W fun e w' => e = .returned (.tuple #[.agg #[.string ⟨#[]⟩, .string ⟨#[]⟩, .bool false, .int .u32 0, .int .i64 0, .string ⟨#[]⟩, .bool false, .string ⟨#[]⟩, .string ⟨#[]⟩], .bool false]) ∧ Below W.heap.size W w' := by
  have := rinner_any u W hl
  rw [h] at this
  exact this
theorem rdp_net (s : List UInt8) (W : World) : Calls Tryz.prog 23 #[.string (bA s)] W fun e w' => e = .returned (.int .i64 (Urp.own s)) ∧ Below W.heap.size W w' :=
  (rOwn_any (bA s) W).mono (by rintro e w' ⟨rfl, rfl⟩; exact ⟨rfl, Below.refl _ _⟩)

set_option maxHeartbeats 4000000 in
set_option maxRecDepth 100000 in
theorem rof_any (u : Urp.URL) (id : Int) (w : World) (hl : u.rest.length ≤ 4000) : Calls Tryz.prog 7 #[urlV u, .int .i64 id] w fun e w' => e = .returned (origV (ofO u id)) ∧ Below w.heap.size w w' := by
  have hb0 : Below w.heap.size w ((w.alloc (.cells (uCells u) 26)).alloc (.cells (oCells zeroO) 29)) := ((Below.refl _ w).alloc (Nat.le_refl _) _).alloc (by simp) _
  have qu : UBox ((w.alloc (.cells (uCells u) 26)).alloc (.cells (oCells zeroO) 29)) w.heap.size u := (UBox.new w u).alloc _
  have qo : OBox ((w.alloc (.cells (uCells u) 26)).alloc (.cells (oCells zeroO) 29)) (w.heap.size + 1) zeroO := by
    have := OBox.new (w.alloc (.cells (uCells u) 26)) zeroO
    simpa using this
  have HB := Lib.hid hb0
  have HU := Lib.hid qu
  have HO := Lib.hid qo
  clear hb0 qu qo
  unfold urlV
  cases hi : Urp.innerU u with
  | none =>
    have HI := Lib.hid (fun W => roinner_none hi W hl)
    have ho : ofO u id = ofN u id := by unfold ofO; rw [hi]; rfl
    rw [ho]
    clear hi ho
    cases hn : Urp.netB u.scheme with
    | false =>
      have ho : ofN u id = opaq id := by unfold ofN; rw [hn]; rfl
      rw [ho]
      have HN := Lib.hid hn
      clear hn ho
      unfold uCells at HB HU HO ⊢
      unfold oCells at HB HU HO
      go_enter Tryz.func7, Tryz.ntmps7
      go_wp2_with fail
      refine (HI.out _).mono ?_
      rintro e w1 ⟨rfl, hb1⟩
      have b1 := below_on HB.out hb1
      have u1 := UBox.keep HU.out hb1
      have o1 := OBox.keep HO.out hb1
      have b2 := b1.alloc (o := .cells (uCells Urp.zeroU) 26) b1.size
      have u2 := u1.alloc (.cells (uCells Urp.zeroU) 26)
      have o2 := o1.alloc (.cells (uCells Urp.zeroU) 26)
      clear hb1 b1 o1
      have c0 := u1.c0; have c1 := u1.c1; have c2 := u1.c2; have c3 := u1.c3; have c4 := u1.c4; have c5 := u1.c5; have c6 := u1.c6; have c7 := u1.c7; have c8 := u1.c8
      have l1 := u1.lt
      have n1 : w.heap.size ≠ w1.heap.size := by omega
      go_wp2_with fail
      refine (rnetV_any _ _ _ _ _ _ _ _ _ _).mono ?_
      rintro e w3 ⟨rfl, hb3⟩
      have b3 := below_on b2 hb3
      have o3 := o2.keep hb3
      have en : Urp.netB (bA u.scheme).data.toList = false := HN.out
      rw [en]
      clear hb3 b2 o2 en c0 c1 c2 c3 c4 c5 c6 c7 c8 l1 n1 u1 u2
      have c0 := o3.c0; have c1 := o3.c1; have c2 := o3.c2; have c3 := o3.c3; have c4 := o3.c4; have c5 := o3.c5; have c6 := o3.c6
      have f := o3.fr
      go_wp2_with fail
      exact bodyPost_ret (results_orig rfl _ _ rfl (o3.set (opaq id))) rfl ⟨rfl, below_set7 b3 (by omega) (opaq id)⟩
    | true =>
      have ho : ofN u id = ⟨false, 0, u.scheme, u.host, if u.port < 0 then Urp.own u.scheme else u.port⟩ := by unfold ofN; rw [hn]; rfl
      rw [ho]
      have HN := Lib.hid hn
      have HD := Lib.hid (fun W => rdp_net u.scheme W)
      obtain ⟨P, hP⟩ : ∃ P, (if u.port < 0 then Urp.own u.scheme else u.port) = P := ⟨_, rfl⟩
      rw [hP]
      have HP := Lib.hid hP
      clear hn ho hP
      unfold uCells at HB HU HO ⊢
      unfold oCells at HB HU HO
      go_enter Tryz.func7, Tryz.ntmps7
      go_wp2_with fail
      refine (HI.out _).mono ?_
      rintro e w1 ⟨rfl, hb1⟩
      have b1 := below_on HB.out hb1
      have u1 := UBox.keep HU.out hb1
      have o1 := OBox.keep HO.out hb1
      have b2 := b1.alloc (o := .cells (uCells Urp.zeroU) 26) b1.size
      have u2 := u1.alloc (.cells (uCells Urp.zeroU) 26)
      have o2 := o1.alloc (.cells (uCells Urp.zeroU) 26)
      clear hb1 b1 o1
      have c0 := u1.c0; have c1 := u1.c1; have c2 := u1.c2; have c3 := u1.c3; have c4 := u1.c4; have c5 := u1.c5; have c6 := u1.c6; have c7 := u1.c7; have c8 := u1.c8
      have l1 := u1.lt
      have n1 : w.heap.size ≠ w1.heap.size := by omega
      go_wp2_with fail
      refine (rnetV_any _ _ _ _ _ _ _ _ _ _).mono ?_
      rintro e w3 ⟨rfl, hb3⟩
      have b3 := below_on b2 hb3
      have o3 := o2.keep hb3
      have u3 := u2.keep hb3
      have en : Urp.netB (bA u.scheme).data.toList = true := HN.out
      rw [en]
      clear hb3 b2 o2 en c0 c1 c2 c3 c4 c5 c6 c7 c8 l1 n1 u1 u2
      have k4 := u3.c4
      by_cases hp : u.port < 0
      · have hop : P = Urp.own u.scheme := HP.out.symm.trans (if_pos hp)
        subst hop
        have k0 := u3.c0
        go_wp2_with fail
        refine (HD.out _).mono ?_
        rintro e w4 ⟨rfl, hb4⟩
        have b4 := below_on b3 hb4
        have o4 := o3.keep hb4
        have u4 := u3.keep hb4
        clear k0 k4 hb4 b3 o3 u3
        have k0 := u4.c0; have k1 := u4.c1; have k2 := u4.c2; have k3 := u4.c3
        have c0 := o4.c0; have c1 := o4.c1; have c2 := o4.c2; have c3 := o4.c3; have c4 := o4.c4; have c5 := o4.c5; have c6 := o4.c6
        have f := o4.fr
        go_wp2_with fail
        exact bodyPost_ret (results_orig rfl _ _ rfl (o4.set ⟨false, 0, u.scheme, u.host, Urp.own u.scheme⟩)) rfl ⟨rfl, below_set7 b4 (by omega) ⟨false, 0, u.scheme, u.host, Urp.own u.scheme⟩⟩
      · have hop : P = u.port := HP.out.symm.trans (if_neg hp)
        subst hop
        have hp' : 0 ≤ u.port := by omega
        clear hp
        have k0 := u3.c0; have k1 := u3.c1; have k2 := u3.c2; have k3 := u3.c3
        have c0 := o3.c0; have c1 := o3.c1; have c2 := o3.c2; have c3 := o3.c3; have c4 := o3.c4; have c5 := o3.c5; have c6 := o3.c6
        have f := o3.fr
        go_wp2_with fail
        exact bodyPost_ret (results_orig rfl _ _ rfl (o3.set ⟨false, 0, u.scheme, u.host, u.port⟩)) rfl ⟨rfl, below_set7 b3 (by omega) ⟨false, 0, u.scheme, u.host, u.port⟩⟩
  | some v =>
    have HI := Lib.hid (fun W => roinner_some hi W hl)
    have hn := inner_net hi
    have ho : ofO u id = ⟨false, 0, v.scheme, v.host, if v.port < 0 then Urp.own v.scheme else v.port⟩ := by unfold ofO ofN; rw [hi]; simp [hn]
    rw [ho]
    have HN := Lib.hid hn
    have HD := Lib.hid (fun W => rdp_net v.scheme W)
    obtain ⟨P, hP⟩ : ∃ P, (if v.port < 0 then Urp.own v.scheme else v.port) = P := ⟨_, rfl⟩
    rw [hP]
    have HP := Lib.hid hP
    clear hi ho hn hP
    unfold uCells at HB HU HO ⊢
    unfold oCells at HB HU HO
    go_enter Tryz.func7, Tryz.ntmps7
    go_wp2_with fail
    refine (HI.out _).mono ?_
    rintro e w1 ⟨rfl, hb1⟩
    have b1 := below_on HB.out hb1
    have u1 := UBox.keep HU.out hb1
    have o1 := OBox.keep HO.out hb1
    have l1 := u1.lt
    have l2 := o1.lt
    have n1 : w.heap.size ≠ w1.heap.size := by omega
    have b2 := (below_set9 b1 (Nat.le_refl _) v).alloc (o := .cells (uCells v) 26) (by rw [size_set9]; exact b1.size)
    have u2 := (u1.set v).alloc (.cells (uCells v) 26)
    have o2 := (o1.other9 (C := w.heap.size) v (by omega)).alloc (.cells (uCells v) 26)
    have c0 := u1.c0; have c1 := u1.c1; have c2 := u1.c2; have c3 := u1.c3; have c4 := u1.c4; have c5 := u1.c5; have c6 := u1.c6; have c7 := u1.c7; have c8 := u1.c8
    have f := u1.fr
    clear hb1 b1 o1 u1
    go_wp2_with fail
    refine (rnetV_any _ _ _ _ _ _ _ _ _ _).mono ?_
    rintro e w3 ⟨rfl, hb3⟩
    have b3 := below_on b2 hb3
    have o3 := o2.keep hb3
    have u3 := u2.keep hb3
    have en : Urp.netB (bA v.scheme).data.toList = true := HN.out
    rw [en]
    clear hb3 b2 o2 en c0 c1 c2 c3 c4 c5 c6 c7 c8 l1 l2 n1 u2 f
    have k4 := u3.c4
    by_cases hp : v.port < 0
    · have hop : P = Urp.own v.scheme := HP.out.symm.trans (if_pos hp)
      subst hop
      have k0 := u3.c0
      go_wp2_with fail
      refine (HD.out _).mono ?_
      rintro e w4 ⟨rfl, hb4⟩
      have b4 := below_on b3 hb4
      have o4 := o3.keep hb4
      have u4 := u3.keep hb4
      clear k0 k4 hb4 b3 o3 u3
      have k0 := u4.c0; have k1 := u4.c1; have k2 := u4.c2; have k3 := u4.c3
      have c0 := o4.c0; have c1 := o4.c1; have c2 := o4.c2; have c3 := o4.c3; have c4 := o4.c4; have c5 := o4.c5; have c6 := o4.c6
      have f := o4.fr
      go_wp2_with fail
      exact bodyPost_ret (results_orig rfl _ _ rfl (o4.set ⟨false, 0, v.scheme, v.host, Urp.own v.scheme⟩)) rfl ⟨rfl, below_set7 b4 (by omega) ⟨false, 0, v.scheme, v.host, Urp.own v.scheme⟩⟩
    · have hop : P = v.port := HP.out.symm.trans (if_neg hp)
      subst hop
      have hp' : 0 ≤ v.port := by omega
      clear hp
      have k0 := u3.c0; have k1 := u3.c1; have k2 := u3.c2; have k3 := u3.c3
      have c0 := o3.c0; have c1 := o3.c1; have c2 := o3.c2; have c3 := o3.c3; have c4 := o3.c4; have c5 := o3.c5; have c6 := o3.c6
      have f := o3.fr
      go_wp2_with fail
      exact bodyPost_ret (results_orig rfl _ _ rfl (o3.set ⟨false, 0, v.scheme, v.host, v.port⟩)) rfl ⟨rfl, below_set7 b3 (by omega) ⟨false, 0, v.scheme, v.host, v.port⟩⟩
end Go.Proofs.YtehjnidggnfbfaaGreatDoor
