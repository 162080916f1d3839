/- The contracts of host.Parse and of the document's answer. -/
import Derived.Test.YtehjnidggnfbfaaDoorHostDom
import Derived.Test.YtehjnidggnfbfaaDoorHostAddr
import Derived.Test.YtehjnidggnfbfaaDoorOctLow
import Derived.Test.YtehjnidggnfbfaaDoorOctRsplit
namespace Go.Proofs.YtehjnidggnfbfaaDoor
open Go.RowKit

def hostV (h : Hst.Host) : Value := .agg #[.string ⟨h.name.toArray⟩, .bool h.v4, .int .u32 h.addr]
def errI (o : Option Hst.Host) : Int := if o.isSome then 0 else 20
/-- What is answered: the host, and its error's number. -/
def parseV (o : Option Hst.Host) : Value := .tuple #[hostV (o.getD Hst.none_), .int .i64 (errI o)]

/-- A block that holds a host. -/
def HBox (W : World) (B : Nat) (n : ByteArray) (b : Bool) (a : Int) : Prop := W.heap[B]? = some (.cells #[.string n, .bool b, .int .u32 a] 24 (0, 0))
theorem HBox.new (W : World) (n : ByteArray) (b : Bool) (a : Int) : HBox (W.alloc (.cells #[.string n, .bool b, .int .u32 a] 24)) W.heap.size n b a := World.alloc_heap_new W _
theorem HBox.lt {W : World} {B : Nat} {n : ByteArray} {b : Bool} {a : Int} (h : HBox W B n b a) : B < W.heap.size := (Array.getElem?_eq_some_iff.1 h).1
theorem HBox.below {W W' : World} {B C : Nat} {n : ByteArray} {b : Bool} {a : Int} (h : HBox W B n b a) (hb : Below C W W') (hC : B < C) : HBox W' B n b a := (hb.block B hC).trans h
theorem HBox.c0 {W : World} {B : Nat} {n : ByteArray} {b : Bool} {a : Int} (h : HBox W B n b a) : W.cell? ⟨B, 0, none⟩ = some (.string n) := by simp [World.cell?, show W.heap[B]? = _ from h]
theorem HBox.c1 {W : World} {B : Nat} {n : ByteArray} {b : Bool} {a : Int} (h : HBox W B n b a) : W.cell? ⟨B, 1, none⟩ = some (.bool b) := by simp [World.cell?, show W.heap[B]? = _ from h]
theorem HBox.c2 {W : World} {B : Nat} {n : ByteArray} {b : Bool} {a : Int} (h : HBox W B n b a) : W.cell? ⟨B, 2, none⟩ = some (.int .u32 a) := by simp [World.cell?, show W.heap[B]? = _ from h]
theorem HBox.fr {W : World} {B : Nat} {n : ByteArray} {b : Bool} {a : Int} (h : HBox W B n b a) (i : Nat) : W.frozen? ⟨B, i, none⟩ = false := by simp [World.frozen?, show W.heap[B]? = _ from h]
/-- The three cells are written anew. -/
def set3 (W : World) (B : Nat) (n : ByteArray) (b : Bool) (a : Int) : World := ((W.setCell ⟨B, 0, none⟩ (.string n)).setCell ⟨B, 1, none⟩ (.bool b)).setCell ⟨B, 2, none⟩ (.int .u32 a)
theorem HBox.set {W : World} {B : Nat} {n : ByteArray} {b : Bool} {a : Int} (h : HBox W B n b a) (n' : ByteArray) (b' : Bool) (a' : Int) : HBox (set3 W B n' b' a') B n' b' a' := by
  have h' : W.heap[B]? = _ := h
  unfold HBox set3
  simp [World.setCell, Array.getElem?_modify, h']
theorem below_set3 {W W' : World} {C B : Nat} (h : Below C W W') (hC : C ≤ B) (n : ByteArray) (b : Bool) (a : Int) : Below C W (set3 W' B n b a) :=
  ((h.setCell (p := ⟨B, 0, none⟩) hC _).setCell (p := ⟨B, 1, none⟩) hC _).setCell (p := ⟨B, 2, none⟩) hC _

theorem lower_size (s : ByteArray) (h : s.size ≤ maxLen) : (⟨(Oct.lower s.data.toList).toArray⟩ : ByteArray).size ≤ maxLen := by
  have e : (⟨(Oct.lower s.data.toList).toArray⟩ : ByteArray).size = s.size := by
    show (Oct.lower s.data.toList).toArray.size = s.size
    rw [List.size_toArray, Oct.lower_length]; simp
  rw [e]; exact h
theorem dom_size {n : ByteArray} (h : Hst.domB n.data.toList = true) : n.size ≤ 253 := by
  unfold Hst.domB at h
  rw [Bool.and_eq_true, decide_eq_true_eq] at h
  have := h.1
  have e : n.data.toList.length = n.size := by simp
  omega

theorem isDomain_is (s : ByteArray) (b : Bool) (w : World) (hs0 : s.size ≤ maxLen) (h : Hst.domB s.data.toList = b) : Calls Tryd.prog 53 #[.string s] w fun e W' => e = .returned (.bool b) ∧ Below w.heap.size w W' := by
  subst h; exact isDomain_any s w hs0
theorem endsInDigits_is (s : ByteArray) (b : Bool) (w : World) (hs : s.size ≤ 1000) (h : Hst.digB (Hst.last s.data.toList) = b) : Calls Tryd.prog 54 #[.string s] w fun e w' => e = .returned (.bool b) ∧ w = w' := by
  subst h; exact endsInDigits_any s w hs
theorem address_no (s : ByteArray) (w : World) (hsm : s.size ≤ 253) (h : Hst.numsB (Hst.parts s.data.toList) = false) : Calls Tryd.prog 55 #[.string s] w fun e W' => e = .returned (.tuple #[.int .u32 0, .bool false]) ∧ Below w.heap.size w W' :=
  (address_any s w hsm).mono (by rintro e w' ⟨rfl, hb⟩; exact ⟨by unfold addrV; rw [h]; rfl, hb⟩)
theorem address_yes (s : ByteArray) (w : World) (hsm : s.size ≤ 253) (h : Hst.numsB (Hst.parts s.data.toList) = true) : Calls Tryd.prog 55 #[.string s] w fun e W' => e = .returned (.tuple #[.int .u32 (Hst.addrOf (Hst.parts s.data.toList)), .bool true]) ∧ Below w.heap.size w W' :=
  (address_any s w hsm).mono (by rintro e w' ⟨rfl, hb⟩; exact ⟨by unfold addrV; rw [h]; rfl, hb⟩)

set_option maxHeartbeats 1000000 in
theorem parse_any (s : ByteArray) (w : World) (hs : s.size ≤ maxLen) : Calls Tryd.prog 37 #[.string s] w fun e w' => e = .returned (parseV (Hst.parse s.data.toList)) ∧ Below w.heap.size w w' := by
  have hn := lower_size s hs
  obtain ⟨n, hnl⟩ : ∃ n : ByteArray, n = ⟨(Oct.lower s.data.toList).toArray⟩ := ⟨_, rfl⟩
  rw [← hnl] at hn
  have hlow : ∀ W : World, Calls Tryd.prog 30 #[.string s] W fun e w' => e = .returned (.string n) ∧ Below W.heap.size W w' := fun W => by rw [hnl]; exact lower_any s W hs
  have hpn : Hst.parse s.data.toList = Hst.read n.data.toList := by rw [hnl]; rfl
  rw [hpn]
  have HL := Lib.hid hlow
  clear hpn hnl hlow
  unfold Hst.read
  cases hd : Hst.domB n.data.toList with
  | false =>
    have HD := Lib.hid hd
    clear hd
    go_enter Tryd.func37, Tryd.ntmps37
    go_wp2_with fail
    refine (HL.out _).mono ?_
    rintro e w1 ⟨rfl, hb1⟩
    have q1 := (HBox.new w ⟨#[]⟩ false 0).below hb1 (by simp)
    go_wp2_with fail
    refine (isDomain_is _ false _ hn HD.out).mono ?_
    rintro e w2 ⟨rfl, hb2⟩
    have q2 := q1.below hb2 q1.lt
    have c0 := q2.c0; have c1 := q2.c1; have c2 := q2.c2; have f := q2.fr
    go_wp2_with fail
    have q3 := q2.set ⟨#[]⟩ false 0
    have r0 := q3.c0; have r1 := q3.c1; have r2 := q3.c2
    have hbe := below_set3 (Below.trans ((Below.refl _ w).alloc (Nat.le_refl _) _) ((hb1.mono (by simp)).trans (hb2.mono (by have := hb1.size; simp at this; omega)))) (Nat.le_refl w.heap.size) ⟨#[]⟩ false 0
    unfold set3 at r0 r1 r2 hbe
    exact bodyPost_ret (v := parseV none) (by simp [results, Tryd.results37, go_sem, r0, r1, r2, parseV, hostV, Hst.none_, errI]) rfl ⟨rfl, hbe⟩
  | true =>
    have hsm := dom_size hd
    have HD := Lib.hid hd
    clear hd
    cases hg : Hst.digB (Hst.last n.data.toList) with
    | false =>
      have HG := Lib.hid hg
      clear hg
      go_enter Tryd.func37, Tryd.ntmps37
      go_wp2_with fail
      refine (HL.out _).mono ?_
      rintro e w1 ⟨rfl, hb1⟩
      have q1 := (HBox.new w ⟨#[]⟩ false 0).below hb1 (by simp)
      go_wp2_with fail
      refine (isDomain_is _ true _ hn HD.out).mono ?_
      rintro e w2 ⟨rfl, hb2⟩
      have q2 := q1.below hb2 q1.lt
      have c0 := q2.c0; have c1 := q2.c1; have c2 := q2.c2; have f := q2.fr
      go_wp2_with fail
      refine (endsInDigits_is _ false _ (by omega) HG.out).mono ?_
      rintro e w3 ⟨rfl, rfl⟩
      go_wp2_with fail
      have q3 := q2.set n false 0
      have r0 := q3.c0; have r1 := q3.c1; have r2 := q3.c2
      have hbe := below_set3 (Below.trans ((Below.refl _ w).alloc (Nat.le_refl _) _) ((hb1.mono (by simp)).trans (hb2.mono (by have := hb1.size; simp at this; omega)))) (Nat.le_refl w.heap.size) n false 0
      unfold set3 at r0 r1 r2 hbe
      exact bodyPost_ret (v := parseV (some ⟨n.data.toList, false, 0⟩)) (by simp [results, Tryd.results37, go_sem, r0, r1, r2, parseV, hostV, errI]) rfl ⟨rfl, hbe⟩
    | true =>
      have HG := Lib.hid hg
      clear hg
      cases hu : Hst.numsB (Hst.parts n.data.toList) with
      | false =>
        have HU := Lib.hid hu
        clear hu
        go_enter Tryd.func37, Tryd.ntmps37
        go_wp2_with fail
        refine (HL.out _).mono ?_
        rintro e w1 ⟨rfl, hb1⟩
        have q1 := (HBox.new w ⟨#[]⟩ false 0).below hb1 (by simp)
        go_wp2_with fail
        refine (isDomain_is _ true _ hn HD.out).mono ?_
        rintro e w2 ⟨rfl, hb2⟩
        have q2 := q1.below hb2 q1.lt
        go_wp2_with fail
        refine (endsInDigits_is _ true _ (by omega) HG.out).mono ?_
        rintro e w3 ⟨rfl, rfl⟩
        go_wp2_with fail
        refine (address_no _ _ hsm HU.out).mono ?_
        rintro e w4 ⟨rfl, hb4⟩
        have q4 := q2.below hb4 q2.lt
        have c0 := q4.c0; have c1 := q4.c1; have c2 := q4.c2; have f := q4.fr
        go_wp2_with fail
        have q3 := q4.set ⟨#[]⟩ false 0
        have r0 := q3.c0; have r1 := q3.c1; have r2 := q3.c2
        have hbe := below_set3 (Below.trans ((Below.refl _ w).alloc (Nat.le_refl _) _) ((hb1.mono (by simp)).trans ((hb2.trans (hb4.mono hb2.size)).mono (by have := hb1.size; simp at this; omega)))) (Nat.le_refl w.heap.size) ⟨#[]⟩ false 0
        unfold set3 at r0 r1 r2 hbe
        exact bodyPost_ret (v := parseV none) (by simp [results, Tryd.results37, go_sem, r0, r1, r2, parseV, hostV, Hst.none_, errI]) rfl ⟨rfl, hbe⟩
      | true =>
        have hcall := fun W => address_yes n W hsm hu
        obtain ⟨a, ha⟩ : ∃ a, Hst.addrOf (Hst.parts n.data.toList) = a := ⟨_, rfl⟩
        rw [ha] at hcall
        have HC := Lib.hid hcall
        have HA := Lib.hid ha
        clear hu hcall ha
        go_enter Tryd.func37, Tryd.ntmps37
        go_wp2_with fail
        refine (HL.out _).mono ?_
        rintro e w1 ⟨rfl, hb1⟩
        have q1 := (HBox.new w ⟨#[]⟩ false 0).below hb1 (by simp)
        go_wp2_with fail
        refine (isDomain_is _ true _ hn HD.out).mono ?_
        rintro e w2 ⟨rfl, hb2⟩
        have q2 := q1.below hb2 q1.lt
        go_wp2_with fail
        refine (endsInDigits_is _ true _ (by omega) HG.out).mono ?_
        rintro e w3 ⟨rfl, rfl⟩
        go_wp2_with fail
        refine (HC.out _).mono ?_
        rintro e w4 ⟨rfl, hb4⟩
        have q4 := q2.below hb4 q2.lt
        have c0 := q4.c0; have c1 := q4.c1; have c2 := q4.c2; have f := q4.fr
        go_wp2_with fail
        have q3 := q4.set ⟨#[]⟩ true a
        have r0 := q3.c0; have r1 := q3.c1; have r2 := q3.c2
        have hbe := below_set3 (Below.trans ((Below.refl _ w).alloc (Nat.le_refl _) _) ((hb1.mono (by simp)).trans ((hb2.trans (hb4.mono hb2.size)).mono (by have := hb1.size; simp at this; omega)))) (Nat.le_refl w.heap.size) ⟨#[]⟩ true a
        unfold set3 at r0 r1 r2 hbe
        exact bodyPost_ret (v := parseV (some ⟨[], true, a⟩)) (by simp [results, Tryd.results37, go_sem, r0, r1, r2, parseV, hostV, errI]) rfl ⟨by rw [HA.out], hbe⟩
end Go.Proofs.YtehjnidggnfbfaaDoor
