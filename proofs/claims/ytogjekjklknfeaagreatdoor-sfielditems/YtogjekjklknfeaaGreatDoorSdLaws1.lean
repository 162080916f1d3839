/- The walk of the statement on two lists that are one (SfieldJoins). (Written by mkj.py.) -/
import Derived.Test.YtogjekjklknfeaaGreatDoorPkCmp
namespace Go.Proofs.YtogjekjklknfeaaGreatDoor
open Go.RowKit Go.Shelf Go.Maps Go.Deep

def lst (o : Option (List Sf.Mem)) : List Sf.Mem := o.getD []
def er {α : Type} (o : Option α) : Int := if o.isSome then 0 else 50
theorem list_is (s : List UInt8) (hs : s.length ≤ maxLen) (w : World) : Calls Tryz.prog 10 #[.string (bA s)] w fun e w' => ∃ A c, e = .returned (.tuple #[.slice A (lst (Sf.readL false s)).length c, .int .i64 (er (Sf.readL false s))]) ∧ Below w.heap.size w w' ∧ LV w' w.heap.size (.slice A (lst (Sf.readL false s)).length c) (lst (Sf.readL false s)) := by
  refine (list_any s w hs).mono ?_
  rintro e w' ⟨hb, ⟨l, v, ho, rfl, hv⟩ | ⟨ho, rfl⟩⟩
  · obtain ⟨A, c, rfl⟩ := hv.slice
    rw [ho]
    exact ⟨A, c, rfl, hb, hv⟩
  · rw [ho]
    exact ⟨none, 0, rfl, hb, LV.nil _ _⟩
theorem dict_is (s : List UInt8) (hs : s.length ≤ maxLen) (w : World) : Calls Tryz.prog 12 #[.string (bA s)] w fun e w' => ∃ A c, e = .returned (.tuple #[.slice A (lst (Sf.readL true s)).length c, .int .i64 (er (Sf.readL true s))]) ∧ Below w.heap.size w w' ∧ LV w' w.heap.size (.slice A (lst (Sf.readL true s)).length c) (lst (Sf.readL true s)) := by
  refine (dict_any s w hs).mono ?_
  rintro e w' ⟨hb, ⟨l, v, ho, rfl, hv⟩ | ⟨ho, rfl⟩⟩
  · obtain ⟨A, c, rfl⟩ := hv.slice
    rw [ho]
    exact ⟨A, c, rfl, hb, hv⟩
  · rw [ho]
    exact ⟨none, 0, rfl, hb, LV.nil _ _⟩
theorem same_yes (A B : Option Addr) (c d : Nat) (l : List Sf.Mem) (w : World) (hA : SeenM w A l) (hB : SeenM w B l) (hm : l.length ≤ maxLen) :
    Calls Tryz.prog 14 #[.slice A l.length c, .slice B l.length d] w fun e w' => e = .returned (.bool true) ∧ Below w.heap.size w w' := by
  refine (rsame_any A B c d l l w hA hB hm).mono ?_
  rintro e w' ⟨rfl, hb⟩
  exact ⟨by simp, hb⟩
theorem seen_one {w : World} {m : Sf.Mem} {v1 v2 v3 : Value} (hm : SM w m v1 v2 v3) : SeenM (w.alloc (.cells (mC m v1 v2 v3) 40)) (some ⟨w.heap.size, 0, none⟩) [m] := fun _ => by
  have hb := below_one w (.cells (mC m v1 v2 v3) 40)
  have hc := CBox.new w 40 (mC m v1 v2 v3)
  refine ⟨w.heap.size, 0, rfl, by simp, fun i hi => ?_⟩
  obtain rfl : i = 0 := by simpa using hi
  refine ⟨v1, v2, v3, hm.below hb, hc.c 0, hc.c 1, hc.c 2, hc.c 3, hc.c 4, hc.c 5, hc.c 6, hc.c 7⟩
theorem er_some {α : Type} {o : Option α} {x : α} (h : o = some x) : er o = 0 := by rw [h]; rfl
theorem er_none {α : Type} {o : Option α} (h : o = none) : er o = 50 := by rw [h]; rfl
theorem sum_S (a b : List UInt8) (h : a.length + b.length ≤ 100000) (W : World) : (Op.stringOp .add (bA a) (bA b)).run Tryz.prog W = .ok (.string (bA (a ++ b))) W := by
  rw [run_string_add_sum W (bA a) (bA b) (by simp only [bA_size]; omega), bA_app]
set_option maxHeartbeats 8000000 in
set_option maxRecDepth 100000 in
theorem walk_SfieldJoins (a b : ByteArray) (w : World) (ha : a.size ≤ maxLen) (hb : b.size ≤ maxLen) (hT : Tab w) (hM : TabM w) :
    Calls Tryz.prog 6 #[.string a, .string b] w fun e w' => e = .returned (.bool true) ∧ Below w.heap.size w w' := by
  obtain ⟨S, rfl⟩ : ∃ S, a = bA S := ⟨a.data.toList, rfl⟩
  obtain ⟨R, rfl⟩ : ∃ R, b = bA R := ⟨b.data.toList, rfl⟩
  rw [bA_size] at ha hb
  unfold maxLen at ha hb
  have H0 := Lib.hid (awake_sf w hT hM)
  clear hT hM
  by_cases hl : S.length ≤ 1000 ∧ R.length ≤ 1000
  · obtain ⟨hS, hR⟩ := hl
    have hS' : (S.length : Int) ≤ 1000 := by omega
    have hR' : (R.length : Int) ≤ 1000 := by omega
    have HA := Lib.hid (fun W => list_is S (by unfold maxLen; omega) W)
    have HB := Lib.hid (fun W => list_is R (by unfold maxLen; omega) W)
    have HC := Lib.hid (fun W => list_is (S ++ [9, 44, 32, 32] ++ R) (by unfold maxLen; simp only [List.length_append, List.length_cons, List.length_nil]; omega) W)
    obtain ⟨oa, hoa⟩ : ∃ o, Sf.readL false S = o := ⟨_, rfl⟩
    obtain ⟨ob, hob⟩ : ∃ o, Sf.readL false R = o := ⟨_, rfl⟩
    obtain ⟨oc, hoc⟩ : ∃ o, Sf.readL false (S ++ [9, 44, 32, 32] ++ R) = o := ⟨_, rfl⟩
    rw [hoa] at HA
    rw [hob] at HB
    rw [hoc] at HC
    have hla : (lst oa).length ≤ 1000 := by
      cases oa with
      | none => simp [lst]
      | some l => have := read_len hoa; simp only [lst, Option.getD_some]; omega
    have hlb : (lst ob).length ≤ 1000 := by
      cases ob with
      | none => simp [lst]
      | some l => have := read_len hob; simp only [lst, Option.getD_some]; omega
    have HP := Lib.hid (fun x (h : Sf.parse S = some x) => Sf.read_item h)
    rw [hoa] at HP
    have HJ : Hid (∀ la lb, oa = some la → ob = some lb → la ≠ [] → lb ≠ [] → oc = some (la ++ lb)) := Lib.hid (fun la lb h1 h2 h3 h4 => by
      rw [← hoc]
      rw [h1] at hoa
      rw [h2] at hob
      have := Sf.read_joins hoa hob h3 h4 (by omega)
      simpa using this)
    have z1 : ∀ W : World, (Op.stringOp .add (bA S) ⟨#[9, 44, 32, 32]⟩).run Tryz.prog W = .ok (.string (bA (S ++ [9, 44, 32, 32]))) W := fun W => sum_S S [9, 44, 32, 32] (by simp only [List.length_cons, List.length_nil]; omega) W
    have z2 : ∀ W : World, (Op.stringOp .add (bA (S ++ [9, 44, 32, 32])) (bA R)).run Tryz.prog W = .ok (.string (bA (S ++ [9, 44, 32, 32] ++ R))) W := fun W => sum_S _ R (by simp only [List.length_append, List.length_cons, List.length_nil]; omega) W
    obtain ⟨Z, hZ⟩ : ∃ Z, S ++ [9, 44, 32, 32] ++ R = Z := ⟨_, rfl⟩
    obtain ⟨Y, hY⟩ : ∃ Y, S ++ [9, 44, 32, 32] = Y := ⟨_, rfl⟩
    rw [hZ] at HC z2
    rw [hY] at z1 z2
    clear hoa hob hoc hZ hY ha hb
    go_enter Tryz.func6, Tryz.ntmps6
    go_wp2_with fail
    refine H0.out.mono ?_
    rintro e w1 ⟨rfl, hb1⟩
    have HB1 := Lib.hid hb1
    clear hb1 H0
    go_wp2_with fail
    refine (HA.out _).mono ?_
    rintro e w2 ⟨A1, k1, rfl, hb2, hv1⟩
    have HB2 := Lib.hid (onto HB1.out hb2); have HV1 := Lib.hid hv1
    clear hb2 hv1 HA HB1
    go_wp2_with fail
    refine (HB.out _).mono ?_
    rintro e w3 ⟨A2, k2, rfl, hb3, hv2⟩
    have HB3 := Lib.hid (onto HB2.out hb3); have HW1 := Lib.hid (HV1.out.below hb3); have HV2 := Lib.hid hv2
    clear hb3 hv2 HB HB2 HV1
    go_wp2_with fail
    refine (HC.out _).mono ?_
    rintro e w4 ⟨A3, k3, rfl, hb4, hv3⟩
    have HB4 := Lib.hid (onto HB3.out hb4); have HX1 := Lib.hid (HW1.out.below hb4); have HX2 := Lib.hid (HV2.out.below hb4); have HX3 := Lib.hid hv3
    clear hb4 hv3 HC HB3 HV2 HW1 z1 z2
    have HX1s := Lib.hid HX1.out.seen
    obtain ⟨na, hna⟩ : ∃ n, (lst oa).length = n := ⟨_, rfl⟩
    obtain ⟨nb, hnb⟩ : ∃ n, (lst ob).length = n := ⟨_, rfl⟩
    obtain ⟨nc, hnc⟩ : ∃ n, (lst oc).length = n := ⟨_, rfl⟩
    obtain ⟨ea, hea⟩ : ∃ n, er oa = n := ⟨_, rfl⟩
    obtain ⟨eb, heb⟩ : ∃ n, er ob = n := ⟨_, rfl⟩
    obtain ⟨ec, hec⟩ : ∃ n, er oc = n := ⟨_, rfl⟩
    rw [hna, hea, hnb, heb, hnc, hec]
    rw [hna] at hla
    rw [hnb] at hlb
    have HNA := Lib.hid hna; have HNB := Lib.hid hnb; have HNC := Lib.hid hnc; have HEA := Lib.hid hea; have HEB := Lib.hid heb; have HEC := Lib.hid hec
    clear hna hnb hnc hea heb hec
    by_cases q1 : ea = 0
    · have hea0 := q1
      subst hea0
      clear q1
      by_cases q2 : eb = 0
      · have heb0 := q2
        subst heb0
        clear q2
        rcases na with _ | na
        · skip
          have HPN := Lib.hid (fun h => parse_none (s := S) h w4)
          have HPS := Lib.hid (fun x (h : Sf.parse S = some x) => parse_some h w4)
          cases hp : Sf.parse S with
          | none =>
            have H5 := Lib.hid (HPN.out hp)
            clear HPN HPS hp
            go_wp2_with fail
            refine H5.out.mono ?_
            rintro e w8 ⟨rfl, hb8⟩
            have HB8 := Lib.hid (onto HB4.out hb8)
            clear hb8 H5
            go_wp2_with fail
            go_ret
            exact ⟨rfl, below_al HB8.out _⟩
          | some x =>
            exfalso
            have hoa := HP.out x hp
            have := HNA.out
            rw [hoa] at this
            simp [lst] at this
        · rcases nb with _ | nb
          · skip
            have HPN := Lib.hid (fun h => parse_none (s := S) h w4)
            have HPS := Lib.hid (fun x (h : Sf.parse S = some x) => parse_some h w4)
            cases hp : Sf.parse S with
            | none =>
              have H5 := Lib.hid (HPN.out hp)
              clear HPN HPS hp
              go_wp2_with fail
              refine H5.out.mono ?_
              rintro e w8 ⟨rfl, hb8⟩
              have HB8 := Lib.hid (onto HB4.out hb8)
              clear hb8 H5
              go_wp2_with fail
              go_ret
              exact ⟨rfl, below_al HB8.out _⟩
            | some x =>
              have H5 := Lib.hid (HPS.out x hp)
              have hoa := HP.out x hp
              have HLA : Hid (lst oa = [⟨[], false, x, [], []⟩]) := Lib.hid (by rw [hoa]; rfl)
              skip
              have hn1 : na + 1 = 1 := by rw [← HNA.out, HLA.out]; rfl
              clear HPN HPS hp hoa 
              obtain rfl : na = 0 := by omega
              skip
              go_wp2_with fail
              refine H5.out.mono ?_
              rintro e w8 ⟨B8, c8, rfl, hb8, hw8⟩
              have hb9 := below_one w8 (.cells (iC x.kind x.n x.text (.slice B8 x.params.length c8)) 35)
              have hS2 := seen_one (m := ⟨[], false, x, [], []⟩) (SM.mk ((PV.of hw8).sv.below hb9) (SI.nil _) (SV.nil _))
              have hsz9 : (w8.alloc (.cells (iC x.kind x.n x.text (.slice B8 x.params.length c8)) 35)).heap.size = w8.heap.size + 1 := by simp
              rw [hsz9] at hS2
              have hb10 := below_one (w8.alloc (.cells (iC x.kind x.n x.text (.slice B8 x.params.length c8)) 35)) (.cells (mC ⟨[], false, x, [], []⟩ (.slice B8 x.params.length c8) (.slice none 0 0) (.slice none 0 0)) 40)
              have h6 := same_yes A1 _ k1 1 _ _ (by have := ((HX1s.out.below hb8).below hb9).below hb10; rw [HLA.out] at this; exact this) hS2 (by simp [maxLen])
              have H6 := Lib.hid h6
              have HB10 := Lib.hid (onto (onto (onto HB4.out hb8) hb9) hb10)
              clear hb8 hw8 hb9 hS2 hb10 h6 H5 hsz9
              unfold iC mC at H6
              go_wp2_with fail
              refine H6.out.mono ?_
              rintro e w11 ⟨rfl, hb11⟩
              have HB11 := Lib.hid (onto HB10.out hb11)
              clear hb11 H6
              go_wp2_with fail
              go_ret
              exact ⟨rfl, HB11.out⟩
          · obtain ⟨la, hla'⟩ : ∃ la, oa = some la := by
              cases oa with
              | none => have := HEA.out; simp [er] at this
              | some la => exact ⟨la, rfl⟩
            obtain ⟨lb, hlb'⟩ : ∃ lb, ob = some lb := by
              cases ob with
              | none => have := HEB.out; simp [er] at this
              | some lb => exact ⟨lb, rfl⟩
            have hL1 : lst oa = la := by rw [hla']; rfl
            have hL2 : lst ob = lb := by rw [hlb']; rfl
            have hn1 := HNA.out
            have hn2 := HNB.out
            rw [hL1] at hn1
            rw [hL2] at hn2
            have hoc := HJ.out la lb hla' hlb' (by intro e; rw [e] at hn1; simp at hn1) (by intro e; rw [e] at hn2; simp at hn2)
            have hL3 : lst oc = la ++ lb := by rw [hoc]; rfl
            have hec : ec = 0 := by rw [← HEC.out]; exact er_some hoc
            subst hec
            have hv1 := HX1.out
            have hv2 := HX2.out
            have hv3 := HX3.out
            rw [hL1, hn1] at hv1
            rw [hL2, hn2] at hv2
            rw [hL3] at hv3
            have HN3 : Hid ((la ++ lb).length = nc) := Lib.hid (by rw [← HNC.out, hL3])
            have he0 : LV (w4.alloc (.cells #[] 40)) w4.heap.size (.slice (some ⟨w4.heap.size, 0, none⟩) 0 0) [] := ⟨[], own_empty, rfl⟩
            have hbe := below_one w4 (.cells #[] 40)
            have HE0 := Lib.hid he0
            have HY1 := Lib.hid (hv1.below hbe); have HY2 := Lib.hid hv2; have HY3 := Lib.hid hv3.seen
            have HLN : Hid (la.length + lb.length ≤ 100000) := Lib.hid (by omega)
            have HBE := Lib.hid hbe
            have HN1 := Lib.hid hn1; have HN2 := Lib.hid hn2
            clear he0 hbe hv1 hv2 hv3 hL1 hL2 hL3 hoc hla' hlb' HJ hn1 hn2
            go_wp2_with (at_builtin; refine wpList_append_mem rfl _ _ rfl w4.heap.size _ _ _ [] la rfl rfl HE0.out HY1.out (by have := HLN.out; simp only [List.length_nil]; omega) (by simp) ?_)
            intro v5 w5 hv5 hg5 _
            have hb5 : Below w4.heap.size w4 w5 := HBE.out.grown hg5 (by simp) (fun k hk => by cases hk; exact Nat.le_refl _)
            obtain ⟨a5, c5, rfl⟩ := hv5.slice
            have HV5 := Lib.hid hv5; have HB5 := Lib.hid hb5
            have HZ2 := Lib.hid (HY2.out.below hb5)
            have hs5 := hb5.size
            clear hv5 hg5 hb5
            go_wp2_with (at_builtin; refine wpList_append_mem rfl _ _ rfl w4.heap.size _ _ _ la lb rfl rfl HV5.out HZ2.out HLN.out hs5 ?_)
            intro v6 w6 hv6 hg6 _
            have hb6 : Below w4.heap.size w4 w6 := HB5.out.grown hg6 hs5 (fun k hk => by obtain ⟨xs, hr, _⟩ := HV5.out; exact (hr.lt k hk).1)
            obtain ⟨a6, c6, rfl⟩ := hv6.slice
            have HB6 := Lib.hid hb6
            have h6s := same_yes A3 a6 k3 c6 (la ++ lb) w6 (HY3.out.below hb6) hv6.seen (by unfold maxLen; have := HLN.out; rw [List.length_append]; omega)
            rw [HN3.out] at h6s ⊢
            have H6s := Lib.hid h6s
            clear hv6 hg6 hb6 h6s
            go_wp2_with fail
            refine H6s.out.mono ?_
            rintro e w7 ⟨rfl, hb7⟩
            have HB7 := Lib.hid (onto HB4.out (onto HB6.out hb7))
            have HX7 := Lib.hid (HX1s.out.below (onto HB6.out hb7))
            clear hb7 H6s
            have HPN := Lib.hid (fun h => parse_none (s := S) h w7)
            have HPS := Lib.hid (fun x (h : Sf.parse S = some x) => parse_some h w7)
            cases hp : Sf.parse S with
            | none =>
              have H5 := Lib.hid (HPN.out hp)
              clear HPN HPS hp
              go_wp2_with fail
              refine H5.out.mono ?_
              rintro e w8 ⟨rfl, hb8⟩
              have HB8 := Lib.hid (onto HB7.out hb8)
              clear hb8 H5
              go_wp2_with fail
              go_ret
              exact ⟨rfl, below_al HB8.out _⟩
            | some x =>
              have H5 := Lib.hid (HPS.out x hp)
              have hoa := HP.out x hp
              have HLA : Hid (lst oa = [⟨[], false, x, [], []⟩]) := Lib.hid (by rw [hoa]; rfl)
              skip
              have hn1 : na + 1 = 1 := by rw [← HNA.out, HLA.out]; rfl
              clear HPN HPS hp hoa 
              obtain rfl : na = 0 := by omega
              skip
              go_wp2_with fail
              refine H5.out.mono ?_
              rintro e w8 ⟨B8, c8, rfl, hb8, hw8⟩
              have hb9 := below_one w8 (.cells (iC x.kind x.n x.text (.slice B8 x.params.length c8)) 35)
              have hS2 := seen_one (m := ⟨[], false, x, [], []⟩) (SM.mk ((PV.of hw8).sv.below hb9) (SI.nil _) (SV.nil _))
              have hsz9 : (w8.alloc (.cells (iC x.kind x.n x.text (.slice B8 x.params.length c8)) 35)).heap.size = w8.heap.size + 1 := by simp
              rw [hsz9] at hS2
              have hb10 := below_one (w8.alloc (.cells (iC x.kind x.n x.text (.slice B8 x.params.length c8)) 35)) (.cells (mC ⟨[], false, x, [], []⟩ (.slice B8 x.params.length c8) (.slice none 0 0) (.slice none 0 0)) 40)
              have h6 := same_yes A1 _ k1 1 _ _ (by have := ((HX7.out.below hb8).below hb9).below hb10; rw [HLA.out] at this; exact this) hS2 (by simp [maxLen])
              have H6 := Lib.hid h6
              have HB10 := Lib.hid (onto (onto (onto HB7.out hb8) hb9) hb10)
              clear hb8 hw8 hb9 hS2 hb10 h6 H5 hsz9
              unfold iC mC at H6
              go_wp2_with fail
              refine H6.out.mono ?_
              rintro e w11 ⟨rfl, hb11⟩
              have HB11 := Lib.hid (onto HB10.out hb11)
              clear hb11 H6
              go_wp2_with fail
              go_ret
              exact ⟨rfl, HB11.out⟩
      · have q2' : (eb == 0) = false := by simpa using q2
        clear q2
        have HPN := Lib.hid (fun h => parse_none (s := S) h w4)
        have HPS := Lib.hid (fun x (h : Sf.parse S = some x) => parse_some h w4)
        cases hp : Sf.parse S with
        | none =>
          have H5 := Lib.hid (HPN.out hp)
          clear HPN HPS hp
          go_wp2_with fail
          refine H5.out.mono ?_
          rintro e w8 ⟨rfl, hb8⟩
          have HB8 := Lib.hid (onto HB4.out hb8)
          clear hb8 H5
          go_wp2_with fail
          go_ret
          exact ⟨rfl, below_al HB8.out _⟩
        | some x =>
          have H5 := Lib.hid (HPS.out x hp)
          have hoa := HP.out x hp
          have HLA : Hid (lst oa = [⟨[], false, x, [], []⟩]) := Lib.hid (by rw [hoa]; rfl)
          skip
          have hn1 : na = 1 := by rw [← HNA.out, HLA.out]; rfl
          clear HPN HPS hp hoa 
          subst hn1
          skip
          go_wp2_with fail
          refine H5.out.mono ?_
          rintro e w8 ⟨B8, c8, rfl, hb8, hw8⟩
          have hb9 := below_one w8 (.cells (iC x.kind x.n x.text (.slice B8 x.params.length c8)) 35)
          have hS2 := seen_one (m := ⟨[], false, x, [], []⟩) (SM.mk ((PV.of hw8).sv.below hb9) (SI.nil _) (SV.nil _))
          have hsz9 : (w8.alloc (.cells (iC x.kind x.n x.text (.slice B8 x.params.length c8)) 35)).heap.size = w8.heap.size + 1 := by simp
          rw [hsz9] at hS2
          have hb10 := below_one (w8.alloc (.cells (iC x.kind x.n x.text (.slice B8 x.params.length c8)) 35)) (.cells (mC ⟨[], false, x, [], []⟩ (.slice B8 x.params.length c8) (.slice none 0 0) (.slice none 0 0)) 40)
          have h6 := same_yes A1 _ k1 1 _ _ (by have := ((HX1s.out.below hb8).below hb9).below hb10; rw [HLA.out] at this; exact this) hS2 (by simp [maxLen])
          have H6 := Lib.hid h6
          have HB10 := Lib.hid (onto (onto (onto HB4.out hb8) hb9) hb10)
          clear hb8 hw8 hb9 hS2 hb10 h6 H5 hsz9
          unfold iC mC at H6
          go_wp2_with fail
          refine H6.out.mono ?_
          rintro e w11 ⟨rfl, hb11⟩
          have HB11 := Lib.hid (onto HB10.out hb11)
          clear hb11 H6
          go_wp2_with fail
          go_ret
          exact ⟨rfl, HB11.out⟩
    · have q1' : (ea == 0) = false := by simpa using q1
      clear q1
      have HPN := Lib.hid (fun h => parse_none (s := S) h w4)
      have HPS := Lib.hid (fun x (h : Sf.parse S = some x) => parse_some h w4)
      cases hp : Sf.parse S with
      | none =>
        have H5 := Lib.hid (HPN.out hp)
        clear HPN HPS hp
        go_wp2_with fail
        refine H5.out.mono ?_
        rintro e w8 ⟨rfl, hb8⟩
        have HB8 := Lib.hid (onto HB4.out hb8)
        clear hb8 H5
        go_wp2_with fail
        go_ret
        exact ⟨rfl, below_al HB8.out _⟩
      | some x =>
        exfalso
        have hoa := HP.out x hp
        have hee : ea = 0 := by rw [← HEA.out]; exact er_some hoa
        rw [hee] at q1'
        cases q1'
  · have H9 : ((1000 : Int) < (S.length : Int) ∨ ¬ ((1000 : Int) < (S.length : Int)) ∧ (1000 : Int) < (R.length : Int)) := by omega
    rcases H9 with h9 | ⟨h9, h8⟩
    · clear hl
      go_enter Tryz.func6, Tryz.ntmps6
      go_wp2_with fail
      refine H0.out.mono ?_
      rintro e w1 ⟨rfl, hb1⟩
      have HB1 := Lib.hid hb1
      clear hb1 H0
      go_wp2_with fail
      go_ret
      exact ⟨rfl, HB1.out⟩
    · clear hl
      go_enter Tryz.func6, Tryz.ntmps6
      go_wp2_with fail
      refine H0.out.mono ?_
      rintro e w1 ⟨rfl, hb1⟩
      have HB1 := Lib.hid hb1
      clear hb1 H0
      go_wp2_with fail
      go_ret
      exact ⟨rfl, HB1.out⟩
end Go.Proofs.YtogjekjklknfeaaGreatDoor
