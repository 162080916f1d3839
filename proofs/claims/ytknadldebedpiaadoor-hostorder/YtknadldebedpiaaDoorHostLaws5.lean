/- The walk of the statement that the order of suffixes changes no site. -/
import Derived.Test.YtknadldebedpiaaDoorHostLaws2
import Derived.Test.YtknadldebedpiaaDoorHostMath3
import Derived.Laws.AppendOwnNone
namespace Go.Proofs.YtknadldebedpiaaDoor
open Go.RowKit

theorem oneCells (ps : List (List UInt8)) : ∀ u ∈ ps.map Oct.strV, u.oneCell' = true := by
  intro u hu
  obtain ⟨p, _, rfl⟩ := List.mem_map.1 hu
  rfl
/-- 'append(a, b...)', a a list of texts of one's own, b one that lies somewhere, or nil. -/
theorem wpList_append_seen {w : World} {ops : Array Oper} {rest : List Oper} {o : Oper} {a : Act} {Q : Exit → Act → World → Prop} (hgd : o.guard = none) (s x : Operand)
    (ho : o.op = .call { callee := .builtin .append, args := #[s, x], argTypes := #[30, 30] }) (b3 : Nat) (v3 : Value) (A : Option Addr) (c : Nat) (pa pb : List (List UInt8)) (hs : a.eval s = v3) (hx : a.eval x = .slice A pb.length c)
    (h3 : w.ownsRow b3 9 1 v3 pa.length (pa.map Oct.strV)) (h4 : Seen w A pb) (hnil : A = none → pb.length = 0 ∧ c = 0) (hlen : pa.length + pb.length ≤ 100000) (hb3 : b3 ≤ w.heap.size)
    (h : ∀ v' w', w'.ownsRow b3 9 1 v' (pa ++ pb).length ((pa ++ pb).map Oct.strV) → w.grownBy w' v3.ownBlock → wpList Tryd.prog ops Q rest (a.put o.dst v') w') : wpList Tryd.prog ops Q (o :: rest) a w := by
  obtain ⟨i0, hi, hz0, hz1, hz2⟩ := info_parts info_string
  cases A with
  | none =>
    obtain ⟨e1, rfl⟩ := hnil rfl
    have e2 : pb = [] := List.length_eq_zero_iff.1 e1
    subst e2
    refine wpList_append_own_none hgd s x 30 ho b3 9 i0 1 Tryd.underlying30 hi v3 _ _ hs h3 hx ?_
    exact h v3 w (by simpa using h3) ⟨rfl, rfl, rfl, Nat.le_refl _, fun _ _ _ => rfl⟩
  | some ad =>
    refine wpList_append_own _ hgd s x 30 ho b3 9 i0 (.string ⟨#[]⟩) 1 16 Tryd.underlying30 hi hz0 hz1 hz2 rfl (by decide) v3 _ _ hs h3 ad pb.length c (pb.map Oct.strV) hx (by simp) ?_ (oneCells pb) (by unfold maxLen; omega) (by omega) hb3 ?_
    · intro j u hu
      have hj : j < pb.length := by
        rcases Nat.lt_or_ge j pb.length with h | h
        · exact h
        · rw [List.getElem?_eq_none (by simpa using h)] at hu; cases hu
      obtain ⟨ad', e, _, hc⟩ := h4 (by omega)
      cases e
      rw [List.getElem?_map, List.getElem?_eq_getElem hj] at hu
      simp only [Option.map_some, Option.some.injEq] at hu
      rw [hc j hj, hu]
    · intro v' w' a1 a2 _
      exact h v' w' (by simpa using a1) a2

theorem add_zero (g i : Nat) : (⟨g, 0, none⟩ : Addr).add i = ⟨g, i, none⟩ := by
  unfold Addr.add
  split
  · rename_i h; rw [h]
  · simp
theorem rev_take (sx : List (List UInt8)) (j : Nat) (hj : j < sx.length) : sx.reverse.take (sx.length - j) = sx.reverse.take (sx.length - (j + 1)) ++ [sx[j]] := by
  have h : sx.length - (j + 1) < sx.reverse.length := by simp; omega
  rw [show sx.length - j = sx.length - (j + 1) + 1 by omega, List.take_succ_eq_append_getElem h, List.getElem_reverse]
  have e : sx.length - 1 - (sx.length - (j + 1)) = j := by omega
  simp only [e]
/-- What a round keeps. -/
structure OrInv (w1 wr : World) (sx : List (List UInt8)) (k : Nat) (v : Value) : Prop where
  bel : Below w1.heap.size w1 wr
  own : wr.ownsRow w1.heap.size 9 1 v (sx ++ sx.reverse.take k).length ((sx ++ sx.reverse.take k).map Oct.strV)
theorem OrInv.seen {w1 wr : World} {sx : List (List UInt8)} {v : Value} (h : OrInv w1 wr sx sx.length v) : ∃ A c, v = .slice A (sx ++ sx.reverse).length c ∧ Seen wr A (sx ++ sx.reverse) := by
  have ho := h.own
  rw [show sx.reverse.take sx.length = sx.reverse from List.take_of_length_le (by simp)] at ho
  rcases owns_view2 ho with ⟨rfl, e⟩ | ⟨g, cap, rfl, _, hg, _, hc⟩
  · exact ⟨none, 0, by rw [e]; rfl, fun h => by rw [e] at h; simp at h⟩
  · exact ⟨some ⟨g, 0, none⟩, cap, rfl, fun _ => ⟨_, rfl, hg, fun i hi => by rw [add_zero g i]; exact hc i hi⟩⟩
theorem own_empty (w1 : World) : (w1.alloc (.cells #[] 9)).ownsRow w1.heap.size 9 1 (.slice (some ⟨w1.heap.size, 0, none⟩) 0 0) 0 [] :=
  ⟨rfl, .inr ⟨w1.heap.size, 0, #[], rfl, Nat.le_refl _, World.alloc_heap_new w1 _, Nat.le_refl _, by simp [maxLen], rfl, rfl⟩⟩

set_option maxHeartbeats 2000000 in
theorem walk_HostOrder (n : ByteArray) (b : Bool) (a : Int) (A : Option Addr) (c : Nat) (sx : List (List UInt8)) (w : World) (hn : n.size ≤ maxLen) (a0 : 0 ≤ a) (a1 : a ≤ 4294967295) (hA : Seen w A sx) (hsl : sx.length ≤ maxLen) (hsz : ∀ s ∈ sx, s.length ≤ maxLen) (hnil : A = none → sx.length = 0 ∧ c = 0) (hT : Tab w) :
    Calls Tryd.prog 9 #[.agg #[.string n, .bool b, .int .u32 a], .slice A sx.length c] w fun e w' => e = .returned (.bool true) ∧ Below w.heap.size w w' := by
  unfold maxLen at hn hsl
  have hbx : Below w.heap.size w (w.alloc (.cells #[.string n, .bool b, .int .u32 a] 25)) := (Below.refl _ w).alloc (Nat.le_refl _) _
  have HT1 := Lib.hid (hT.below hbx)
  have HSZ := Lib.hid hsz
  have HA := Lib.hid hA
  have HT := Lib.hid hT
  have HNIL := Lib.hid hnil
  clear hsz hA hT hnil
  by_cases h1 : 1000 < n.size
  · have h1' : (1000 : Int) < (n.size : Int) := by omega
    go_enter Tryd.func9, Tryd.ntmps9
    go_wp2_with fail
    refine (awake_any _ HT1.out).mono ?_
    rintro e w1 ⟨rfl, hb1⟩
    have q1 := (HBox.new w n b a).below hb1 (by simp)
    have c0 := q1.c0
    have hB := Below.onto hbx hb1
    go_wp2_with fail
    go_ret
    exact ⟨rfl, hB⟩
  by_cases h2 : 100 < sx.length
  · have h2' : (100 : Int) < (sx.length : Int) := by omega
    have h1' : n.size ≤ 1000 := by omega
    have h1'' : decide ((1000 : Int) < (n.size : Int)) = false := by simp; omega
    go_enter Tryd.func9, Tryd.ntmps9
    go_wp2_with fail
    refine (awake_any _ HT1.out).mono ?_
    rintro e w1 ⟨rfl, hb1⟩
    have q1 := (HBox.new w n b a).below hb1 (by simp)
    have c0 := q1.c0
    have hB := Below.onto hbx hb1
    go_wp2_with fail
    go_ret
    exact ⟨rfl, hB⟩
  have h1' : n.size ≤ 1000 := by omega
  have h2' : sx.length ≤ 100 := by omega
  have h1'' : decide ((1000 : Int) < (n.size : Int)) = false := by simp; omega
  have h2'' : decide ((100 : Int) < (sx.length : Int)) = false := by simp; omega
  clear h1 h2
  go_enter Tryd.func9, Tryd.ntmps9
  go_wp2_with fail
  refine (awake_any _ HT1.out).mono ?_
  rintro e w1 ⟨rfl, hb1⟩
  have hB := Below.onto hbx hb1
  have hR : Ready w w.heap.size n b a A sx w1 := ⟨hB, HT.out.below hB, HA.out.below hB, (HBox.new w n b a).below hb1 (by simp)⟩
  have c0 := hR.box.c0
  have hse := hR.seen.below ((Below.refl _ w1).alloc (Nat.le_refl _) (.cells #[] 9))
  go_wp2_with (at_builtin; refine wpList_append_seen rfl _ _ rfl w1.heap.size _ A c [] sx rfl rfl (own_empty w1) hse HNIL.out (by simp; omega) (by simp) ?_)
  intro v2 w2 ho2 hg2
  have hI : OrInv w1 w2 sx 0 v2 := ⟨((Below.refl _ w1).alloc (Nat.le_refl _) _).grown hg2 (by simp) (fun k hk => by simp [Value.ownBlock] at hk; omega), by simpa using ho2⟩
  clear ho2 hg2 h1'' h2'' hse
  obtain ⟨i0, hi, hz0, hz1, hz2⟩ := info_parts info_string
  have HI := Lib.hid hi; have HZ0 := Lib.hid hz0; have HZ1 := Lib.hid hz1; have HZ2 := Lib.hid hz2
  clear hi hz0 hz1 hz2
  have hw1 := hB.size
  go_wp2_with fail
  go_loopw [6, 7] (fun v i wr => ∃ r : Nat, r ≤ sx.length ∧ i = .int .i64 ((r : Int) - 1) ∧ OrInv w1 wr sx (sx.length - r) v ∧ Hid (∀ s ∈ sx.reverse.take (sx.length - r), s.length ≤ 1000)) (fun _ i _ => (intOf i + 1).toNat)
  case atStart => exact ⟨sx.length, Nat.le_refl _, rfl, by rw [Nat.sub_self]; exact hI, by rw [Nat.sub_self]; exact fun _ h => by simp at h⟩
  case round =>
    obtain ⟨r, hr, rfl, hin, hall⟩ := hrel
    cases r with
    | succ j =>
      have ej : ((j + 1 : Nat) : Int) - 1 = (j : Int) := by omega
      rw [ej]
      clear ej
      have hlt : j < sx.length := by omega
      obtain ⟨ad, rfl, _, hac⟩ := (hR.seen.below hin.bel) (by omega)
      have hce := hac j hlt
      have hsm := HSZ.out _ (List.getElem_mem hlt)
      have hrt := rev_take sx j hlt
      obtain ⟨p, hp⟩ : ∃ p, sx[j] = p := ⟨_, rfl⟩
      rw [hp] at hce hsm hrt
      have hzl := size_list p
      obtain ⟨z, hz⟩ : ∃ z : ByteArray, z = ⟨p.toArray⟩ := ⟨_, rfl⟩
      unfold Oct.strV at hce
      unfold maxLen at hsm
      rw [← hz] at hce hzl
      have HZ := Lib.hid hz
      have HZL := Lib.hid hzl
      have HRT := Lib.hid hrt
      have hzm : z.size ≤ 9223372036854775807 := by omega
      clear hp hac hz hzl hsm hrt
      obtain ⟨hbel, hown⟩ := hin
      have hsz1 := hbel.size
      have hlen : (sx ++ sx.reverse.take (sx.length - (j + 1))).length ≤ 200 := by simp; omega
      by_cases hbig : 1000 < z.size
      · have hbig' : (1000 : Int) < (z.size : Int) := by omega
        go_wp2_with fail
        go_ret
        exact ⟨rfl, hB.trans (hbel.mono hw1)⟩
      · have hbig' : z.size ≤ 1000 := by omega
        obtain ⟨L, hL⟩ : ∃ L, sx ++ sx.reverse.take (sx.length - (j + 1)) = L := ⟨_, rfl⟩
        rw [hL] at hown hlen
        have HLL := Lib.hid hL
        clear hL
        go_wp2_with (at_builtin; refine wpList_append_own _ rfl _ _ 30 rfl w1.heap.size 9 i0 (.string ⟨#[]⟩) 1 16 Tryd.underlying30 HI.out HZ0.out HZ1.out HZ2.out rfl (by decide) _ _ _ rfl (hown.alloc _) ⟨wr.heap.size, 0, none⟩ 1 1 [.string z] rfl rfl ?c1 ?c2 ?c3 ?c4 ?c5 ?_)
        case c1 =>
          intro j u hj
          match j, hj with
          | 0, hj => simp at hj; subst hj; simp [Addr.add]
        case c2 => intro u hu; simp at hu; subst hu; rfl
        case c3 => unfold maxLen; omega
        case c4 => omega
        case c5 => simp; omega
        · intro v' w3 hown' hgrow _
          have hD : OrInv w1 w3 sx (sx.length - j) v' := by
            refine ⟨(hbel.alloc hsz1 _).grown hgrow (by simp; omega) (fun g hg => (hown.lt g hg).1), ?_⟩
            rw [HRT.out, ← List.append_assoc, HLL.out]
            rw [HZ.out] at hown'
            simpa [Oct.strV] using hown'
          clear hown' hgrow hown hbel
          go_wp2_with fail
          go_roundw
          case rel =>
            refine ⟨j, by omega, rfl, hD, ?_⟩
            rw [HRT.out]
            intro s hs
            rcases List.mem_append.1 hs with hs | hs
            · exact hall.out s hs
            · have e1 : s = p := by simpa using hs
              have := HZL.out
              rw [e1]; omega
          case measure => simp [intOf]
    | zero =>
      have e0 : ((0 : Nat) : Int) - 1 = -1 := rfl
      rw [e0]
      clear e0
      have hall2 : ∀ s ∈ sx, s.length ≤ 1000 := fun s hs => hall.out s (by rw [Nat.sub_zero, List.take_of_length_le (by simp)]; simpa using hs)
      rw [Nat.sub_zero] at hin
      obtain ⟨A2, c2, hv, hs2⟩ := hin.seen
      have hR2 : Ready w w.heap.size n b a A sx wr := ⟨hB.trans (hin.bel.mono hw1), HT.out.below (hB.trans (hin.bel.mono hw1)), hR.seen.below hin.bel, hR.box.below hin.bel hR.box.lt⟩
      have hS2 : Ready w w.heap.size n b a A2 (sx ++ sx.reverse) wr := ⟨hR2.bel, hR2.tab, hs2, hR2.box⟩
      have HALL := Lib.hid hall2
      have hall3 : ∀ s ∈ sx ++ sx.reverse, s.length ≤ 1000 := fun s hs => by
        rcases List.mem_append.1 hs with h | h
        · exact hall2 s h
        · exact hall2 s (by simpa using h)
      have HALL3 := Lib.hid hall3
      have hst := site_turn ⟨n.data.toList, b, a⟩ sx
      have hcall := fun W hTW hsW => site_any n b a A2 c2 (sx ++ sx.reverse) W hTW a0 a1 h1' (by simp; omega) hall3 hsW
      rw [hst] at hcall
      subst hv
      obtain ⟨SX, hSX⟩ : ∃ SX, sx ++ sx.reverse = SX := ⟨_, rfl⟩
      rw [hSX] at hcall hS2 ⊢
      have HC := Lib.hid hcall
      clear hcall hst hall2 hall3 hSX hs2 hin hI
      go_wp2_with fail
      go_region_held3 (fun w' => w'.cell? ⟨w.heap.size, 0, none⟩ = some (.string n) ∧ w'.cell? ⟨w.heap.size, 1, none⟩ = some (.bool b) ∧ w'.cell? ⟨w.heap.size, 2, none⟩ = some (.int .u32 a) ∧ Ready w w.heap.size n b a A sx w')
        (first
          | exact hR2.all
          | exact hR2.drew.all
          | exact hR3.all
          | exact hR4.all)
        (first
          | (go_at_call 16; refine (HC.out _ hR2.drew.tab hS2.drew.seen).mono ?_; clear HC; rintro e w2 ⟨rfl, hb2⟩; have hR3 := Ready.below hb2 hR2.drew)
          | (go_at_call 16; refine (site_any n b a A c sx _ hR3.tab a0 a1 h1' (by omega) HALL.out hR3.seen).mono ?_; rintro e w4 ⟨rfl, hb4⟩; have hR4 := Ready.below hb4 hR3))
      go_wp2_with fail
      go_ret
      exact ⟨rfl, hR4.bel⟩
end Go.Proofs.YtknadldebedpiaaDoor
