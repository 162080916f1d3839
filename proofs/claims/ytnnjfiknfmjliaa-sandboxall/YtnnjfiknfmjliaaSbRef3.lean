/- The contracts of the document's All, Words; lists of policies that lie somewhere. -/
import Derived.Test.YtnnjfiknfmjliaaSbRef2
import Derived.Test.YtnnjfiknfmjliaaPol
import Derived.Test.YtnnjfiknfmjliaaTxApp
import Derived.Test.YtnnjfiknfmjliaaOctSplit
namespace Go.Proofs.Ytnnjfiknfmjliaa
open Go.RowKit Go.Deep

/-- A list of policies that lies somewhere. -/
def SeenPo (w : World) (A : Option Addr) (l : List Cs.Pol) : Prop := 0 < l.length → ∃ g q, A = some ⟨g, q, none⟩ ∧ g < w.heap.size ∧ ∀ i (h : i < l.length), ∃ A1 c1 A2 c2, (∀ j, j < 4 → w.cell? ⟨g, q + i * 4 + j, none⟩ = (polC l[i] A1 c1 A2 c2)[j]?) ∧ SeenT w A1 l[i].anc ∧ SeenT w A2 l[i].box
theorem SeenPo.below {w w' : World} {A : Option Addr} {l : List Cs.Pol} (h : SeenPo w A l) (hb : Below w.heap.size w w') : SeenPo w' A l := fun hn => by
  obtain ⟨g, q, e, hg, hc⟩ := h hn
  refine ⟨g, q, e, Nat.lt_of_lt_of_le hg hb.size, fun i hi => ?_⟩
  obtain ⟨A1, c1, A2, c2, x1, x2, x3⟩ := hc i hi
  exact ⟨A1, c1, A2, c2, fun j hj => (hb.cell (p := ⟨g, q + i * 4 + j, none⟩) hg).trans (x1 j hj), x2.below hb, x3.below hb⟩
theorem all_take {l : List Cs.Pol} {k : Nat} (hk : k < l.length) : Sb.all (l.take (k + 1)) = if l[k].hasBox then Sb.union (Sb.all (l.take k)) (Sb.flags l[k].box) else Sb.all (l.take k) := by
  rw [List.take_succ_eq_append_getElem hk, Sb.all_app]
set_option maxHeartbeats 4000000 in
theorem rall_any (A : Option Addr) (c : Nat) (l : List Cs.Pol) (w : World) (hl : l.length ≤ 100000000) (hle : ∀ p ∈ l, p.box.length ≤ 100000000 ∧ ∀ t ∈ p.box, t.length ≤ 100000000) (hA : SeenPo w A l) :
    Calls Try.prog 19 #[.slice A l.length c] w fun e w' => e = .returned (.int .i64 (Sb.all l)) ∧ Below w.heap.size w w' := by
  have HLE := Lib.hid hle; have HA := Lib.hid hA
  clear hle hA
  go_enter Try.func19, Try.ntmps19
  go_wp2_with fail
  go_loopw [3, 4] (fun ov iv wr => ∃ k : Nat, k ≤ l.length ∧ ov = .int .i64 (Sb.all (l.take k)) ∧ iv = .int .i64 k ∧ Hid (Below w.heap.size w wr)) (fun _ iv _ => l.length - (intOf iv).toNat)
  case atStart => exact ⟨0, by omega, rfl, rfl, Lib.hid (Below.refl _ _)⟩
  case round =>
    obtain ⟨k, hk, rfl, rfl, hbel⟩ := hrel
    by_cases hlt : k < l.length
    · have hsp := HA.out.below hbel.out
      obtain ⟨g, q, rfl, hg, hc⟩ := hsp (by omega)
      obtain ⟨A1, c1, A2, c2, hcs, _, hsb⟩ := hc k hlt
      have z2 : wr.cell? ⟨g, q + k * 4 + 2, none⟩ = some (.bool l[k].hasBox) := hcs 2 (by decide)
      have z3 : wr.cell? ⟨g, q + k * 4 + 3, none⟩ = some (.slice A2 l[k].box.length c2) := hcs 3 (by decide)
      have hat := all_take hlt
      have hbd := Sb.all_bd (l.take k)
      obtain ⟨h1, h2⟩ := HLE.out l[k] (List.getElem_mem hlt)
      have cf : ∀ W, SeenT W A2 (l[k]'hlt).box → _ := fun W (hS : SeenT W A2 (l[k]'hlt).box) => rflags_any A2 c2 (l[k]'hlt).box W h1 h2 hS
      have hfb := Sb.flags_bd l[k].box
      obtain ⟨S, hS⟩ : ∃ S, Sb.all (l.take k) = S := ⟨_, rfl⟩
      rw [hS] at hat hbd ⊢
      obtain ⟨F, hF⟩ : ∃ F, Sb.flags l[k].box = F := ⟨_, rfl⟩
      rw [hF] at hat cf hfb
      have cu := fun W => runion_any S F W hbd.1 hbd.2 hfb.1 hfb.2
      obtain ⟨U, hU⟩ : ∃ U, Sb.union S F = U := ⟨_, rfl⟩
      rw [hU] at hat cu
      obtain ⟨bx, hbx⟩ : ∃ b, l[k].hasBox = b := ⟨_, rfl⟩
      rw [hbx] at hat z2
      have CF := Lib.hid cf; have CU := Lib.hid cu; have HAT := Lib.hid hat; have HSB := Lib.hid hsb
      clear hsp hc hcs hat hbd h1 h2 cf hfb cu hS hF hU hbx hsb
      cases bx with
      | false =>
        go_wp2_with fail
        exact ⟨⟨k + 1, by omega, by rw [HAT.out]; rfl, by go_num, hbel⟩, by simp [intOf]; omega⟩
      | true =>
        go_wp2_with fail
        refine (CF.out _ HSB.out).mono ?_
        rintro e w5 ⟨rfl, hb5⟩
        have HB5 := Lib.hid (Below.onto hbel.out hb5)
        clear hb5
        go_wp2_with fail
        refine (CU.out _).mono ?_
        rintro e w6 ⟨rfl, rfl⟩
        go_wp2_with fail
        exact ⟨⟨k + 1, by omega, by rw [HAT.out]; rfl, by go_num, HB5⟩, by simp [intOf]; omega⟩
    · obtain rfl : k = l.length := by omega
      rw [List.take_of_length_le (Nat.le_refl _)]
      go_wp2_with fail
      go_ret
      exact ⟨rfl, hbel.out⟩

/-- The words of the first k flags. -/
def Sb.wordsTo (x : Int) (k : Nat) : List (List UInt8) := ((List.range k).filter fun i => !Sb.bit x i).map Sb.nm
theorem wordsTo_succ (x : Int) (k : Nat) : Sb.wordsTo x (k + 1) = if Sb.bit x k then Sb.wordsTo x k else Sb.wordsTo x k ++ [Sb.nm k] := by
  unfold Sb.wordsTo
  rw [List.range_succ, List.filter_append, List.map_append]
  cases h : Sb.bit x k <;> simp [h]
theorem wordsTo_len (x : Int) (k : Nat) : (Sb.wordsTo x k).length ≤ k := by
  unfold Sb.wordsTo
  rw [List.length_map]
  exact Nat.le_trans (List.length_filter_le _ _) (by simp)
theorem rhas_at (x : Int) (k : Nat) (hk : k < 6) (h0 : 0 ≤ x) (h1 : x ≤ 63) (w : World) : Calls Try.prog 27 #[.int .i64 x, .int .i64 ((2 : Int) ^ k)] w fun e w' => e = .returned (.bool (Sb.bit x k)) ∧ w = w' := by
  match k, hk with
  | 0, _ => exact rhas0_any x w h0 h1
  | 1, _ => exact rhas1_any x w h0 h1
  | 2, _ => exact rhas2_any x w h0 h1
  | 3, _ => exact rhas3_any x w h0 h1
  | 4, _ => exact rhas4_any x w h0 h1
  | 5, _ => exact rhas5_any x w h0 h1
set_option maxHeartbeats 4000000 in
theorem rwords_any (x : Int) (w : World) : Calls Try.prog 13 #[.int .i64 x] w (RetTexts w (Sb.words x)) := by
  have h3 : 0 ≤ x % 64 := Int.emod_nonneg _ (by decide)
  have h4 : x % 64 < 64 := Int.emod_lt_of_pos _ (by decide)
  have c1 := fun W => rwithin_any x W
  have c2 := fun k hk W => rhas_at (x % 64) k hk h3 (by omega) W
  have hw : Sb.words x = Sb.wordsTo x 6 := rfl
  rw [hw]
  simp only [Sb.bit_mod] at c2
  obtain ⟨y, hy⟩ : ∃ y, x % 64 = y := ⟨_, rfl⟩
  simp only [hy] at c1 c2
  have C1 := Lib.hid c1; have C2 := Lib.hid c2
  clear c1 c2 h3 h4 hw hy
  go_enter Try.func13, Try.ntmps13
  go_wp2_with fail
  refine (rnames_any w).mono ?_
  rintro e w1 ⟨An, rfl, hb1, hn1⟩
  have HB1 := Lib.hid hb1; have HN1 := Lib.hid hn1
  clear hb1 hn1
  go_wp2_with fail
  refine (C1.out _).mono ?_
  rintro e w2 ⟨rfl, rfl⟩
  go_wp2_with fail
  go_loopw [4, 5, 6] (fun ov fv iv wr => ∃ k : Nat, k ≤ 6 ∧ fv = .int .i64 ((2 : Int) ^ k) ∧ iv = .int .i64 k ∧ Hid (wr.ownsRow w1.heap.size 9 1 ov (Sb.wordsTo x k).length ((Sb.wordsTo x k).map Oct.strV)) ∧ Hid (Below w1.heap.size w1 wr)) (fun _ _ iv _ => 6 - (intOf iv).toNat)
  case atStart => exact ⟨0, by omega, rfl, rfl, Lib.hid (World.ownsRow_nil _ _ _ _), Lib.hid (Below.refl _ _)⟩
  case round =>
    obtain ⟨k, hk, rfl, rfl, hown, hbel⟩ := hrel
    by_cases hlt : k < 6
    · have hlt' : (k : Int) < 6 := by omega
      obtain ⟨g2, q2, eN, _, hcn⟩ := (HN1.out.below hbel.out) (by decide)
      subst eN
      have zc : wr.cell? ⟨g2, q2 + k, none⟩ = some (.string (bA (Sb.nm k))) := by
        have := hcn k hlt
        rw [nms_at hlt] at this
        exact this
      obtain ⟨p1, p2⟩ := sumB_pow k hlt
      have hp2 : (2 : Int) ^ (k + 1) = 2 * (2 : Int) ^ k := by rw [Int.pow_succ]; omega
      have ch := fun W => C2.out k hlt W
      have hws := wordsTo_succ x k
      have hwl := wordsTo_len x k
      obtain ⟨b, hb⟩ : ∃ b, Sb.bit x k = b := ⟨_, rfl⟩
      rw [hb] at ch hws
      obtain ⟨F, hF⟩ : ∃ F, (2 : Int) ^ k = F := ⟨_, rfl⟩
      rw [hF] at ch p1 p2 hp2 ⊢
      obtain ⟨n, hn⟩ : ∃ n, Sb.nm k = n := ⟨_, rfl⟩
      rw [hn] at zc hws
      obtain ⟨P, hP⟩ : ∃ P, Sb.wordsTo x k = P := ⟨_, rfl⟩
      rw [hP] at hown hws hwl
      have CH := Lib.hid ch; have HWS := Lib.hid hws; have HP2 := Lib.hid hp2
      clear hcn ch hws hp2 hb hF hn hP
      go_wp2_with fail
      refine (CH.out _).mono ?_
      rintro e w5 ⟨rfl, rfl⟩
      cases b with
      | true =>
        go_wp2_with fail
        exact ⟨⟨k + 1, by omega, by rw [HP2.out], by go_num, by rw [HWS.out]; exact hown, hbel⟩, by simp [intOf]; omega⟩
      | false =>
        have hbs := hbel.out.size
        go_wp2_with (first
          | (at_builtin; refine wp_appT rfl _ _ rfl w1.heap.size _ P [n] rfl (World.ownsRow.alloc hown.out _) _ _ rfl (seen_fresh1 _ _) (by unfold maxLen; simp; omega) (by simp; omega) (by simp; omega) ?_; intro v6 w6 hown6 _ hb6)
          | fail)
        have hb7 := (hbel.out.alloc hbs _).trans hb6
        exact ⟨⟨k + 1, by omega, by rw [HP2.out], by go_num, by rw [HWS.out]; exact Lib.hid hown6, Lib.hid hb7⟩, by simp [intOf]; omega⟩
    · obtain rfl : k = 6 := by omega
      go_wp2_with fail
      go_ret
      exact ⟨_, rfl, HB1.out.trans (hbel.out.mono HB1.out.size), owns_base hown.out HB1.out.size⟩
end Go.Proofs.Ytnnjfiknfmjliaa
