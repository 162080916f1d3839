/- The walk of the statement that words take away one by one. -/
import Derived.Test.YtnnjfiknfmjliaaSbAwake
namespace Go.Proofs.Ytnnjfiknfmjliaa
open Go.ChangeShapes Go.WideShapes Go.ChangeAt Go.RowKit

theorem and_fin : ∀ a b : Fin 64, bits .and .i64 (a.val : Int) (b.val : Int) = Sb.val fun i => Sb.bit (a.val : Int) i && Sb.bit (b.val : Int) i := by decide +kernel
theorem and_any {a b : Int} (ha : 0 ≤ a ∧ a ≤ 63) (hb : 0 ≤ b ∧ b ≤ 63) : bits .and .i64 a b = Sb.val fun i => Sb.bit a i && Sb.bit b i := by
  obtain ⟨n, rfl⟩ : ∃ n : Nat, a = (n : Int) := ⟨a.toNat, by omega⟩
  obtain ⟨m, rfl⟩ : ∃ n : Nat, b = (n : Int) := ⟨b.toNat, by omega⟩
  exact and_fin ⟨n, by omega⟩ ⟨m, by omega⟩
theorem flags_take {ws : List (List UInt8)} {k : Nat} (hk : k < ws.length) : Sb.flags (ws.take (k + 1)) = bits .and .i64 (Sb.flags (ws.take k)) (Sb.flags [ws[k]]) := by
  rw [List.take_succ_eq_append_getElem hk, Sb.flags_snoc, and_any (Sb.flags_bd _) (Sb.flags_bd _)]
/-- 'l[k:k+1]' of texts. -/
theorem slice_one (g q n c k : Nat) (hk : k < n) (hc : n ≤ c) (W : World) : (Instr.slice 23 (.slice (some ⟨g, q, none⟩) n c) (some (.int .i64 (k : Int))) (some (.int .i64 ((k : Int) + 1))) none).run Try.prog W = .ok (.slice (some ⟨g, q + k, none⟩) 1 (c - k)) W := by
  have h1 : (k : Int) + 1 ≤ (c : Int) := by omega
  have h2 : (k : Int) ≤ (k : Int) + 1 := by omega
  have h3 : ((k : Int) + 1).toNat = k + 1 := by omega
  have h4 : ¬ c = k := by omega
  have h5 : k + 1 - k = 1 := by omega
  simp [go_sem, h1, h2, h3, h4, h5, Addr.add, Try.underlying23]
def twC (A : Option Addr) (n c : Nat) : Array Value := #[.bool false, .slice none 0 0, .bool true, .slice A n c, .bool false, .slice none 0 0, .bool false, .slice A n c]
theorem seen_twP {W : World} {A : Option Addr} {c : Nat} {ws : List (List UInt8)} (hs : SeenT W A ws) : SeenPo (W.alloc (.cells (twC A ws.length c) 32)) (some ⟨W.heap.size, 0, none⟩) [⟨false, [], true, ws⟩, ⟨false, [], false, ws⟩] := by
  have h := CBox.new W 32 (twC A ws.length c)
  have hs := hs.below ((Below.refl _ W).alloc (Nat.le_refl _) (.cells (twC A ws.length c) 32))
  have hr : RowQ (W.alloc (.cells (twC A ws.length c) 32)) [⟨false, [], true, ws⟩, ⟨false, [], false, ws⟩] (twC A ws.length c).toList := ⟨none, 0, A, c, _, rfl, SeenT.nil _ _, hs, none, 0, A, c, [], rfl, SeenT.nil _ _, hs, rfl⟩
  refine hr.seen h.lt fun j u hu => ?_
  have := h.c j
  rw [Nat.zero_add, this, ← hu]
  simp
set_option maxHeartbeats 4000000 in
theorem walk_SandboxSum (A : Option Addr) (c : Nat) (ws : List (List UInt8)) (w : World) (ha : WideTs w A c ws) :
    Calls Try.prog 8 #[.slice A ws.length c] w fun e w' => e = .returned (.bool true) ∧ Below w.heap.size w w' := by
  have HA := Lib.hid ha.seen
  have HCP := ha.cap
  have HSH := Lib.hid (fun W h => short_any A c ws W h)
  have HF1 := Lib.hid (fun A c (us : List (List UInt8)) W (hl : us.length ≤ 10000) hle hA => sbFlags_any A c us W hl hle hA)
  have cfa := fun W (q : ShortW ws) hA => sbFlags_any A c ws W (Nat.le_trans q.len (by decide)) (fun t ht => Nat.le_trans (q.each t ht) (by decide)) hA
  have cal := fun A2 c2 W (q : ShortW ws) hA => sbAll_any A2 c2 [⟨false, [], true, ws⟩, ⟨false, [], false, ws⟩] W (by simp) (fun p hp => by
    have e : p.box = ws := by
      simp only [List.mem_cons, List.not_mem_nil, or_false] at hp
      rcases hp with rfl | rfl <;> rfl
    rw [e]
    exact ⟨Nat.le_trans q.len (by decide), fun t ht => Nat.le_trans (q.each t ht) (by decide)⟩) hA
  rw [Sb.all_two] at cal
  have ht0 : Sb.flags (ws.take 0) = 63 := Sb.flags_nil
  have htn : Sb.flags (ws.take ws.length) = Sb.flags ws := by rw [List.take_of_length_le (Nat.le_refl _)]
  have HST := Lib.hid (fun k (hk : k < ws.length) => flags_take hk)
  have HBD := Lib.hid (fun k => Sb.flags_bd (ws.take k))
  obtain ⟨f, hf⟩ : ∃ f, Sb.flags ws = f := ⟨_, rfl⟩
  rw [hf] at cfa cal htn
  have HFA := Lib.hid cfa; have HAL := Lib.hid cal; have HT0 := Lib.hid ht0; have HTN := Lib.hid htn
  clear ha cfa cal ht0 htn hf
  go_enter Try.func8, Try.ntmps8
  go_wp2_with fail
  refine (awake12_any _).mono ?_
  rintro e w1 ⟨rfl, hb1⟩
  have HB1 := Lib.hid hb1; have HT1 := Lib.hid (HA.out.below hb1)
  clear hb1 HA
  go_wp2_with fail
  refine (HSH.out _ HT1.out).mono ?_
  rintro e w2 ⟨rfl, rfl⟩
  cases hsb : shortB ws with
  | false =>
    go_wp2_with fail
    go_ret
    exact ⟨rfl, HB1.out⟩
  | true =>
  have HS := Lib.hid (short_is hsb)
  clear hsb HSH
  by_cases q1 : 60 < ws.length
  · have q1' : (60 : Int) < (ws.length : Int) := by omega
    clear q1
    go_wp2_with fail
    go_ret
    exact ⟨rfl, HB1.out⟩
  have q1' : ¬ (60 : Int) < (ws.length : Int) := by omega
  have q2 : ws.length ≤ 60 := by omega
  clear q1
  go_wp2_with fail
  clear q1'
  go_loopw [5, 6] (fun lv iv wr => ∃ k : Nat, k ≤ ws.length ∧ lv = .int .i64 (Sb.flags (ws.take k)) ∧ iv = .int .i64 k ∧ Hid (Below w.heap.size w wr) ∧ Hid (SeenT wr A ws)) (fun _ iv _ => ws.length - (intOf iv).toNat)
  case atStart => exact ⟨0, by omega, by rw [HT0.out], rfl, HB1, HT1⟩
  case round =>
    obtain ⟨k, hk, rfl, rfl, hbel, hsn⟩ := hrel
    by_cases hlt : k < ws.length
    · obtain ⟨g, q, rfl, hg, hc⟩ := hsn.out (by omega)
      have hst := HST.out k hlt
      have hsl := slice_one g q ws.length c k hlt HCP
      have hs1 : SeenT wr (some ⟨g, q + k, none⟩) [ws[k]] := fun _ => ⟨g, q + k, rfl, hg, fun i hi => by
        obtain rfl : i = 0 := by simpa using hi
        exact hc k hlt⟩
      have cf := HF1.out (some ⟨g, q + k, none⟩) (c - k) [ws[k]] wr (by simp) (fun t ht => by
        obtain rfl : t = ws[k] := by simpa using ht
        exact Nat.le_trans (HS.out.each _ (List.getElem_mem hlt)) (by decide)) hs1
      obtain ⟨L, hL⟩ : ∃ L, Sb.flags (ws.take k) = L := ⟨_, rfl⟩
      obtain ⟨F, hF⟩ : ∃ F, Sb.flags [ws[k]] = F := ⟨_, rfl⟩
      rw [hL] at hst ⊢
      rw [hF] at hst cf
      have CF := Lib.hid cf; have HX := Lib.hid hst
      clear hc hst hs1 cf hL hF hg
      go_wp2_with fail
      refine CF.out.mono ?_
      rintro e w5 ⟨rfl, hb5⟩
      have HB5 := Lib.hid (Below.onto hbel.out hb5); have HT5 := Lib.hid (hsn.out.below hb5)
      clear hb5
      go_wp2_with fail
      exact ⟨⟨k + 1, by omega, by rw [HX.out], by go_num, HB5, HT5⟩, by simp [intOf]; omega⟩
    · obtain rfl : k = ws.length := by omega
      rw [HTN.out]
      clear hlt hk HST HBD HF1 HT0 HTN HB1 HT1
      go_wp2_with fail
      refine (HAL.out _ _ _ HS.out (seen_twP hsn.out)).mono ?_
      rintro e w3 ⟨rfl, hb3⟩
      have ba := (Below.refl wr.heap.size wr).alloc (Nat.le_refl _) (.cells (twC A ws.length c) 32)
      have HB3 := Lib.hid (Below.onto (Below.onto hbel.out ba) hb3); have HT3 := Lib.hid ((hsn.out.below ba).below hb3)
      clear hb3 ba hbel hsn HAL
      go_wp2_with fail
      refine (HFA.out _ HS.out HT3.out).mono ?_
      rintro e w4 ⟨rfl, hb4⟩
      have HB4 := Lib.hid (Below.onto HB3.out hb4)
      clear hb4 HB3 HT3 HFA
      go_wp2_with fail
      go_ret
      exact ⟨rfl, HB4.out⟩
end Go.Proofs.Ytnnjfiknfmjliaa
