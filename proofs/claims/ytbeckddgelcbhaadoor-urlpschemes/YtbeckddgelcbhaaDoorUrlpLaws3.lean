/- The walk of the statement on paths. -/
import Derived.Test.YtbeckddgelcbhaaDoorUrlpAwake
import Derived.Test.YtbeckddgelcbhaaDoorUrlpMath4
namespace Go.Proofs.YtbeckddgelcbhaaDoor
open Go.RowKit

theorem web_err {s r : List UInt8} {e : Int} (h : Urp.web s r = .error e) : (e != 0) = true := by
  unfold Urp.web at h
  repeat' split at h
  all_goals first | (cases h; decide; done) | cases h
theorem parse_err_ne {l : List UInt8} {e : Int} (h : Urp.parse l = .error e) : (e != 0) = true := by
  unfold Urp.parse at h
  cases hc : Urp.cutS (Urp.trimU l) with
  | error e2 =>
    rw [hc] at h
    cases h
    unfold Urp.cutS at hc
    split at hc
    · cases hc; decide
    · split at hc
      · cases hc
      · cases hc; decide
  | ok x =>
    obtain ⟨s, a⟩ := x
    rw [hc] at h
    simp only at h
    split at h
    · split at h
      · exact web_err h
      · split at h
        · cases h
        · cases h; decide
    · cases h; decide
theorem ne_eq {x : Int} (h : (x != 0) = true) : (x == 0) = false := by simpa using h

/-- What Parse answers, in three ways. -/
theorem parse_ways (l : List UInt8) : (∃ e, Urp.parse l = .error e ∧ (e != 0) = true) ∨ (∃ u, Urp.parse l = .ok u ∧ Urp.netB u.scheme = false) ∨ (∃ u, Urp.parse l = .ok u ∧ Urp.netB u.scheme = true) := by
  cases h : Urp.parse l with
  | error e => exact .inl ⟨e, rfl, parse_err_ne h⟩
  | ok u =>
    cases hn : Urp.netB u.scheme with
    | false => exact .inr (.inl ⟨u, rfl, hn⟩)
    | true => exact .inr (.inr ⟨u, rfl, hn⟩)
/-- Parse's contract where it answers a URL, in cells. -/
theorem uparse_ok {l : List UInt8} {x : Urp.URL} (h : Urp.parse l = .ok x) (hl : l.length ≤ 4000) (W : World) (hT : Tab8 W) : Calls Tryd.prog 11 #[.string (bA l)] W fun e w' => e = .returned (.tuple #[.agg #[.string (bA x.scheme), .string (bA x.host.name), .bool x.host.v4, .int .u32 x.host.addr, .int .i64 x.port, .string (bA x.path), .bool x.hasq, .string (bA x.query), .string (bA x.rest)], .int .i64 0]) ∧ Below W.heap.size W w' := by
  have := uparse_any l W hl hT
  rw [h] at this
  exact this
theorem uparse_er {l : List UInt8} {er : Int} (h : Urp.parse l = .error er) (hl : l.length ≤ 4000) (W : World) (hT : Tab8 W) : Calls Tryd.prog 11 #[.string (bA l)] W fun e w' => e = .returned (.tuple #[.agg #[.string ⟨#[]⟩, .string ⟨#[]⟩, .bool false, .int .u32 0, .int .i64 0, .string ⟨#[]⟩, .bool false, .string ⟨#[]⟩, .string ⟨#[]⟩], .int .i64 er]) ∧ Below W.heap.size W w' := by
  have := uparse_any l W hl hT
  rw [h] at this
  exact this

set_option maxHeartbeats 4000000 in
set_option maxRecDepth 100000 in
theorem walk_UrlpPaths (s : ByteArray) (w : World) (hs : s.size ≤ maxLen) (hT : Tab w) (hT8 : Tab8 w) : Calls Tryd.prog 5 #[.string s] w fun e w' => e = .returned (.bool true) ∧ Below w.heap.size w w' := by
  unfold maxLen at hs
  have HA := Lib.hid (awake_any w hT hT8)
  have HT8 := Lib.hid hT8
  clear hT hT8
  by_cases hb : 3000 < s.size
  · have hb' : (3000 : Int) < (s.size : Int) := by omega
    clear hb
    go_enter Tryd.func5, Tryd.ntmps5
    go_wp2_with fail
    refine HA.out.mono ?_
    rintro e w1 ⟨rfl, hb1⟩
    go_wp2_with fail
    go_ret
    exact ⟨rfl, hb1⟩
  have hb' : s.size ≤ 3000 := by omega
  obtain ⟨l, hl⟩ : ∃ l, s = bA l := ⟨s.data.toList, rfl⟩
  subst hl
  have hll : l.length ≤ 4000 := by rw [bA_size] at hb'; omega
  have hb2 : (l.length : Int) ≤ 3000 := by rw [bA_size] at hb'; omega
  have hl3 : l.length ≤ 3000 := by omega
  clear hb hb' hs
  rcases parse_ways l with ⟨er, hp, her⟩ | ⟨u, hp, hn⟩ | ⟨u, hp, hn⟩
  · have HU := Lib.hid (fun W h => uparse_er hp hll W h)
    have her2 := ne_eq her
    clear hp
    go_enter Tryd.func5, Tryd.ntmps5
    go_wp2_with fail
    refine HA.out.mono ?_
    rintro e w1 ⟨rfl, hb1⟩
    have HT1 := Lib.hid (HT8.out.below hb1)
    go_wp2_with fail
    refine (HU.out _ HT1.out).mono ?_
    rintro e w2 ⟨rfl, hb2⟩
    have b2 := below_on hb1 hb2
    have b3 := b2.alloc (o := .cells (uCells Urp.zeroU) 27) b2.size
    have q2 := UBox.new w2 Urp.zeroU
    clear hb2
    go_wp2_with fail
    refine (netV_any _ _ _ _ _ _ _ _ _ _).mono ?_
    rintro e w3 ⟨rfl, hb3⟩
    have b4 := below_on b3 hb3
    have q3 := q2.keep hb3
    have c5 : w3.cell? ⟨w2.heap.size, 5, none⟩ = some (.string ⟨#[]⟩) := q3.c5
    have c6 : w3.cell? ⟨w2.heap.size, 6, none⟩ = some (.bool false) := q3.c6
    clear hb3 b3 q2 q3
    go_wp2_with fail
    go_ret
    exact ⟨rfl, b4⟩
  · have HU := Lib.hid (fun W h => uparse_ok hp hll W h)
    obtain ⟨o1, o2, o3⟩ := Urp.parse_other hp hn
    have HN := Lib.hid hn
    clear hp hn
    rw [o1, o2, o3] at HU
    go_enter Tryd.func5, Tryd.ntmps5
    go_wp2_with fail
    refine HA.out.mono ?_
    rintro e w1 ⟨rfl, hb1⟩
    have HT1 := Lib.hid (HT8.out.below hb1)
    go_wp2_with fail
    refine (HU.out _ HT1.out).mono ?_
    rintro e w2 ⟨rfl, hb2⟩
    have b2 := below_on hb1 hb2
    have b3 := b2.alloc (o := .cells (uCells ⟨u.scheme, u.host, -1, [], false, u.query, u.rest⟩) 27) b2.size
    have q2 := UBox.new w2 ⟨u.scheme, u.host, -1, [], false, u.query, u.rest⟩
    clear hb2
    go_wp2_with fail
    refine (netV_any _ _ _ _ _ _ _ _ _ _).mono ?_
    rintro e w3 ⟨rfl, hb3⟩
    have b4 := below_on b3 hb3
    have q3 := q2.keep hb3
    have c4 : w3.cell? ⟨w2.heap.size, 4, none⟩ = some (.int .i64 (-1)) := q3.c4
    have c5 : w3.cell? ⟨w2.heap.size, 5, none⟩ = some (.string ⟨#[]⟩) := q3.c5
    have c6 : w3.cell? ⟨w2.heap.size, 6, none⟩ = some (.bool false) := q3.c6
    have en : Urp.netB (bA u.scheme).data.toList = false := HN.out
    rw [en]
    clear hb3 b3 q2 q3 en
    go_wp2_with fail
    go_ret
    exact ⟨rfl, b4⟩
  · have HU := Lib.hid (fun W h => uparse_ok hp hll W h)
    obtain ⟨g, hgl⟩ := Urp.parse_good hp hn
    have hsm := Urp.good_small g (by omega)
    have hpl := hsm.pa
    have hpr : -1 ≤ u.port ∧ u.port ≤ 65535 := by rcases g.port with h | h <;> omega
    obtain ⟨hp0, hp1⟩ := hpr
    obtain ⟨p, hpp⟩ := g.path
    have hqs : Urp.segs u.path = [] :: Urp.walk [] (Urp.segs p) := by rw [hpp]; exact Urp.path_segs p
    have hgd : ∀ x ∈ Urp.segs u.path, (x == [46]) = false ∧ (x == [46, 46]) = false := by
      intro x hx
      rw [hqs] at hx
      rcases List.mem_cons.1 hx with rfl | hx
      · exact ⟨rfl, rfl⟩
      · have := Urp.kept_good p x hx
        exact ⟨beq_eq_false_iff_ne.2 this.1, beq_eq_false_iff_ne.2 this.2.1⟩
    have hq1 : 1 < (Urp.segs u.path).length := by
      have := Urp.walk_segs_ne p
      rw [hqs, List.length_cons]
      rcases Nat.eq_zero_or_pos (Urp.walk [] (Urp.segs p)).length with h | h
      · exact absurd (List.length_eq_zero_iff.1 h) this
      · omega
    have hq0 : (Urp.segs u.path)[0]'(by omega) = [] := by
      have : ∀ (l : List (List UInt8)) (h : 0 < l.length), l = [] :: Urp.walk [] (Urp.segs p) → l[0] = [] := by
        intro l h e; subst e; rfl
      exact this _ _ hqs
    have hql : (Urp.segs u.path).length ≤ 4001 := by have := Oct.split_len (fun x => x == 47) u.path; unfold Urp.segs; omega
    have HSP := Lib.hid (fun W => split_any (bA u.path) 47 W (by rw [bA_size]; omega))
    have esp : Oct.split (fun x => x == 47) (bA u.path).data.toList = Urp.segs u.path := rfl
    rw [esp] at HSP
    obtain ⟨qs, hqse⟩ : ∃ qs, Urp.segs u.path = qs := ⟨_, rfl⟩
    have H0 : Hid (∀ h : 0 < qs.length, qs[0] = []) := Lib.hid (by intro h; subst hqse; exact hq0)
    rw [hqse] at hgd hq1 hql HSP
    have HGD := Lib.hid hgd
    have HN := Lib.hid hn
    clear hp hn g hgl hsm hpp hqs hgd hq0 esp hqse hpl
    go_enter Tryd.func5, Tryd.ntmps5
    go_wp2_with fail
    refine HA.out.mono ?_
    rintro e w1 ⟨rfl, hb1⟩
    have HT1 := Lib.hid (HT8.out.below hb1)
    go_wp2_with fail
    refine (HU.out _ HT1.out).mono ?_
    rintro e w2 ⟨rfl, hb2⟩
    have b2 := below_on hb1 hb2
    have b3 := b2.alloc (o := .cells (uCells u) 27) b2.size
    have q2 := UBox.new w2 u
    clear hb2
    go_wp2_with fail
    refine (netV_any _ _ _ _ _ _ _ _ _ _).mono ?_
    rintro e w3 ⟨rfl, hb3⟩
    have b4 := below_on b3 hb3
    have q3 := q2.keep hb3
    have c5 := q3.c5
    have en : Urp.netB (bA u.scheme).data.toList = true := HN.out
    rw [en]
    clear hb3 b3 q2 en
    go_wp2_with fail
    refine (HSP.out _).mono ?_
    rintro e w4 ⟨v1, rfl, hb4, hown1⟩
    have b5 := below_on b4 hb4
    have q4 := q3.keep hb4
    have c4 := q4.c4
    rcases owns_view2 hown1 with ⟨rfl, h0⟩ | ⟨g, cap, rfl, hcap, hg, _, hcells⟩
    · exfalso; rw [h0] at hq1; simp at hq1
    have HCE := Lib.hid hcells
    clear hown1 hcells hb4 b4 q3 q4 c5
    go_wp2_with fail
    go_loop [8] (fun i => ∃ k : Nat, k ≤ qs.length ∧ i = .int .i64 k) (fun i => qs.length - (intOf i).toNat)
    case atStart => exact ⟨0, Nat.zero_le _, rfl⟩
    case round =>
      obtain ⟨k, hk, rfl⟩ := hrel
      by_cases hlt : k < qs.length
      · have hce := HCE.out k hlt
        unfold Oct.strV at hce
        have hgd := HGD.out _ (List.getElem_mem hlt)
        obtain ⟨x, hx⟩ : ∃ x, qs[k] = x := ⟨_, rfl⟩
        rw [hx] at hce hgd
        obtain ⟨g1, g2⟩ := hgd
        clear hx
        go_wp2_with fail
        go_round
        case rel => exact ⟨k + 1, by omega, by go_num⟩
        case measure => simp [intOf]; omega
      · have hce := HCE.out 0 (by omega)
        rw [H0.out (by omega)] at hce
        unfold Oct.strV at hce
        have hq1' : (1 : Int) < (qs.length : Int) := by omega
        go_wp2_with fail
        go_ret
        exact ⟨rfl, b5⟩
end Go.Proofs.YtbeckddgelcbhaaDoor
