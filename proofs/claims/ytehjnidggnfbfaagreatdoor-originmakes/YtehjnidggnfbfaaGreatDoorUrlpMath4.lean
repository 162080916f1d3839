/- Laws of URLs that are read: their parts are good, their text is not much longer. No function of the program is walked here. -/
import Derived.Test.YtehjnidggnfbfaaGreatDoorUrlpMath3
namespace Go.Proofs.YtehjnidggnfbfaaGreatDoor
namespace Urp
open Oct

theorem vis_plain {l : List UInt8} (h : visB l = true) (hn : No 35 l) : ∀ b ∈ l, plainC b := by
  unfold visB allB at h
  rw [List.all_eq_true] at h
  exact fun b hb => ⟨h b hb, hn b hb⟩
theorem web_good {s rest : List UInt8} {u : URL} (h : web s rest = .ok u) (hn : netB s = true) (hv : ∀ b ∈ rest, plainC b) : Good u ∧ (afterC u).length ≤ rest.length + 1 := by
  unfold web at h
  split at h
  · rename_i hbeg
    split at h
    · cases h
    · split at h
      · cases h
      · rename_i hh hhost
        split at h
        · cases h
        · rename_i pn hport
          obtain ⟨r, hr⟩ : ∃ r, rest.drop 2 = r := ⟨_, rfl⟩
          have hrest : rest.length = r.length + 2 := by
            have := (List.isPrefixOf_iff_prefix.1 hbeg).length_le
            rw [← hr, List.length_drop]; simp at this; omega
          have hrv : ∀ b ∈ r, plainC b := fun b hb => hv b (by rw [← hr] at hb; exact List.mem_of_mem_drop hb)
          rw [hr] at h hhost hport
          obtain ⟨q, hq⟩ : ∃ q, bef 63 r = q := ⟨_, rfl⟩
          have hqv : ∀ b ∈ q, plainC b ∧ b ≠ 63 := fun b hb => by
            rw [← hq] at hb
            exact ⟨hrv b (bef_sub 63 r b hb), no_bef 63 r b hb⟩
          rw [hq] at h hhost hport
          obtain ⟨au, hau⟩ : ∃ au, bef 47 q = au := ⟨_, rfl⟩
          rw [hau] at hhost hport
          have hrd : Hst.read (lower (bef 58 au)) = some hh := hhost
          have ht : textL hh = lower (bef 58 au) := text_read hrd
          cases h
          have hpb := port_bd hport
          have hpath : ∀ b ∈ pathOf (aft 47 q), plainC b ∧ b ≠ 63 := by
            intro b hb
            rcases path_sub (aft 47 q) b hb with h1 | h1
            · rw [h1]; unfold plainC; decide
            · exact hqv b (aft_sub 47 q b h1)
          refine ⟨⟨hn, ?_, ?_, ?_, ⟨_, rfl⟩, hpath, ?_, ?_, rfl⟩, ?_⟩
          · show Hst.parse (textL hh) = some hh
            rw [ht, parse_lower]; exact hhost
          · intro b hb
            have hb' : b ∈ lower (bef 58 au) := by rw [← ht]; exact hb
            exact read_chars hrd b hb'
          · rcases hpb with h1 | ⟨h1, h2, h3, _⟩
            · exact .inl h1
            · exact .inr ⟨h1, h2, h3⟩
          · exact fun b hb => hrv b (aft_sub 63 r b hb)
          · intro hx
            exact aft_no (has_no hx)
          · -- how long it is
            have l1 : (textL hh).length + (portT pn).length ≤ au.length := by
              rw [ht, lower_length]
              rcases hpb with h1 | ⟨h1, _, _, h4⟩
              · have : portT pn = [] := by rw [h1]; rfl
                rw [this]
                have := bef_len 58 au
                simpa using this
              · have hpt : portT pn = 58 :: aft 58 au := by unfold portT; rw [if_pos h1, h4]
                have hc : hasB 58 au = true := by
                  cases hc : hasB 58 au with
                  | true => rfl
                  | false =>
                    rw [aft_no (has_no hc)] at h4
                    have hd := (dec_good pn.toNat).2.2.2.1
                    have e : Lib.itoa pn = Lib.decDigits pn.toNat := by unfold Lib.itoa; rw [if_neg (by omega)]
                    rw [← e, ← h4] at hd; simp at hd
                have e := congrArg List.length (cut_join hc)
                rw [List.length_append, List.length_cons] at e
                rw [hpt, List.length_cons]; omega
            have l2 : au.length + (pathOf (aft 47 q)).length ≤ q.length + 1 := by
              have hj := join_path_len (aft 47 q)
              have hp : (pathOf (aft 47 q)).length = (join 47 (walk [] (segs (aft 47 q)))).length + 1 := by unfold pathOf; simp
              cases hc : hasB 47 q with
              | true =>
                have e := congrArg List.length (cut_join hc)
                rw [List.length_append, List.length_cons, hau] at e
                omega
              | false =>
                have e1 : aft 47 q = [] := aft_no (has_no hc)
                have e2 : au = q := by rw [← hau]; exact bef_no (has_no hc)
                rw [e1] at hj hp ⊢
                rw [e2]
                simp at hj
                rw [hp, hj]; simp
            have l3 : q.length + (queryT ⟨s, hh, pn, pathOf (aft 47 q), hasB 63 r, aft 63 r, []⟩).length ≤ r.length := by
              unfold queryT
              cases hc : hasB 63 r with
              | true =>
                have e := congrArg List.length (cut_join hc)
                rw [List.length_append, List.length_cons, hq] at e
                simp; omega
              | false =>
                have := bef_len 63 r
                rw [hq] at this
                simp; exact this
            unfold afterC
            simp only [List.length_append, List.length_cons, List.length_nil]
            omega
  · cases h
theorem parse_ok {l : List UInt8} {u : URL} (h : parse l = .ok u) : ∃ s a, cutS (trimU l) = .ok (s, a) ∧ visB (bef 35 a) = true ∧ u.scheme = s ∧ (netB s = true ∧ web s (bef 35 a) = .ok u ∨ netB s = false ∧ u = ⟨s, Hst.none_, -1, [], false, [], bef 35 a⟩) := by
  unfold parse at h
  cases hc : cutS (trimU l) with
  | error e => rw [hc] at h; cases h
  | ok x =>
    obtain ⟨s, a⟩ := x
    rw [hc] at h
    simp only at h
    cases hv : visB (bef 35 a) with
    | false => rw [hv] at h; cases h
    | true =>
      rw [hv, if_pos rfl] at h
      cases hn : netB s with
      | true =>
        rw [hn, if_pos rfl] at h
        exact ⟨s, a, rfl, hv, web_scheme h, .inl ⟨hn, h⟩⟩
      | false =>
        rw [hn, if_neg (by simp)] at h
        split at h
        · cases h
          exact ⟨s, a, rfl, hv, rfl, .inr ⟨hn, rfl⟩⟩
        · cases h
theorem parse_good {l : List UInt8} {u : URL} (h : parse l = .ok u) (hn : netB u.scheme = true) : Good u ∧ (utextL u).length ≤ l.length + 1 := by
  obtain ⟨s, a, hc, hv, hs, ⟨hns, hw⟩ | ⟨hns, _⟩⟩ := parse_ok h
  · obtain ⟨g, hlen⟩ := web_good hw hns (vis_plain hv (no_bef 35 a))
    refine ⟨g, ?_⟩
    obtain ⟨_, hcol, _, _, h5, h6⟩ := cutS_ok hc
    have e := congrArg List.length (cut_join hcol)
    rw [List.length_append, List.length_cons] at e
    have e1 : s.length = (bef 58 (trimU l)).length := by rw [h5, lower_length]
    have e2 := bef_len 35 a
    have e3 := trimU_len l
    rw [utext_net g.net, List.length_append, List.length_cons, hs]
    rw [← h6] at e
    omega
  · rw [hs, hns] at hn; cases hn
theorem parse_other {l : List UInt8} {u : URL} (h : parse l = .ok u) (hn : netB u.scheme = false) : u.path = [] ∧ u.hasq = false ∧ u.port = -1 := by
  obtain ⟨s, a, _, _, hs, ⟨hns, _⟩ | ⟨_, rfl⟩⟩ := parse_ok h
  · rw [hs, hns] at hn; cases hn
  · exact ⟨rfl, rfl, rfl⟩
theorem small_good {u : URL} (g : Good u) (hl : (utextL u).length ≤ 3900) (ha : 0 ≤ u.host.addr ∧ u.host.addr ≤ 4294967295) (hn : u.host.name.length ≤ 4000) : SmallU u := by
  have e := congrArg List.length (utext_net g.net)
  rw [List.length_append, List.length_cons] at e
  unfold afterC at e
  simp only [List.length_append, List.length_cons, List.length_nil] at e
  have hq : u.query.length ≤ 4000 := by
    cases hx : u.hasq with
    | true =>
      have : (queryT u).length = u.query.length + 1 := by unfold queryT; rw [hx, if_pos rfl]; simp
      omega
    | false => rw [g.noq hx]; simp
  have hp : -1 ≤ u.port ∧ u.port ≤ 65535 := by rcases g.port with h | h <;> omega
  exact ⟨by omega, hn, ha.1, ha.2, by omega, by omega, by omega, hq, by rw [g.rest]; simp⟩
theorem host_small {n : List UInt8} {h : Hst.Host} (hp : Hst.parse n = some h) : 0 ≤ h.addr ∧ h.addr ≤ 4294967295 ∧ h.name.length ≤ 4000 := by
  have hr : Hst.read (lower n) = some h := hp
  have h1 := read_range hr
  refine ⟨h1.1, h1.2, ?_⟩
  have hd := (dom_len (read_dom hr)).1
  cases hv : h.v4 with
  | false => rw [read_name_eq hr hv]; show (lower n).length ≤ 4000; omega
  | true =>
    have : h.name = [] := by
      unfold Hst.read at hr
      split at hr
      · split at hr
        · split at hr
          · simp only [Option.some.injEq] at hr; rw [← hr]
          · cases hr
        · simp only [Option.some.injEq] at hr; rw [← hr] at hv; cases hv
      · cases hr
    rw [this]; simp
theorem good_small {u : URL} (g : Good u) (hl : (utextL u).length ≤ 3900) : SmallU u := by
  have h := host_small g.host
  exact small_good g hl ⟨h.1, h.2.1⟩ h.2.2
end Urp
end Go.Proofs.YtehjnidggnfbfaaGreatDoor
