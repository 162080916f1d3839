/- Laws of blobs' origins. No function of the program is walked here. -/
import Derived.Test.YtehjnidggnfbfaaDoorOrigSite
import Derived.Test.YtehjnidggnfbfaaDoorUrlpErr
namespace Go.Proofs.YtehjnidggnfbfaaDoor
namespace Urp
open Oct

/-- All from a sharp on changes nothing, if all is short enough. -/
theorem parse_hash2 (l m : List UInt8) (hl : ∀ b ∈ l, outerB b = false ∧ b ≠ 35) (hc : hasB 58 l = true) (h1 : (l ++ 35 :: m).length ≤ 2000) : parse (l ++ 35 :: m) = parse l := by
  have e1 : trimU (l ++ 35 :: m) = l ++ 35 :: endU m := by
    have := trimU_mid (x := l ++ [35]) m (by simp) (by
      intro b hb
      rcases List.mem_append.1 hb with hb | hb
      · exact (hl b hb).1
      · have : b = 35 := by simpa using hb
        rw [this]; decide)
    simpa using this
  have e2 : trimU l = l := trimU_vis (fun b hb => (hl b hb).1)
  obtain ⟨c1, c2⟩ := bef_app_has hc (35 :: endU m)
  have c3 : hasB 58 (l ++ 35 :: endU m) = true := by rw [has_app, hc]; rfl
  simp only [List.length_append, List.length_cons] at h1
  have c4 : decide (2000 < (l ++ 35 :: endU m).length) = false := by
    have := endU_len m
    exact decide_eq_false (by simp; omega)
  have c5 : decide (2000 < l.length) = false := decide_eq_false (by omega)
  have hna : No 35 (aft 58 l) := fun b hb => (hl b (aft_sub 58 l b hb)).2
  have c6 : bef 35 (aft 58 l ++ 35 :: endU m) = bef 35 (aft 58 l) := by rw [bef_app hna, bef_hit, List.append_nil, bef_no hna]
  unfold parse
  rw [e1, e2]
  unfold cutS
  rw [c1, c2, c3, c4, c5, hc]
  cases schemeB (lower (bef 58 l)) with
  | false => rfl
  | true =>
    cases knownB (lower (bef 58 l)) with
    | false => rfl
    | true =>
      simp only [Bool.not_true, Bool.or_false, Bool.false_eq_true, if_false, if_true]
      rw [c6]
theorem endU_split (l : List UInt8) : ∃ z, l = endU l ++ z ∧ ∀ b ∈ z, outerB b = true := by
  refine ⟨(l.reverse.takeWhile outerB).reverse, ?_, ?_⟩
  · unfold endU
    rw [← List.reverse_append, List.takeWhile_append_dropWhile, List.reverse_reverse]
  · intro b hb
    have h := List.all_takeWhile (p := outerB) (l := l.reverse)
    rw [List.all_eq_true] at h
    exact h b (List.mem_reverse.1 hb)
theorem parse_end (l : List UInt8) : parse (endU l) = parse l := by
  obtain ⟨z, hz, ho⟩ := endU_split l
  refine parse_trim ?_
  have := trimU_right (l := endU l) ho
  rw [← hz] at this
  exact this.symm
/-- What is read has a colon ahead of a sharp. -/
theorem colon_first {t m : List UInt8} {u : URL} (ht : ∀ b ∈ t, outerB b = false) (h : parse (t ++ 35 :: m) = .ok u) : hasB 58 t = true := by
  cases hc : hasB 58 t with
  | true => rfl
  | false =>
    obtain ⟨s, a, hcut, _⟩ := parse_ok h
    have e1 : trimU (t ++ 35 :: m) = t ++ 35 :: endU m := by
      have := trimU_mid (x := t ++ [35]) m (by simp) (by
        intro b hb
        rcases List.mem_append.1 hb with hb | hb
        · exact ht b hb
        · have : b = 35 := by simpa using hb
          rw [this]; decide)
      simpa using this
    rw [e1] at hcut
    obtain ⟨_, _, hsc, _, hs, _⟩ := cutS_ok hcut
    rw [bef_app (has_no hc)] at hs
    have e2 : bef 58 (35 :: endU m) = 35 :: bef 58 (endU m) := by simp [bef]
    rw [e2] at hs
    have hmem : (35 : UInt8) ∈ s := by
      rw [hs]
      unfold lower
      exact List.mem_map.2 ⟨35, by simp, by decide⟩
    unfold schemeB allB at hsc
    simp only [Bool.and_eq_true, List.all_eq_true] at hsc
    exact absurd (hsc.1 _ hmem) (by decide)
/-- A blob of a text that is read as a URL of the net holds that URL. -/
theorem blob_in {l : List UInt8} {u b : URL} (hu : parse l = .ok u) (hn : netB u.scheme = true) (hb : parse (sBlob ++ 58 :: l) = .ok b) (hl : l.length ≤ 1000) : innerU b = some u ∧ b.rest.length ≤ 4000 := by
  have e1 : trimU (sBlob ++ 58 :: l) = sBlob ++ 58 :: endU l := by
    have := trimU_mid (x := sBlob ++ [58]) l (by decide) (by decide)
    simpa using this
  have hel := endU_len l
  obtain ⟨s, a, hc, hv, hs, hw⟩ := parse_ok hb
  rw [e1] at hc
  have hc2 := cutS_of (s := sBlob) (a := endU l) (by simp) (by simp [sBlob]; omega)
  rw [hc2] at hc
  cases hc
  rcases hw with ⟨h, _⟩ | ⟨_, rfl⟩
  · exact absurd h (by decide)
  have hbl := bef_len 35 (endU l)
  have hno := no_bef 35 (endU l)
  have hpl := vis_plain hv hno
  have hp : parse (bef 35 (endU l)) = .ok u := by
    cases h35 : hasB 35 (endU l) with
    | false => rw [bef_no (has_no h35), parse_end]; exact hu
    | true =>
      have hj := cut_join h35
      have hu2 : parse (bef 35 (endU l) ++ 35 :: aft 35 (endU l)) = .ok u := by rw [← hj, parse_end]; exact hu
      have hcol := colon_first (fun b hb => plain_out (hpl b hb)) hu2
      rw [parse_hash2 _ _ (fun b hb => ⟨plain_out (hpl b hb), hno b hb⟩) hcol (by rw [← hj]; omega)] at hu2
      exact hu2
  constructor
  · unfold innerU
    rw [if_pos rfl]
    show netU (bef 35 (endU l)) = some u
    rw [netU_parse, hp]
    simp [hn]
  · show (bef 35 (endU l)).length ≤ 4000
    omega
theorem host_short {n : List UInt8} {h : Hst.Host} (hp : Hst.parse n = some h) : h.name.length ≤ 1000 := by
  have hr : Hst.read (lower n) = some h := hp
  have hd := (dom_len (read_dom hr)).1
  cases hv : h.v4 with
  | false => rw [read_name_eq hr hv]; show (lower n).length ≤ 1000; omega
  | true =>
    have : h.name = [] := by
      unfold Hst.read at hr
      split at hr
      · split at hr
        · split at hr
          · simp only [Option.some.injEq] at hr; rw [← hr]
          · cases hr
        · simp only [Option.some.injEq] at hr; rw [← hr] at hv; cases hv
      · cases hr
    rw [this]; simp
end Urp
theorem smallH_good {u : Urp.URL} (g : Urp.Good u) (id : Int) : SmallH (ofO u id) := by
  have h := Urp.host_small g.host
  rw [ofO_net g.net]
  exact ⟨h.1, h.2.1, Urp.host_short g.host⟩
/-- .. so their origins are one. -/
theorem ofO_blob {l : List UInt8} {u b : Urp.URL} (hu : Urp.parse l = .ok u) (hn : Urp.netB u.scheme = true) (hb : Urp.parse (Urp.sBlob ++ 58 :: l) = .ok b) (hl : l.length ≤ 1000) (id : Int) : ofO b id = ofO u id ∧ b.rest.length ≤ 4000 := by
  obtain ⟨h1, h2⟩ := Urp.blob_in hu hn hb hl
  refine ⟨?_, h2⟩
  unfold ofO
  rw [h1, inner_of_net hn]
  rfl
end Go.Proofs.YtehjnidggnfbfaaDoor
