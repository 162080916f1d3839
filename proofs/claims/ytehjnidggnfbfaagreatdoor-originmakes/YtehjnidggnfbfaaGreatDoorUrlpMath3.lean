/- Laws of URLs that are read: what they are made of, and that they are read from their text as themselves. No function of the program is walked here. -/
import Derived.Test.YtehjnidggnfbfaaGreatDoorUrlpMath2
import Derived.Test.YtehjnidggnfbfaaGreatDoorUrlpText
namespace Go.Proofs.YtehjnidggnfbfaaGreatDoor
namespace Urp
open Oct

def hostC (b : UInt8) : Prop := Hst.labI b.toNat = true ∨ b = 46
def plainC (b : UInt8) : Prop := visI b.toNat = true ∧ b ≠ 35
theorem plain_out {b : UInt8} (h : plainC b) : outerB b = false := by
  have := h.1
  unfold visI at this
  unfold outerB
  rw [Bool.and_eq_true, decide_eq_true_eq, decide_eq_true_eq] at this
  exact decide_eq_false (by omega)
theorem host_plain {b : UInt8} (h : hostC b) : plainC b ∧ b ≠ 63 ∧ b ≠ 47 ∧ b ≠ 64 ∧ b ≠ 58 := by
  have key : ∀ n : Fin 256, (Hst.labI (UInt8.ofNat n).toNat = true ∨ UInt8.ofNat n = 46) → ((visI (UInt8.ofNat n).toNat = true ∧ UInt8.ofNat n ≠ 35) ∧ UInt8.ofNat n ≠ 63 ∧ UInt8.ofNat n ≠ 47 ∧ UInt8.ofNat n ≠ 64 ∧ UInt8.ofNat n ≠ 58) := by decide +kernel
  have := key ⟨b.toNat, b.toNat_lt⟩
  simp only [UInt8.ofNat_toNat] at this
  exact this h
theorem digit_host {b : UInt8} (h : digitI b.toNat = true) : hostC b := by
  left; unfold Hst.labI; rw [h]; simp

/-- A URL of the net whose parts are those of one that is read. -/
structure Good (u : URL) : Prop where
  net : netB u.scheme = true
  host : Hst.parse (textL u.host) = some u.host
  hch : ∀ b ∈ textL u.host, hostC b
  port : u.port = -1 ∨ (0 ≤ u.port ∧ u.port ≤ 65535 ∧ u.port ≠ own u.scheme)
  path : ∃ p, u.path = pathOf p
  pch : ∀ b ∈ u.path, plainC b ∧ b ≠ 63
  qch : ∀ b ∈ u.query, plainC b
  noq : u.hasq = false → u.query = []
  rest : u.rest = []

theorem read_chars {n : List UInt8} {h : Hst.Host} (hr : Hst.read n = some h) : ∀ b ∈ n, hostC b := by
  have hd := dom_len (read_dom hr)
  intro b hb
  have e : join 46 (Hst.parts n) = n := Hst.join_parts n
  rw [← e] at hb
  rcases join_mem 46 _ b hb with h1 | ⟨k, hk, h1⟩
  · exact .inr h1
  · left
    have hl := hd.2 k hk
    unfold Hst.labelB at hl
    rw [Bool.and_eq_true, Bool.and_eq_true] at hl
    have := hl.1.1
    unfold allB at this
    rw [List.all_eq_true] at this
    exact this b h1
theorem dec_good (u : Nat) : allB digitI (Lib.decDigits u) = true ∧ val (Lib.decDigits u) = (u : Int) ∧ (0 < u → (Lib.decDigits u).headD 0 ≠ 48) ∧ 0 < (Lib.decDigits u).length ∧ (u < 10 → (Lib.decDigits u).length = 1) := by
  induction u using Nat.strongRecOn with
  | ind u ih =>
    by_cases h : u < 10
    · have e : Lib.decDigits u = [UInt8.ofNat (48 + u)] := by rw [Lib.decDigits, dif_pos h]
      rw [e]
      have key : ∀ n : Fin 10, allB digitI [UInt8.ofNat (48 + n.val)] = true ∧ val [UInt8.ofNat (48 + n.val)] = (n.val : Int) ∧ (0 < n.val → ([UInt8.ofNat (48 + n.val)] : List UInt8).headD 0 ≠ 48) := by decide +kernel
      have k := key ⟨u, h⟩
      exact ⟨k.1, k.2.1, k.2.2, by simp, fun _ => by simp⟩
    · have e : Lib.decDigits u = Lib.decDigits (u / 10) ++ [UInt8.ofNat (48 + u % 10)] := by rw [Lib.decDigits, dif_neg h]
      obtain ⟨h1, h2, h3, h4, _⟩ := ih (u / 10) (by omega)
      have key : ∀ n : Fin 10, digitI (UInt8.ofNat (48 + n.val)).toNat = true ∧ ((UInt8.ofNat (48 + n.val)).toNat : Int) - 48 = (n.val : Int) := by decide +kernel
      have k := key ⟨u % 10, by omega⟩
      rw [e]
      refine ⟨?_, ?_, fun _ => ?_, by simp, fun hx => absurd hx h⟩
      · unfold allB at h1 ⊢
        rw [List.all_append, h1]
        simpa using k.1
      · rw [val_snoc, h2, k.2]
        show 10 * ((u / 10 : Nat) : Int) + ((u % 10 : Nat) : Int) = (u : Int)
        omega
      · have := h3 (by omega)
        cases hd : Lib.decDigits (u / 10) with
        | nil => rw [hd] at h4; simp at h4
        | cons a r => rw [hd] at this; simpa using this
theorem itoa_digits (x : Int) (h0 : 0 ≤ x) (h1 : x ≤ 65535) : numOk (Lib.itoa x) 65535 = true ∧ val (Lib.itoa x) = x ∧ allB digitI (Lib.itoa x) = true ∧ Lib.itoa x ≠ [] := by
  have e : Lib.itoa x = Lib.decDigits x.toNat := by unfold Lib.itoa; rw [if_neg (by omega)]
  obtain ⟨d1, d2, d3, d4, d5⟩ := dec_good x.toNat
  rw [e]
  have hv : val (Lib.decDigits x.toNat) = x := by rw [d2]; omega
  have hne : Lib.decDigits x.toNat ≠ [] := by intro h; rw [h] at d4; simp at d4
  refine ⟨?_, hv, d1, hne⟩
  unfold numOk
  rw [d1, hv, decide_eq_true h1]
  have h3 : (!(decide (1 < (Lib.decDigits x.toNat).length) && (Lib.decDigits x.toNat).headD 0 == 48)) = true := by
    by_cases hp : 0 < x.toNat
    · have := d3 hp
      have hb : ((Lib.decDigits x.toNat).headD 0 == 48) = false := beq_eq_false_iff_ne.2 this
      rw [hb]; simp
    · have := d5 (by omega)
      rw [this]; rfl
  rw [h3]
  cases hd : Lib.decDigits x.toNat with
  | nil => exact absurd hd hne
  | cons a r => rfl
theorem portOf_own (s : List UInt8) (x : Int) (h : x = -1 ∨ (0 ≤ x ∧ x ≤ 65535 ∧ x ≠ own s)) : portOf s (aft 58 (portT x)) = some x ∧ (∀ b ∈ aft 58 (portT x), hostC b) ∧ (portT x = [] ∧ aft 58 (portT x) = [] ∨ portT x = 58 :: aft 58 (portT x)) := by
  rcases h with rfl | ⟨h0, h1, h2⟩
  · exact ⟨rfl, (by intro b hb; cases hb), .inl ⟨rfl, rfl⟩⟩
  · have e : portT x = 58 :: Lib.itoa x := by unfold portT; rw [if_pos h0]
    obtain ⟨d1, d2, d3, d4⟩ := itoa_digits x h0 h1
    rw [e, aft_hit]
    refine ⟨?_, ?_, .inr rfl⟩
    · unfold portOf
      have : (Lib.itoa x).isEmpty = false := by cases hd : Lib.itoa x with
        | nil => exact absurd hd d4
        | cons a r => rfl
      rw [this, d1, d2]
      simp [h2]
    · intro b hb
      unfold allB at d3
      rw [List.all_eq_true] at d3
      exact digit_host (d3 b hb)

/-- What a URL of the net is read from, behind its scheme and the colon. -/
def afterC (u : URL) : List UInt8 := [47, 47] ++ (textL u.host ++ portT u.port ++ u.path ++ queryT u)
theorem utext_net {u : URL} (h : netB u.scheme = true) : utextL u = u.scheme ++ 58 :: afterC u := by
  unfold utextL afterC
  rw [h]
  simp
theorem web_text {u : URL} (g : Good u) : web u.scheme (afterC u) = .ok u := by
  obtain ⟨hp1, hp2, hp3⟩ := portOf_own u.scheme u.port g.port
  obtain ⟨p, hp⟩ := g.path
  -- the bytes that are not there
  have hh : ∀ c : UInt8, (c = 63 ∨ c = 47 ∨ c = 64 ∨ c = 58) → No c (textL u.host) := fun c hc b hb => by
    have := host_plain (g.hch b hb)
    rcases hc with rfl | rfl | rfl | rfl
    · exact this.2.1
    · exact this.2.2.1
    · exact this.2.2.2.1
    · exact this.2.2.2.2
  have hpt : ∀ c : UInt8, (c = 63 ∨ c = 47 ∨ c = 64) → No c (portT u.port) := fun c hc b hb => by
    rcases hp3 with ⟨h, _⟩ | h
    · rw [h] at hb; cases hb
    · rw [h] at hb
      rcases List.mem_cons.1 hb with rfl | hb
      · rcases hc with rfl | rfl | rfl <;> decide
      · have := host_plain (hp2 b hb)
        rcases hc with rfl | rfl | rfl
        · exact this.2.1
        · exact this.2.2.1
        · exact this.2.2.2.1
  have hpa : No 63 u.path := fun b hb => (g.pch b hb).2
  have e1 : begB [47, 47] (afterC u) = true := rfl
  have e2 : (afterC u).drop 2 = textL u.host ++ portT u.port ++ u.path ++ queryT u := rfl
  have hq : No 63 (textL u.host ++ portT u.port ++ u.path) := no_app (no_app (hh 63 (by simp)) (hpt 63 (by simp))) hpa
  have e3 : bef 63 (textL u.host ++ portT u.port ++ u.path ++ queryT u) = textL u.host ++ portT u.port ++ u.path := by
    rw [bef_app hq]
    unfold queryT
    cases u.hasq with
    | true => rw [if_pos rfl, bef_hit, List.append_nil]
    | false => simp [bef]
  have e4 : aft 63 (textL u.host ++ portT u.port ++ u.path ++ queryT u) = u.query := by
    rw [aft_app hq]
    unfold queryT
    cases hx : u.hasq with
    | true => rw [if_pos rfl, aft_hit]
    | false => rw [g.noq hx]; rfl
  have e5 : hasB 63 (textL u.host ++ portT u.port ++ u.path ++ queryT u) = u.hasq := by
    rw [has_app, no_has hq]
    unfold queryT
    cases u.hasq with
    | true => rw [if_pos rfl, has_hit]; rfl
    | false => rfl
  have hs47 : No 47 (textL u.host ++ portT u.port) := no_app (hh 47 (by simp)) (hpt 47 (by simp))
  have hpd : u.path = 47 :: u.path.drop 1 := by rw [hp]; rfl
  have e6 : bef 47 (textL u.host ++ portT u.port ++ u.path) = textL u.host ++ portT u.port := by rw [bef_app hs47, hpd, bef_hit, List.append_nil]
  have e7 : aft 47 (textL u.host ++ portT u.port ++ u.path) = u.path.drop 1 := by
    rw [aft_app hs47]
    conv => lhs; rw [hpd]
    rw [aft_hit]
  have e8 : hasB 64 (textL u.host ++ portT u.port) = false := no_has (no_app (hh 64 (by simp)) (hpt 64 (by simp)))
  have h58 := hh 58 (by simp)
  have e9 : bef 58 (textL u.host ++ portT u.port) = textL u.host := by
    rw [bef_app h58]
    rcases hp3 with ⟨h, _⟩ | h
    · rw [h]; simp [bef]
    · rw [h, bef_hit, List.append_nil]
  have e10 : aft 58 (textL u.host ++ portT u.port) = aft 58 (portT u.port) := aft_app h58 _
  have e11 : pathOf (u.path.drop 1) = u.path := by rw [hp]; exact path_again p
  unfold web
  rw [e1, if_pos rfl, e2, e3, e4, e5, e6, e7, e8, if_neg (by simp), e9, e10, g.host]
  simp only
  rw [hp1]
  simp only
  rw [e11]
  have hr := g.rest
  cases u
  simp only at hr
  rw [hr]
theorem after_plain {u : URL} (g : Good u) : ∀ b ∈ afterC u, plainC b := by
  obtain ⟨_, hp2, hp3⟩ := portOf_own u.scheme u.port g.port
  intro b hb
  unfold afterC at hb
  have k47 : plainC 47 := by unfold plainC; decide
  have k58 : plainC 58 := by unfold plainC; decide
  have k63 : plainC 63 := by unfold plainC; decide
  rcases List.mem_append.1 hb with hb | hb
  · have : b = 47 := by simpa using hb
    rw [this]; exact k47
  · rcases List.mem_append.1 hb with hb | hb
    · rcases List.mem_append.1 hb with hb | hb
      · rcases List.mem_append.1 hb with hb | hb
        · exact (host_plain (g.hch b hb)).1
        · rcases hp3 with ⟨h, _⟩ | h
          · rw [h] at hb; cases hb
          · rw [h] at hb
            rcases List.mem_cons.1 hb with rfl | hb
            · exact k58
            · exact (host_plain (hp2 b hb)).1
      · exact (g.pch b hb).1
    · unfold queryT at hb
      split at hb
      · rcases List.mem_cons.1 hb with rfl | hb
        · exact k63
        · exact g.qch b hb
      · cases hb
theorem vis_all {l : List UInt8} (h : ∀ b ∈ l, plainC b) : visB l = true := by
  unfold visB allB; rw [List.all_eq_true]; exact fun b hb => (h b hb).1
theorem no35 {l : List UInt8} (h : ∀ b ∈ l, plainC b) : No 35 l := fun b hb => (h b hb).2
theorem net_cases {s : List UInt8} (h : netB s = true) : s = sHttp ∨ s = sHttps := by
  unfold netB at h
  rw [Bool.or_eq_true, beq_iff_eq, beq_iff_eq] at h
  exact h
theorem cutS_of {s a : List UInt8} (hs : s = sHttp ∨ s = sHttps ∨ s = sAbout ∨ s = sData ∨ s = sBlob) (hl : (s ++ 58 :: a).length ≤ 2000) : cutS (s ++ 58 :: a) = .ok (s, a) := by
  have hno : No 58 s := by rcases hs with rfl | rfl | rfl | rfl | rfl <;> (unfold No; decide)
  have h1 : bef 58 (s ++ 58 :: a) = s := by rw [bef_app hno, bef_hit, List.append_nil]
  have h2 : aft 58 (s ++ 58 :: a) = a := by rw [aft_app hno, aft_hit]
  have h3 : hasB 58 (s ++ 58 :: a) = true := by rw [has_app, has_hit]; simp
  have h4 : lower s = s := by rcases hs with rfl | rfl | rfl | rfl | rfl <;> decide
  have h5 : schemeB s = true := by rcases hs with rfl | rfl | rfl | rfl | rfl <;> decide
  have h6 : knownB s = true := by rcases hs with rfl | rfl | rfl | rfl | rfl <;> decide
  unfold cutS
  rw [h1, h2, h3, h4, h5, h6, decide_eq_false (by omega)]
  rfl
theorem scheme_plain {s : List UInt8} (hs : s = sHttp ∨ s = sHttps ∨ s = sAbout ∨ s = sData ∨ s = sBlob) : ∀ b ∈ s, plainC b := by
  rcases hs with rfl | rfl | rfl | rfl | rfl <;> (unfold plainC; decide)
/-- A URL of the net is read from its text as itself. -/
theorem net_text {u : URL} (g : Good u) (hl : (utextL u).length ≤ 2000) : netU (utextL u) = some u ∧ ∀ b ∈ utextL u, plainC b := by
  have e := utext_net g.net
  have hs : u.scheme = sHttp ∨ u.scheme = sHttps ∨ u.scheme = sAbout ∨ u.scheme = sData ∨ u.scheme = sBlob := by
    rcases net_cases g.net with h | h
    · exact .inl h
    · exact .inr (.inl h)
  have hpl : ∀ b ∈ utextL u, plainC b := by
    intro b hb
    rw [e] at hb
    rcases List.mem_append.1 hb with hb | hb
    · exact scheme_plain hs b hb
    · rcases List.mem_cons.1 hb with rfl | hb
      · unfold plainC; decide
      · exact after_plain g b hb
  refine ⟨?_, hpl⟩
  have ha := after_plain g
  unfold netU
  rw [trimU_vis (fun b hb => plain_out (hpl b hb))]
  rw [e] at hl ⊢
  rw [cutS_of hs hl]
  simp only
  rw [bef_no (no35 ha), vis_all ha, g.net, web_text g]
  rfl
theorem parse_text {u : URL} (g : Good u) (hl : (utextL u).length ≤ 2000) : parse (utextL u) = .ok u := by
  have h := (net_text g hl).1
  rw [netU_parse] at h
  cases hp : parse (utextL u) with
  | error e => rw [hp] at h; cases h
  | ok y =>
    rw [hp] at h
    simp only at h
    split at h
    · simp only [Option.some.injEq] at h; rw [h]
    · cases h
/-- A blob of a URL of the net. -/
theorem parse_blob {t : List UInt8} {u : URL} (hu : netU t = some u) (ht : ∀ b ∈ t, plainC b) (hl : t.length ≤ 1995) : parse (sBlob ++ 58 :: t) = .ok ⟨sBlob, Hst.none_, -1, [], false, [], t⟩ := by
  have hs : sBlob = sHttp ∨ sBlob = sHttps ∨ sBlob = sAbout ∨ sBlob = sData ∨ sBlob = sBlob := .inr (.inr (.inr (.inr rfl)))
  have hpl : ∀ b ∈ sBlob ++ 58 :: t, plainC b := by
    intro b hb
    rcases List.mem_append.1 hb with hb | hb
    · exact scheme_plain hs b hb
    · rcases List.mem_cons.1 hb with rfl | hb
      · unfold plainC; decide
      · exact ht b hb
  have hc := cutS_of hs (a := t) (by simp [sBlob]; omega)
  unfold parse
  rw [trimU_vis (fun b hb => plain_out (hpl b hb)), hc]
  simp only
  have hn : netB sBlob = false := by decide
  have hr : restB sBlob t = true := by
    unfold restB
    rw [if_neg (by decide), if_pos rfl, hu]; rfl
  rw [bef_no (no35 ht), vis_all ht, hn, hr]
  rfl
end Urp
end Go.Proofs.YtehjnidggnfbfaaGreatDoor
