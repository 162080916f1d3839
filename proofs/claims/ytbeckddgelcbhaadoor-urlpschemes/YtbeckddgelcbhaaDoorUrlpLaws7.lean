/- The walk of the statement on schemes' great letters and own ports. -/
import Derived.Test.YtbeckddgelcbhaaDoorUrlpLaws6
namespace Go.Proofs.YtbeckddgelcbhaaDoor
open Go.RowKit

def nameP (b : UInt8) : Bool := !((b.toNat : Int) == 58) && (!((b.toNat : Int) == 47) && (!((b.toNat : Int) == 63) && (!((b.toNat : Int) == 35) && decide (32 < (b.toNat : Int)))))
theorem nameP_yes {b : UInt8} (h : nameP b = true) : (((b.toNat : Int) == 58) = false ∧ ((b.toNat : Int) == 47) = false ∧ ((b.toNat : Int) == 63) = false ∧ ((b.toNat : Int) == 35) = false ∧ (32 : Int) < b.toNat) ∧ Urp.outerB b = false ∧ b ≠ 35 ∧ b ≠ 47 ∧ b ≠ 63 ∧ b ≠ 58 := by
  unfold nameP at h
  simp only [Bool.and_eq_true, Bool.not_eq_true', decide_eq_true_eq] at h
  obtain ⟨h1, h2, h3, h4, h5⟩ := h
  refine ⟨⟨h1, h2, h3, h4, h5⟩, ?_, ?_, ?_, ?_, ?_⟩
  · unfold Urp.outerB; exact decide_eq_false (by omega)
  · intro hc; rw [hc] at h4; exact absurd h4 (by decide)
  · intro hc; rw [hc] at h2; exact absurd h2 (by decide)
  · intro hc; rw [hc] at h3; exact absurd h3 (by decide)
  · intro hc; rw [hc] at h1; exact absurd h1 (by decide)
theorem nameP_no {b : UInt8} (h : nameP b = false) : ((b.toNat : Int) == 58) = true ∨ (((b.toNat : Int) == 58) = false ∧ ((b.toNat : Int) == 47) = true) ∨ (((b.toNat : Int) == 58) = false ∧ ((b.toNat : Int) == 47) = false ∧ ((b.toNat : Int) == 63) = true) ∨
    (((b.toNat : Int) == 58) = false ∧ ((b.toNat : Int) == 47) = false ∧ ((b.toNat : Int) == 63) = false ∧ ((b.toNat : Int) == 35) = true) ∨ (((b.toNat : Int) == 58) = false ∧ ((b.toNat : Int) == 47) = false ∧ ((b.toNat : Int) == 63) = false ∧ ((b.toNat : Int) == 35) = false ∧ (b.toNat : Int) ≤ 32) := by
  unfold nameP at h
  cases h1 : ((b.toNat : Int) == 58) with
  | true => exact .inl rfl
  | false =>
    cases h2 : ((b.toNat : Int) == 47) with
    | true => exact .inr (.inl ⟨rfl, rfl⟩)
    | false =>
      cases h3 : ((b.toNat : Int) == 63) with
      | true => exact .inr (.inr (.inl ⟨rfl, rfl, rfl⟩))
      | false =>
        cases h4 : ((b.toNat : Int) == 35) with
        | true => exact .inr (.inr (.inr (.inl ⟨rfl, rfl, rfl, rfl⟩)))
        | false =>
          rw [h1, h2, h3, h4] at h
          simp only [Bool.not_false, Bool.true_and, decide_eq_false_iff_not] at h
          exact .inr (.inr (.inr (.inr ⟨rfl, rfl, rfl, rfl, by omega⟩)))
theorem path_kind (p : List UInt8) : (¬ 0 < p.length ∧ Urp.Tail p) ∨ (∃ h : 0 < (bA p).size, (((bA p)[0].toNat : Int) != 47) = false ∧ Urp.Tail p) ∨ (∃ h : 0 < (bA p).size, (((bA p)[0].toNat : Int) != 47) = true ∧ (((bA p)[0].toNat : Int) != 63) = false ∧ Urp.Tail p) ∨ (∃ h : 0 < (bA p).size, (((bA p)[0].toNat : Int) != 47) = true ∧ (((bA p)[0].toNat : Int) != 63) = true) := by
  cases p with
  | nil => exact .inl ⟨by simp, .inl rfl⟩
  | cons a r =>
    have h : 0 < (bA (a :: r)).size := by rw [bA_size]; simp
    have e : (bA (a :: r))[0] = a := rfl
    by_cases h1 : a = 47
    · subst h1
      exact .inr (.inl ⟨h, rfl, .inr (.inl ⟨r, rfl⟩)⟩)
    · have k1 : ((a.toNat : Int) != 47) = true := by
        rw [bne_iff_ne]; intro hc
        exact h1 (UInt8.toNat_inj.1 (by have : a.toNat = 47 := by omega
                                        rw [this]; rfl))
      by_cases h2 : a = 63
      · subst h2
        exact .inr (.inr (.inl ⟨h, rfl, rfl, .inr (.inr ⟨r, rfl⟩)⟩))
      · have k2 : ((a.toNat : Int) != 63) = true := by
          rw [bne_iff_ne]; intro hc
          exact h2 (UInt8.toNat_inj.1 (by have : a.toNat = 63 := by omega
                                          rw [this]; rfl))
        exact .inr (.inr (.inr ⟨h, k1, k2⟩))

set_option maxHeartbeats 16000000 in
set_option maxRecDepth 100000 in
theorem walk_UrlpSchemes (n0 p0 : ByteArray) (w : World) (hs : n0.size ≤ maxLen) (hm : p0.size ≤ maxLen) (hT : Tab w) (hT8 : Tab8 w) : Calls Tryd.prog 7 #[.string n0, .string p0] w fun e w' => e = .returned (.bool true) ∧ Below w.heap.size w w' := by
  unfold maxLen at hs hm
  have HA := Lib.hid (awake_any w hT hT8)
  have HT8 := Lib.hid hT8
  clear hT hT8
  obtain ⟨n, hl⟩ : ∃ l, n0 = bA l := ⟨n0.data.toList, rfl⟩
  subst hl
  obtain ⟨p, hml⟩ : ∃ q, p0 = bA q := ⟨p0.data.toList, rfl⟩
  subst hml
  rw [bA_size] at hs hm
  by_cases hb : 900 < n.length
  · have hb' : (900 : Int) < (n.length : Int) := by omega
    clear hb
    go_enter Tryd.func7, Tryd.ntmps7
    go_wp2_with fail
    refine HA.out.mono ?_
    rintro e w1 ⟨rfl, hb1⟩
    go_wp2_with fail
    go_ret
    exact ⟨rfl, hb1⟩
  have hb1' : (n.length : Int) ≤ 900 := by omega
  have hl3 : n.length ≤ 900 := by omega
  by_cases hc : 900 < p.length
  · have hc' : (900 : Int) < (p.length : Int) := by omega
    clear hb hc
    go_enter Tryd.func7, Tryd.ntmps7
    go_wp2_with fail
    refine HA.out.mono ?_
    rintro e w1 ⟨rfl, hb1⟩
    go_wp2_with fail
    go_ret
    exact ⟨rfl, hb1⟩
  have hc1' : (p.length : Int) ≤ 900 := by omega
  have hm3 : p.length ≤ 900 := by omega
  clear hb hc hs hm
  rcases first_bad nameP n with hg | ⟨j, hj, hg, hbad⟩
  · have HG : Hid (∀ k (hk : k < (bA n).size), (((bA n)[k].toNat : Int) == 58) = false ∧ (((bA n)[k].toNat : Int) == 47) = false ∧ (((bA n)[k].toNat : Int) == 63) = false ∧ (((bA n)[k].toNat : Int) == 35) = false ∧ (32 : Int) < (bA n)[k].toNat) := Lib.hid (fun k hk => (nameP_yes (hg _ (mem_bA n k hk))).1)
    have hout : ∀ b ∈ n, Urp.outerB b = false ∧ b ≠ 35 ∧ b ≠ 47 ∧ b ≠ 63 ∧ b ≠ 58 := fun b hb => (nameP_yes (hg b hb)).2
    have HC1 : Hid ((⟨#[104, 116, 116, 112, 115, 58, 47, 47]⟩ : ByteArray) ++ bA n ++ bA p = bA (Urp.sHttps ++ [58, 47, 47] ++ n ++ p)) := Lib.hid (by
      have e1 : (⟨#[104, 116, 116, 112, 115, 58, 47, 47]⟩ : ByteArray) ++ bA n = bA (Urp.sHttps ++ [58, 47, 47] ++ n) := bA_app [104, 116, 116, 112, 115, 58, 47, 47] n
      rw [e1]; exact bA_app _ p)
    have HC2 : Hid ((⟨#[72, 84, 84, 80, 83, 58, 47, 47]⟩ : ByteArray) ++ bA n ++ (⟨#[58, 52, 52, 51]⟩ : ByteArray) ++ bA p = bA (Urp.sHTTPS ++ [58, 47, 47] ++ (n ++ Urp.p443) ++ p)) := Lib.hid (by
      have e1 : (⟨#[72, 84, 84, 80, 83, 58, 47, 47]⟩ : ByteArray) ++ bA n = bA (Urp.sHTTPS ++ [58, 47, 47] ++ n) := bA_app [72, 84, 84, 80, 83, 58, 47, 47] n
      have e2 : bA (Urp.sHTTPS ++ [58, 47, 47] ++ n) ++ (⟨#[58, 52, 52, 51]⟩ : ByteArray) = bA (Urp.sHTTPS ++ [58, 47, 47] ++ n ++ Urp.p443) := bA_app _ Urp.p443
      rw [e1, e2, bA_app, List.append_assoc (Urp.sHTTPS ++ [58, 47, 47]) n])
    have HC3 : Hid ((⟨#[104, 116, 116, 112, 58, 47, 47]⟩ : ByteArray) ++ bA n ++ (⟨#[58, 52, 52, 51]⟩ : ByteArray) ++ bA p = bA (Urp.sHttp ++ [58, 47, 47] ++ (n ++ Urp.p443) ++ p)) := Lib.hid (by
      have e1 : (⟨#[104, 116, 116, 112, 58, 47, 47]⟩ : ByteArray) ++ bA n = bA (Urp.sHttp ++ [58, 47, 47] ++ n) := bA_app [104, 116, 116, 112, 58, 47, 47] n
      have e2 : bA (Urp.sHttp ++ [58, 47, 47] ++ n) ++ (⟨#[58, 52, 52, 51]⟩ : ByteArray) = bA (Urp.sHttp ++ [58, 47, 47] ++ n ++ Urp.p443) := bA_app _ Urp.p443
      rw [e1, e2, bA_app, List.append_assoc (Urp.sHttp ++ [58, 47, 47]) n])
    have l4 : Urp.p443.length = 4 := rfl
    have l5 : Urp.sHttps.length = 5 := rfl
    have l6 : Urp.sHTTPS.length = 5 := rfl
    have l7 : Urp.sHttp.length = 4 := rfl
    have la : (Urp.sHttps ++ [58, 47, 47] ++ n ++ p).length ≤ 4000 := by simp only [List.length_append, List.length_cons, List.length_nil, l5]; omega
    have lb : (Urp.sHTTPS ++ [58, 47, 47] ++ (n ++ Urp.p443) ++ p).length ≤ 4000 := by simp only [List.length_append, List.length_cons, List.length_nil, l6, l4]; omega
    have lc : (Urp.sHttp ++ [58, 47, 47] ++ (n ++ Urp.p443) ++ p).length ≤ 4000 := by simp only [List.length_append, List.length_cons, List.length_nil, l7, l4]; omega
    clear l4 l5 l6 l7
    have main : Urp.Tail p → (∃ er, (er != 0) = true ∧ (∀ W : World, Tab8 W → Calls Tryd.prog 11 #[.string (bA (Urp.sHttps ++ [58, 47, 47] ++ n ++ p))] W fun e w' => e = .returned (.tuple #[.agg #[.string ⟨#[]⟩, .string ⟨#[]⟩, .bool false, .int .u32 0, .int .i64 0, .string ⟨#[]⟩, .bool false, .string ⟨#[]⟩, .string ⟨#[]⟩], .int .i64 er]) ∧ Below W.heap.size W w') ∧
        (∀ W : World, Tab8 W → Calls Tryd.prog 11 #[.string (bA (Urp.sHTTPS ++ [58, 47, 47] ++ (n ++ Urp.p443) ++ p))] W fun e w' => e = .returned (.tuple #[.agg #[.string ⟨#[]⟩, .string ⟨#[]⟩, .bool false, .int .u32 0, .int .i64 0, .string ⟨#[]⟩, .bool false, .string ⟨#[]⟩, .string ⟨#[]⟩], .int .i64 er]) ∧ Below W.heap.size W w') ∧
        (∀ W : World, Tab8 W → Calls Tryd.prog 11 #[.string (bA (Urp.sHttp ++ [58, 47, 47] ++ (n ++ Urp.p443) ++ p))] W fun e w' => e = .returned (.tuple #[.agg #[.string ⟨#[]⟩, .string ⟨#[]⟩, .bool false, .int .u32 0, .int .i64 0, .string ⟨#[]⟩, .bool false, .string ⟨#[]⟩, .string ⟨#[]⟩], .int .i64 er]) ∧ Below W.heap.size W w')) ∨
      (∃ u c : Urp.URL, (∀ W : World, Tab8 W → Calls Tryd.prog 11 #[.string (bA (Urp.sHttps ++ [58, 47, 47] ++ n ++ p))] W fun e w' => e = .returned (.tuple #[.agg #[.string (bA u.scheme), .string (bA u.host.name), .bool u.host.v4, .int .u32 u.host.addr, .int .i64 u.port, .string (bA u.path), .bool u.hasq, .string (bA u.query), .string (bA u.rest)], .int .i64 0]) ∧ Below W.heap.size W w') ∧
        (∀ W : World, Tab8 W → Calls Tryd.prog 11 #[.string (bA (Urp.sHTTPS ++ [58, 47, 47] ++ (n ++ Urp.p443) ++ p))] W fun e w' => e = .returned (.tuple #[.agg #[.string (bA u.scheme), .string (bA u.host.name), .bool u.host.v4, .int .u32 u.host.addr, .int .i64 u.port, .string (bA u.path), .bool u.hasq, .string (bA u.query), .string (bA u.rest)], .int .i64 0]) ∧ Below W.heap.size W w') ∧
        (∀ W : World, Tab8 W → Calls Tryd.prog 11 #[.string (bA (Urp.sHttp ++ [58, 47, 47] ++ (n ++ Urp.p443) ++ p))] W fun e w' => e = .returned (.tuple #[.agg #[.string (bA c.scheme), .string (bA c.host.name), .bool c.host.v4, .int .u32 c.host.addr, .int .i64 c.port, .string (bA c.path), .bool c.hasq, .string (bA c.query), .string (bA c.rest)], .int .i64 0]) ∧ Below W.heap.size W w') ∧ c.port = 443 ∧ c.path = u.path) := by
      intro ht
      rcases Urp.schemes n p hout ht hl3 hm3 with ⟨er, h0, h1, h2, h3⟩ | ⟨u, c, h1, h2, h3, h4, h5⟩
      · exact .inl ⟨er, h0, fun W h => uparse_er h1 la W h, fun W h => uparse_er h2 lb W h, fun W h => uparse_er h3 lc W h⟩
      · exact .inr ⟨u, c, fun W h => uparse_ok h1 la W h, fun W h => uparse_ok h2 lb W h, fun W h => uparse_ok h3 lc W h, h4, h5⟩
    have HM := Lib.hid main
    clear main hout hg la lb lc
    rcases path_kind p with ⟨k0, ht⟩ | ⟨k0, k1, ht⟩ | ⟨k0, k1, k2, ht⟩ | ⟨k0, k1, k2⟩
    · rcases HM.out ht with ⟨er, her, hp1, hp2, hp3⟩ | ⟨u, c, hp1, hp2, hp3, hpo, hpa⟩
      · have HP1 := Lib.hid hp1
        have HP2 := Lib.hid hp2
        have HP3 := Lib.hid hp3
        clear hp1 hp2 hp3 ht
        go_enter Tryd.func7, Tryd.ntmps7
        go_wp2_with fail
        refine HA.out.mono ?_
        rintro e w1 ⟨rfl, hb1⟩
        go_wp2_with fail
        go_loop [6] (fun i => ∃ k : Nat, k ≤ n.length ∧ i = .int .i64 k) (fun i => n.length - (intOf i).toNat)
        case atStart => exact ⟨0, Nat.zero_le _, rfl⟩
        case round =>
          obtain ⟨k, hk, rfl⟩ := hrel
          by_cases hlt : k < n.length
          · have hlb : k < (bA n).size := hlt
            obtain ⟨g1, g2, g3, g4, g5⟩ := HG.out k hlb
            go_wp2_with fail
            go_round
            case rel => exact ⟨k + 1, by omega, by go_num⟩
            case measure => simp [intOf]; omega
          · have HT1 := Lib.hid (HT8.out.below hb1)
            go_wp2_with fail
            rw [HC1.out]
            refine (HP1.out _ HT1.out).mono ?_
            rintro e w2 ⟨rfl, hb2⟩
            have b2 := below_on hb1 hb2
            have b3 := b2.alloc (o := .cells (uCells Urp.zeroU) 27) b2.size
            have q2 := UBox.new w2 Urp.zeroU
            clear hb2 b2
            have HT2 := Lib.hid (HT8.out.below b3)
            go_wp2_with fail
            rw [HC2.out]
            refine (HP2.out _ HT2.out).mono ?_
            rintro e w3 ⟨rfl, hb3⟩
            have b4 := below_on b3 hb3
            have q3 := (q2.keep hb3).alloc (.cells (uCells Urp.zeroU) 27)
            have x3 := UBox.new w3 Urp.zeroU
            have b5 := b4.alloc (o := .cells (uCells Urp.zeroU) 27) b4.size
            clear hb3 b4 b3 q2
            have HT3 := Lib.hid (HT8.out.below b5)
            go_wp2_with fail
            rw [HC3.out]
            refine (HP3.out _ HT3.out).mono ?_
            rintro e w4 ⟨rfl, hb4⟩
            have b6 := below_on b5 hb4
            have q4 := q3.keep hb4
            have x4 := x3.keep hb4
            have b7 := b6.alloc (o := .cells (uCells Urp.zeroU) 27) b6.size
            have l4 := q4.lt
            have m4 := x4.lt
            have n4 : w2.heap.size ≠ w4.heap.size := by omega
            have n5 : w3.heap.size ≠ w4.heap.size := by omega
            clear hb4 b6 b5 q3 x3
            go_wp2_with fail
            go_ret
            exact ⟨rfl, b7⟩
      · rw [hpo, hpa] at hp3
        have HP1 := Lib.hid hp1
        have HP2 := Lib.hid hp2
        have HP3 := Lib.hid hp3
        clear hp1 hp2 hp3 ht hpo hpa
        go_enter Tryd.func7, Tryd.ntmps7
        go_wp2_with fail
        refine HA.out.mono ?_
        rintro e w1 ⟨rfl, hb1⟩
        go_wp2_with fail
        go_loop [6] (fun i => ∃ k : Nat, k ≤ n.length ∧ i = .int .i64 k) (fun i => n.length - (intOf i).toNat)
        case atStart => exact ⟨0, Nat.zero_le _, rfl⟩
        case round =>
          obtain ⟨k, hk, rfl⟩ := hrel
          by_cases hlt : k < n.length
          · have hlb : k < (bA n).size := hlt
            obtain ⟨g1, g2, g3, g4, g5⟩ := HG.out k hlb
            go_wp2_with fail
            go_round
            case rel => exact ⟨k + 1, by omega, by go_num⟩
            case measure => simp [intOf]; omega
          · have HT1 := Lib.hid (HT8.out.below hb1)
            go_wp2_with fail
            rw [HC1.out]
            refine (HP1.out _ HT1.out).mono ?_
            rintro e w2 ⟨rfl, hb2⟩
            have b2 := below_on hb1 hb2
            have b3 := b2.alloc (o := .cells (uCells u) 27) b2.size
            have q2 := UBox.new w2 u
            clear hb2 b2
            have HT2 := Lib.hid (HT8.out.below b3)
            go_wp2_with fail
            rw [HC2.out]
            refine (HP2.out _ HT2.out).mono ?_
            rintro e w3 ⟨rfl, hb3⟩
            have b4 := below_on b3 hb3
            have q3 := (q2.keep hb3).alloc (.cells (uCells u) 27)
            have x3 := UBox.new w3 u
            have b5 := b4.alloc (o := .cells (uCells u) 27) b4.size
            clear hb3 b4 b3 q2
            have HT3 := Lib.hid (HT8.out.below b5)
            go_wp2_with fail
            rw [HC3.out]
            refine (HP3.out _ HT3.out).mono ?_
            rintro e w4 ⟨rfl, hb4⟩
            have b6 := below_on b5 hb4
            have q4 := q3.keep hb4
            have x4 := x3.keep hb4
            have b7 := b6.alloc (o := .cells (uCells { c with port := 443, path := u.path }) 27) b6.size
            have l4 := q4.lt
            have m4 := x4.lt
            have n4 : w2.heap.size ≠ w4.heap.size := by omega
            have n5 : w3.heap.size ≠ w4.heap.size := by omega
            clear hb4 b6 b5 q3 x3
            have c0 := q4.c0
            have c1 := q4.c1
            have c2 := q4.c2
            have c3 := q4.c3
            have c4 := q4.c4
            have c5 := q4.c5
            have c6 := q4.c6
            have c7 := q4.c7
            have c8 := q4.c8
            have d0 := x4.c0
            have d1 := x4.c1
            have d2 := x4.c2
            have d3 := x4.c3
            have d4 := x4.c4
            have d5 := x4.c5
            have d6 := x4.c6
            have d7 := x4.c7
            have d8 := x4.c8
            go_wp2_with fail
            go_ret
            exact ⟨rfl, b7⟩
    · rcases HM.out ht with ⟨er, her, hp1, hp2, hp3⟩ | ⟨u, c, hp1, hp2, hp3, hpo, hpa⟩
      · have HP1 := Lib.hid hp1
        have HP2 := Lib.hid hp2
        have HP3 := Lib.hid hp3
        clear hp1 hp2 hp3 ht
        go_enter Tryd.func7, Tryd.ntmps7
        go_wp2_with fail
        refine HA.out.mono ?_
        rintro e w1 ⟨rfl, hb1⟩
        go_wp2_with fail
        go_loop [6] (fun i => ∃ k : Nat, k ≤ n.length ∧ i = .int .i64 k) (fun i => n.length - (intOf i).toNat)
        case atStart => exact ⟨0, Nat.zero_le _, rfl⟩
        case round =>
          obtain ⟨k, hk, rfl⟩ := hrel
          by_cases hlt : k < n.length
          · have hlb : k < (bA n).size := hlt
            obtain ⟨g1, g2, g3, g4, g5⟩ := HG.out k hlb
            go_wp2_with fail
            go_round
            case rel => exact ⟨k + 1, by omega, by go_num⟩
            case measure => simp [intOf]; omega
          · have HT1 := Lib.hid (HT8.out.below hb1)
            go_wp2_with fail
            rw [HC1.out]
            refine (HP1.out _ HT1.out).mono ?_
            rintro e w2 ⟨rfl, hb2⟩
            have b2 := below_on hb1 hb2
            have b3 := b2.alloc (o := .cells (uCells Urp.zeroU) 27) b2.size
            have q2 := UBox.new w2 Urp.zeroU
            clear hb2 b2
            have HT2 := Lib.hid (HT8.out.below b3)
            go_wp2_with fail
            rw [HC2.out]
            refine (HP2.out _ HT2.out).mono ?_
            rintro e w3 ⟨rfl, hb3⟩
            have b4 := below_on b3 hb3
            have q3 := (q2.keep hb3).alloc (.cells (uCells Urp.zeroU) 27)
            have x3 := UBox.new w3 Urp.zeroU
            have b5 := b4.alloc (o := .cells (uCells Urp.zeroU) 27) b4.size
            clear hb3 b4 b3 q2
            have HT3 := Lib.hid (HT8.out.below b5)
            go_wp2_with fail
            rw [HC3.out]
            refine (HP3.out _ HT3.out).mono ?_
            rintro e w4 ⟨rfl, hb4⟩
            have b6 := below_on b5 hb4
            have q4 := q3.keep hb4
            have x4 := x3.keep hb4
            have b7 := b6.alloc (o := .cells (uCells Urp.zeroU) 27) b6.size
            have l4 := q4.lt
            have m4 := x4.lt
            have n4 : w2.heap.size ≠ w4.heap.size := by omega
            have n5 : w3.heap.size ≠ w4.heap.size := by omega
            clear hb4 b6 b5 q3 x3
            go_wp2_with fail
            go_ret
            exact ⟨rfl, b7⟩
      · rw [hpo, hpa] at hp3
        have HP1 := Lib.hid hp1
        have HP2 := Lib.hid hp2
        have HP3 := Lib.hid hp3
        clear hp1 hp2 hp3 ht hpo hpa
        go_enter Tryd.func7, Tryd.ntmps7
        go_wp2_with fail
        refine HA.out.mono ?_
        rintro e w1 ⟨rfl, hb1⟩
        go_wp2_with fail
        go_loop [6] (fun i => ∃ k : Nat, k ≤ n.length ∧ i = .int .i64 k) (fun i => n.length - (intOf i).toNat)
        case atStart => exact ⟨0, Nat.zero_le _, rfl⟩
        case round =>
          obtain ⟨k, hk, rfl⟩ := hrel
          by_cases hlt : k < n.length
          · have hlb : k < (bA n).size := hlt
            obtain ⟨g1, g2, g3, g4, g5⟩ := HG.out k hlb
            go_wp2_with fail
            go_round
            case rel => exact ⟨k + 1, by omega, by go_num⟩
            case measure => simp [intOf]; omega
          · have HT1 := Lib.hid (HT8.out.below hb1)
            go_wp2_with fail
            rw [HC1.out]
            refine (HP1.out _ HT1.out).mono ?_
            rintro e w2 ⟨rfl, hb2⟩
            have b2 := below_on hb1 hb2
            have b3 := b2.alloc (o := .cells (uCells u) 27) b2.size
            have q2 := UBox.new w2 u
            clear hb2 b2
            have HT2 := Lib.hid (HT8.out.below b3)
            go_wp2_with fail
            rw [HC2.out]
            refine (HP2.out _ HT2.out).mono ?_
            rintro e w3 ⟨rfl, hb3⟩
            have b4 := below_on b3 hb3
            have q3 := (q2.keep hb3).alloc (.cells (uCells u) 27)
            have x3 := UBox.new w3 u
            have b5 := b4.alloc (o := .cells (uCells u) 27) b4.size
            clear hb3 b4 b3 q2
            have HT3 := Lib.hid (HT8.out.below b5)
            go_wp2_with fail
            rw [HC3.out]
            refine (HP3.out _ HT3.out).mono ?_
            rintro e w4 ⟨rfl, hb4⟩
            have b6 := below_on b5 hb4
            have q4 := q3.keep hb4
            have x4 := x3.keep hb4
            have b7 := b6.alloc (o := .cells (uCells { c with port := 443, path := u.path }) 27) b6.size
            have l4 := q4.lt
            have m4 := x4.lt
            have n4 : w2.heap.size ≠ w4.heap.size := by omega
            have n5 : w3.heap.size ≠ w4.heap.size := by omega
            clear hb4 b6 b5 q3 x3
            have c0 := q4.c0
            have c1 := q4.c1
            have c2 := q4.c2
            have c3 := q4.c3
            have c4 := q4.c4
            have c5 := q4.c5
            have c6 := q4.c6
            have c7 := q4.c7
            have c8 := q4.c8
            have d0 := x4.c0
            have d1 := x4.c1
            have d2 := x4.c2
            have d3 := x4.c3
            have d4 := x4.c4
            have d5 := x4.c5
            have d6 := x4.c6
            have d7 := x4.c7
            have d8 := x4.c8
            go_wp2_with fail
            go_ret
            exact ⟨rfl, b7⟩
    · rcases HM.out ht with ⟨er, her, hp1, hp2, hp3⟩ | ⟨u, c, hp1, hp2, hp3, hpo, hpa⟩
      · have HP1 := Lib.hid hp1
        have HP2 := Lib.hid hp2
        have HP3 := Lib.hid hp3
        clear hp1 hp2 hp3 ht
        go_enter Tryd.func7, Tryd.ntmps7
        go_wp2_with fail
        refine HA.out.mono ?_
        rintro e w1 ⟨rfl, hb1⟩
        go_wp2_with fail
        go_loop [6] (fun i => ∃ k : Nat, k ≤ n.length ∧ i = .int .i64 k) (fun i => n.length - (intOf i).toNat)
        case atStart => exact ⟨0, Nat.zero_le _, rfl⟩
        case round =>
          obtain ⟨k, hk, rfl⟩ := hrel
          by_cases hlt : k < n.length
          · have hlb : k < (bA n).size := hlt
            obtain ⟨g1, g2, g3, g4, g5⟩ := HG.out k hlb
            go_wp2_with fail
            go_round
            case rel => exact ⟨k + 1, by omega, by go_num⟩
            case measure => simp [intOf]; omega
          · have HT1 := Lib.hid (HT8.out.below hb1)
            go_wp2_with fail
            rw [HC1.out]
            refine (HP1.out _ HT1.out).mono ?_
            rintro e w2 ⟨rfl, hb2⟩
            have b2 := below_on hb1 hb2
            have b3 := b2.alloc (o := .cells (uCells Urp.zeroU) 27) b2.size
            have q2 := UBox.new w2 Urp.zeroU
            clear hb2 b2
            have HT2 := Lib.hid (HT8.out.below b3)
            go_wp2_with fail
            rw [HC2.out]
            refine (HP2.out _ HT2.out).mono ?_
            rintro e w3 ⟨rfl, hb3⟩
            have b4 := below_on b3 hb3
            have q3 := (q2.keep hb3).alloc (.cells (uCells Urp.zeroU) 27)
            have x3 := UBox.new w3 Urp.zeroU
            have b5 := b4.alloc (o := .cells (uCells Urp.zeroU) 27) b4.size
            clear hb3 b4 b3 q2
            have HT3 := Lib.hid (HT8.out.below b5)
            go_wp2_with fail
            rw [HC3.out]
            refine (HP3.out _ HT3.out).mono ?_
            rintro e w4 ⟨rfl, hb4⟩
            have b6 := below_on b5 hb4
            have q4 := q3.keep hb4
            have x4 := x3.keep hb4
            have b7 := b6.alloc (o := .cells (uCells Urp.zeroU) 27) b6.size
            have l4 := q4.lt
            have m4 := x4.lt
            have n4 : w2.heap.size ≠ w4.heap.size := by omega
            have n5 : w3.heap.size ≠ w4.heap.size := by omega
            clear hb4 b6 b5 q3 x3
            go_wp2_with fail
            go_ret
            exact ⟨rfl, b7⟩
      · rw [hpo, hpa] at hp3
        have HP1 := Lib.hid hp1
        have HP2 := Lib.hid hp2
        have HP3 := Lib.hid hp3
        clear hp1 hp2 hp3 ht hpo hpa
        go_enter Tryd.func7, Tryd.ntmps7
        go_wp2_with fail
        refine HA.out.mono ?_
        rintro e w1 ⟨rfl, hb1⟩
        go_wp2_with fail
        go_loop [6] (fun i => ∃ k : Nat, k ≤ n.length ∧ i = .int .i64 k) (fun i => n.length - (intOf i).toNat)
        case atStart => exact ⟨0, Nat.zero_le _, rfl⟩
        case round =>
          obtain ⟨k, hk, rfl⟩ := hrel
          by_cases hlt : k < n.length
          · have hlb : k < (bA n).size := hlt
            obtain ⟨g1, g2, g3, g4, g5⟩ := HG.out k hlb
            go_wp2_with fail
            go_round
            case rel => exact ⟨k + 1, by omega, by go_num⟩
            case measure => simp [intOf]; omega
          · have HT1 := Lib.hid (HT8.out.below hb1)
            go_wp2_with fail
            rw [HC1.out]
            refine (HP1.out _ HT1.out).mono ?_
            rintro e w2 ⟨rfl, hb2⟩
            have b2 := below_on hb1 hb2
            have b3 := b2.alloc (o := .cells (uCells u) 27) b2.size
            have q2 := UBox.new w2 u
            clear hb2 b2
            have HT2 := Lib.hid (HT8.out.below b3)
            go_wp2_with fail
            rw [HC2.out]
            refine (HP2.out _ HT2.out).mono ?_
            rintro e w3 ⟨rfl, hb3⟩
            have b4 := below_on b3 hb3
            have q3 := (q2.keep hb3).alloc (.cells (uCells u) 27)
            have x3 := UBox.new w3 u
            have b5 := b4.alloc (o := .cells (uCells u) 27) b4.size
            clear hb3 b4 b3 q2
            have HT3 := Lib.hid (HT8.out.below b5)
            go_wp2_with fail
            rw [HC3.out]
            refine (HP3.out _ HT3.out).mono ?_
            rintro e w4 ⟨rfl, hb4⟩
            have b6 := below_on b5 hb4
            have q4 := q3.keep hb4
            have x4 := x3.keep hb4
            have b7 := b6.alloc (o := .cells (uCells { c with port := 443, path := u.path }) 27) b6.size
            have l4 := q4.lt
            have m4 := x4.lt
            have n4 : w2.heap.size ≠ w4.heap.size := by omega
            have n5 : w3.heap.size ≠ w4.heap.size := by omega
            clear hb4 b6 b5 q3 x3
            have c0 := q4.c0
            have c1 := q4.c1
            have c2 := q4.c2
            have c3 := q4.c3
            have c4 := q4.c4
            have c5 := q4.c5
            have c6 := q4.c6
            have c7 := q4.c7
            have c8 := q4.c8
            have d0 := x4.c0
            have d1 := x4.c1
            have d2 := x4.c2
            have d3 := x4.c3
            have d4 := x4.c4
            have d5 := x4.c5
            have d6 := x4.c6
            have d7 := x4.c7
            have d8 := x4.c8
            go_wp2_with fail
            go_ret
            exact ⟨rfl, b7⟩
    · rw [bA_size] at k0
      go_enter Tryd.func7, Tryd.ntmps7
      go_wp2_with fail
      refine HA.out.mono ?_
      rintro e w1 ⟨rfl, hb1⟩
      go_wp2_with fail
      go_loop [6] (fun i => ∃ k : Nat, k ≤ n.length ∧ i = .int .i64 k) (fun i => n.length - (intOf i).toNat)
      case atStart => exact ⟨0, Nat.zero_le _, rfl⟩
      case round =>
        obtain ⟨k, hk, rfl⟩ := hrel
        by_cases hlt : k < n.length
        · have hlb : k < (bA n).size := hlt
          obtain ⟨g1, g2, g3, g4, g5⟩ := HG.out k hlb
          go_wp2_with fail
          go_round
          case rel => exact ⟨k + 1, by omega, by go_num⟩
          case measure => simp [intOf]; omega
        · go_wp2_with fail
          go_ret
          exact ⟨rfl, hb1⟩
  · have HG : Hid (∀ k (hk : k < (bA n).size), k < j → (((bA n)[k].toNat : Int) == 58) = false ∧ (((bA n)[k].toNat : Int) == 47) = false ∧ (((bA n)[k].toNat : Int) == 63) = false ∧ (((bA n)[k].toNat : Int) == 35) = false ∧ (32 : Int) < (bA n)[k].toNat) := Lib.hid (fun k hk hkj => (nameP_yes (hg k hk hkj)).1)
    have hz := nameP_no hbad
    have hj2 : j < n.length := hj
    clear hg hbad
    go_enter Tryd.func7, Tryd.ntmps7
    go_wp2_with fail
    refine HA.out.mono ?_
    rintro e w1 ⟨rfl, hb1⟩
    go_wp2_with fail
    go_loop [6] (fun i => ∃ k : Nat, k ≤ j ∧ i = .int .i64 k) (fun i => n.length - (intOf i).toNat)
    case atStart => exact ⟨0, Nat.zero_le _, rfl⟩
    case round =>
      obtain ⟨k, hk, rfl⟩ := hrel
      rcases Nat.lt_or_ge k j with hlt | hge
      · have hlb : k < (bA n).size := by rw [bA_size]; omega
        have hlq : k < n.length := by omega
        obtain ⟨g1, g2, g3, g4, g5⟩ := HG.out k hlb hlt
        go_wp2_with fail
        go_round
        case rel => exact ⟨k + 1, by omega, by go_num⟩
        case measure => simp [intOf]; omega
      · obtain rfl : k = j := by omega
        have hlb : k < (bA n).size := hj
        rcases hz with g1 | ⟨g1, g2⟩ | ⟨g1, g2, g3⟩ | ⟨g1, g2, g3, g4⟩ | ⟨g1, g2, g3, g4, g5⟩
        all_goals
          go_wp2_with fail
          go_ret
          exact ⟨rfl, hb1⟩
end Go.Proofs.YtbeckddgelcbhaaDoor
