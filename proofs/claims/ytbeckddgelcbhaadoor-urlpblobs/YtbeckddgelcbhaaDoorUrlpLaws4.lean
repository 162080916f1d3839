/- The walk of the statement on blobs. -/
import Derived.Test.YtbeckddgelcbhaaDoorUrlpLaws3
namespace Go.Proofs.YtbeckddgelcbhaaDoor
open Go.RowKit

theorem inner_some {u v : Urp.URL} (h : Urp.innerU u = some v) (W : World) (hl : u.rest.length ≤ 4000) (hT : Tab8 W) : Calls Tryd.prog 16 #[.agg #[.string (bA u.scheme), .string (bA u.host.name), .bool u.host.v4, .int .u32 u.host.addr, .int .i64 u.port, .string (bA u.path), .bool u.hasq, .string (bA u.query), .string (bA u.rest)]] W fun e w' => e = .returned (.tuple #[.agg #[.string (bA v.scheme), .string (bA v.host.name), .bool v.host.v4, .int .u32 v.host.addr, .int .i64 v.port, .string (bA v.path), .bool v.hasq, .string (bA v.query), .string (bA v.rest)], .bool true]) ∧ Below W.heap.size W w' := by
  have := inner_any u W hl hT
  rw [h] at this
  exact this
theorem inner_none {u : Urp.URL} (h : Urp.innerU u = none) (W : World) (hl : u.rest.length ≤ 4000) (hT : Tab8 W) : Calls Tryd.prog 16 #[.agg #[.string (bA u.scheme), .string (bA u.host.name), .bool u.host.v4, .int .u32 u.host.addr, .int .i64 u.port, .string (bA u.path), .bool u.hasq, .string (bA u.query), .string (bA u.rest)]] W fun e w' => e = .returned (.tuple #[.agg #[.string ⟨#[]⟩, .string ⟨#[]⟩, .bool false, .int .u32 0, .int .i64 0, .string ⟨#[]⟩, .bool false, .string ⟨#[]⟩, .string ⟨#[]⟩], .bool false]) ∧ Below W.heap.size W w' := by
  have := inner_any u W hl hT
  rw [h] at this
  exact this
theorem text_cells (u : Urp.URL) (W : World) (hS : SmallU u) (hT : Tab W) : Calls Tryd.prog 15 #[.agg #[.string (bA u.scheme), .string (bA u.host.name), .bool u.host.v4, .int .u32 u.host.addr, .int .i64 u.port, .string (bA u.path), .bool u.hasq, .string (bA u.query), .string (bA u.rest)]] W fun e w' => e = .returned (.string (bA (utextL u))) ∧ Below W.heap.size W w' := utext_any u W hS hT

set_option maxHeartbeats 8000000 in
set_option maxRecDepth 100000 in
theorem walk_UrlpBlobs (s : ByteArray) (w : World) (hs : s.size ≤ maxLen) (hT : Tab w) (hT8 : Tab8 w) : Calls Tryd.prog 8 #[.string s] w fun e w' => e = .returned (.bool true) ∧ Below w.heap.size w w' := by
  unfold maxLen at hs
  have HA := Lib.hid (awake_any w hT hT8)
  have HT8 := Lib.hid hT8
  have HT := Lib.hid hT
  clear hT hT8
  by_cases hb : 1000 < s.size
  · have hb' : (1000 : Int) < (s.size : Int) := by omega
    clear hb
    go_enter Tryd.func8, Tryd.ntmps8
    go_wp2_with fail
    refine HA.out.mono ?_
    rintro e w1 ⟨rfl, hb1⟩
    go_wp2_with fail
    go_ret
    exact ⟨rfl, hb1⟩
  have hb' : s.size ≤ 1000 := by omega
  obtain ⟨l, hl⟩ : ∃ l, s = bA l := ⟨s.data.toList, rfl⟩
  subst hl
  have hll : l.length ≤ 4000 := by rw [bA_size] at hb'; omega
  have hb2 : (l.length : Int) ≤ 1000 := by rw [bA_size] at hb'; omega
  have hl3 : l.length ≤ 1000 := by omega
  clear hb hb' hs
  rcases parse_ways l with ⟨er, hp, her⟩ | ⟨u, hp, hn⟩ | ⟨u, hp, hn⟩
  · have HU := Lib.hid (fun W h => uparse_er hp hll W h)
    have her2 := ne_eq her
    clear hp
    go_enter Tryd.func8, Tryd.ntmps8
    go_wp2_with fail
    refine HA.out.mono ?_
    rintro e w1 ⟨rfl, hb1⟩
    have HT1 := Lib.hid (HT8.out.below hb1)
    go_wp2_with fail
    refine (HU.out _ HT1.out).mono ?_
    rintro e w2 ⟨rfl, hb2⟩
    have b2 := below_on hb1 hb2
    have b3 := b2.alloc (o := .cells (uCells Urp.zeroU) 27) b2.size
    clear hb2
    go_wp2_with fail
    refine (netV_any _ _ _ _ _ _ _ _ _ _).mono ?_
    rintro e w3 ⟨rfl, hb3⟩
    have b4 := below_on b3 hb3
    clear hb3 b3
    go_wp2_with fail
    go_ret
    exact ⟨rfl, b4⟩
  · have HU := Lib.hid (fun W h => uparse_ok hp hll W h)
    have HN := Lib.hid hn
    clear hp hn
    go_enter Tryd.func8, Tryd.ntmps8
    go_wp2_with fail
    refine HA.out.mono ?_
    rintro e w1 ⟨rfl, hb1⟩
    have HT1 := Lib.hid (HT8.out.below hb1)
    go_wp2_with fail
    refine (HU.out _ HT1.out).mono ?_
    rintro e w2 ⟨rfl, hb2⟩
    have b2 := below_on hb1 hb2
    have b3 := b2.alloc (o := .cells (uCells u) 27) b2.size
    clear hb2
    go_wp2_with fail
    refine (netV_any _ _ _ _ _ _ _ _ _ _).mono ?_
    rintro e w3 ⟨rfl, hb3⟩
    have b4 := below_on b3 hb3
    have en : Urp.netB (bA u.scheme).data.toList = false := HN.out
    rw [en]
    clear hb3 b3 en
    go_wp2_with fail
    go_ret
    exact ⟨rfl, b4⟩
  · have HU := Lib.hid (fun W h => uparse_ok hp hll W h)
    obtain ⟨g, hgl⟩ := Urp.parse_good hp hn
    have hsm := Urp.good_small g (by omega)
    obtain ⟨hnt, hpl⟩ := Urp.net_text g (by omega)
    have hpb := Urp.parse_blob hnt hpl (by omega)
    obtain ⟨t, ht⟩ : ∃ t, utextL u = t := ⟨_, rfl⟩
    have HTX := Lib.hid (fun W h => text_cells u W hsm h)
    rw [ht] at hnt hpl hpb hgl HTX
    obtain ⟨v, hv⟩ : ∃ v : Urp.URL, v = ⟨Urp.sBlob, Hst.none_, -1, [], false, [], t⟩ := ⟨_, rfl⟩
    rw [← hv] at hpb
    have hib : Urp.innerU v = some u := by rw [hv]; unfold Urp.innerU; rw [if_pos rfl]; exact hnt
    have hiu : Urp.innerU u = none := by
      unfold Urp.innerU
      rw [if_neg]
      intro h
      rw [h] at hn
      cases hn
    have HP := Lib.hid (fun W h => uparse_ok hpb (by simp [Urp.sBlob]; omega) W h)
    have HI1 := Lib.hid (fun W h => inner_some hib W (by rw [hv]; show t.length ≤ 4000; omega) h)
    have HI2 := Lib.hid (fun W h => inner_none hiu W hsm.re h)
    have HCAT : Hid ((⟨#[98, 108, 111, 98, 58]⟩ : ByteArray) ++ bA t = bA (Urp.sBlob ++ 58 :: t)) := Lib.hid (bA_app [98, 108, 111, 98, 58] t)
    have hvn : Urp.netB v.scheme = false := by rw [hv]; rfl
    have hvp : v.port = -1 := by rw [hv]
    have hvq : v.path = [] := by rw [hv]
    have htl : t.length ≤ 1001 := by omega
    have HN := Lib.hid hn
    have HVN := Lib.hid hvn
    have HVP := Lib.hid hvp
    have HVQ := Lib.hid hvq
    clear hp hn g hgl hsm hnt hpl hpb ht hv hib hiu hvn hvp hvq
    go_enter Tryd.func8, Tryd.ntmps8
    go_wp2_with fail
    refine HA.out.mono ?_
    rintro e w1 ⟨rfl, hb1⟩
    have HT1 := Lib.hid (HT8.out.below hb1)
    go_wp2_with fail
    refine (HU.out _ HT1.out).mono ?_
    rintro e w2 ⟨rfl, hb2⟩
    have b2 := below_on hb1 hb2
    have b3 := b2.alloc (o := .cells (uCells u) 27) b2.size
    have q2 := UBox.new w2 u
    clear hb2
    go_wp2_with fail
    refine (netV_any _ _ _ _ _ _ _ _ _ _).mono ?_
    rintro e w3 ⟨rfl, hb3⟩
    have b4 := below_on b3 hb3
    have q3 := q2.keep hb3
    have en : Urp.netB (bA u.scheme).data.toList = true := HN.out
    rw [en]
    clear hb3 b3 q2 en
    have c0 := q3.c0
    have c1 := q3.c1
    have c2 := q3.c2
    have c3 := q3.c3
    have c4 := q3.c4
    have c5 := q3.c5
    have c6 := q3.c6
    have c7 := q3.c7
    have c8 := q3.c8
    have HT4 := Lib.hid (HT.out.below b4)
    go_wp2_with fail
    refine (HTX.out _ HT4.out).mono ?_
    rintro e w4 ⟨rfl, hb4⟩
    have b5 := below_on b4 hb4
    have q4 := q3.keep hb4
    clear hb4 q3 c0 c1 c2 c3 c4 c5 c6 c7 c8 b4
    have HT5 := Lib.hid (HT8.out.below b5)
    go_wp2_with fail
    rw [HCAT.out]
    refine (HP.out _ HT5.out).mono ?_
    rintro e w5 ⟨rfl, hb5⟩
    have b6 := below_on b5 hb5
    have q5 := (q4.keep hb5).alloc (.cells (uCells v) 27)
    have v5 := UBox.new w5 v
    have b7 := b6.alloc (o := .cells (uCells v) 27) b6.size
    clear hb5 q4 b5 b6
    have HT6 := Lib.hid (HT8.out.below b7)
    go_wp2_with fail
    refine (HI1.out _ HT6.out).mono ?_
    rintro e w6 ⟨rfl, hb6⟩
    have b8 := below_on b7 hb6
    have q6 := q5.keep hb6
    have v6 := v5.keep hb6
    have l6 := q6.lt
    have n6 : w2.heap.size ≠ w6.heap.size := by omega
    have q7 := q6.alloc (.cells (uCells u) 27)
    have v7 := v6.alloc (.cells (uCells u) 27)
    have x7 := UBox.new w6 u
    have b9 := b8.alloc (o := .cells (uCells u) 27) b8.size
    clear hb6 q5 v5 b7 b8
    have c0 := q6.c0
    have c1 := q6.c1
    have c2 := q6.c2
    have c3 := q6.c3
    have c4 := q6.c4
    have c5 := q6.c5
    have c6 := q6.c6
    have c7 := q6.c7
    have c8 := q6.c8
    have HT7 := Lib.hid (HT8.out.below b9)
    go_wp2_with fail
    refine (HI2.out _ HT7.out).mono ?_
    rintro e w7 ⟨rfl, hb7⟩
    have b10 := below_on b9 hb7
    have q8 := q7.keep hb7
    have v8 := v7.keep hb7
    have x8 := x7.keep hb7
    have b11 := b10.alloc (o := .cells (uCells Urp.zeroU) 27) b10.size
    have l8 := q8.lt
    have m8 := v8.lt
    have o8 := x8.lt
    have n8 : w2.heap.size ≠ w7.heap.size := by omega
    have n9 : w5.heap.size ≠ w7.heap.size := by omega
    have n10 : w6.heap.size ≠ w7.heap.size := by omega
    have v9 := v8.alloc (.cells (uCells Urp.zeroU) 27)
    clear hb7 q7 v7 x7 b9 b10 c0 c1 c2 c3 c4 c5 c6 c7 c8 l6 n6 q6 v6
    have c0 := q8.c0
    have c1 := q8.c1
    have c2 := q8.c2
    have c3 := q8.c3
    have c4 := q8.c4
    have c5 := q8.c5
    have c6 := q8.c6
    have c7 := q8.c7
    have c8 := q8.c8
    have d0 := v8.c0
    have d1 := v8.c1
    have d2 := v8.c2
    have d3 := v8.c3
    have d4 := v8.c4
    have d5 := v8.c5
    have d6 := v8.c6
    have d7 := v8.c7
    have d8 := v8.c8
    have e0 := x8.c0
    have e1 := x8.c1
    have e2 := x8.c2
    have e3 := x8.c3
    have e4 := x8.c4
    have e5 := x8.c5
    have e6 := x8.c6
    have e7 := x8.c7
    have e8 := x8.c8
    go_wp2_with fail
    refine (netV_any _ _ _ _ _ _ _ _ _ _).mono ?_
    rintro e w8 ⟨rfl, hb8⟩
    have b12 := below_on b11 hb8
    have v10 := v9.keep hb8
    have en : Urp.netB (bA v.scheme).data.toList = false := HVN.out
    rw [en]
    have k4 := v10.c4
    have k5 := v10.c5
    rw [HVP.out] at k4
    rw [HVQ.out] at k5
    clear hb8 en b11 v9 v8 q8 x8 c0 c1 c2 c3 c4 c5 c6 c7 c8 d0 d1 d2 d3 d4 d5 d6 d7 d8 e0 e1 e2 e3 e4 e5 e6 e7 e8
    go_wp2_with fail
    go_ret
    exact ⟨rfl, b12⟩
end Go.Proofs.YtbeckddgelcbhaaDoor
