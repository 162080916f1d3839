/- The contracts of the program's isScheme, isDomain, isHost and parsePort. -/
import Derived.Test.YtinjkpbpkedfnaaGreatDoorCmPure
import Derived.Test.YtinjkpbpkedfnaaGreatDoorOctAll
import Derived.Test.YtinjkpbpkedfnaaGreatDoorHostAll
import Derived.Test.YtinjkpbpkedfnaaGreatDoorUrlpAll
import Derived.Test.YtinjkpbpkedfnaaGreatDoorOnto
namespace Go.Proofs.YtinjkpbpkedfnaaGreatDoor
open Go.RowKit
open Oct (lower digitI letterI numOk val)
open Urp (bef aft hasB No begB)

theorem cmSmall_any (c : Int) (w : World) : Calls Tryz.prog 58 #[.int .u8 c] w fun e w' => e = .returned (.bool (Urp.lowI c)) ∧ w = w' := by
  go_enter Tryz.func58, Tryz.ntmps58
  go_wp2
  all_goals (go_ret; refine ⟨?_, rfl⟩; simp_all [Urp.lowI] <;> omega)
theorem cmDigit_any (c : Int) (w : World) : Calls Tryz.prog 59 #[.int .u8 c] w fun e w' => e = .returned (.bool (digitI c)) ∧ w = w' := by
  go_enter Tryz.func59, Tryz.ntmps59
  go_wp2
  all_goals (go_ret; refine ⟨?_, rfl⟩; simp_all [Oct.digitI] <;> omega)
namespace Cm
theorem let_low {c : UInt8} (h : Oct.low1 c = c) : letterI c.toNat = Urp.lowI c.toNat := by
  have key : ∀ n : Fin 256, Oct.low1 (UInt8.ofNat n) = UInt8.ofNat n → letterI (UInt8.ofNat n).toNat = Urp.lowI (UInt8.ofNat n).toNat := by decide +kernel
  have := key ⟨c.toNat, c.toNat_lt⟩
  simpa using this (by simpa using h)
theorem mark_is (c : UInt8) : (c == 43 || c == 45 || c == 46) = decide (0 ≤ Lib.indexByte [43, 45, 46] c) := by
  rw [← Lib.contains_iff_indexByte, List.contains_cons, List.contains_cons, List.contains_cons, List.contains_nil, Bool.or_false, Bool.or_assoc]
theorem sc_end {s : List UInt8} {k : Nat} (hk : k = s.length) (h : schN s = k) (b : Bool) (hb : b = !s.isEmpty) : b = scB s := by
  subst hb
  unfold scB
  rw [h, hk]
  cases s <;> simp
theorem sc_miss {s : List UInt8} {k : Nat} (hk : k < s.length) (h : schN s = k) : false = scB s := by
  unfold scB
  have : ¬ schN s = s.length := by omega
  simp [this]
end Cm
set_option maxHeartbeats 2000000 in
theorem cmScheme_any (s : ByteArray) (w : World) (hs : s.size ≤ 100000000) (hlow : ∀ b ∈ s.data.toList, Oct.low1 b = b) : Calls Tryz.prog 29 #[.string s] w fun e w' => e = .returned (.bool (Cm.scB s.data.toList)) ∧ w = w' := by
  have HLOW := Lib.hid hlow
  clear hlow
  go_enter Tryz.func29, Tryz.ntmps29
  go_wp2
  go_loopw [6] (fun i wr => ∃ k : Nat, k ≤ s.size ∧ i = .int .i64 k ∧ Hid (Cm.schTo s.data.toList k) ∧ wr = w) (fun i _ => s.size - (intOf i).toNat)
  case atStart => exact ⟨0, by omega, rfl, Lib.hid (fun i _ hi => by omega), rfl⟩
  case round =>
    obtain ⟨k, hk, rfl, hto, rfl⟩ := hrel
    by_cases hlt : k < s.size
    · have hlt2 : k < s.data.toList.length := by simpa using hlt
      have eg : s.data.toList[k] = s[k] := by simp; rfl
      have hl1 := HLOW.out s[k] (by rw [← eg]; exact List.getElem_mem hlt2)
      have hsc : Cm.schB s[k] = (Urp.lowI s[k].toNat || (digitI s[k].toNat || decide (0 ≤ Lib.indexByte [43, 45, 46] s[k]))) := by
        rw [← Cm.mark_is, ← Cm.let_low hl1]; rfl
      have hlet : Cm.letB s[k] = Urp.lowI s[k].toNat := by rw [← Cm.let_low hl1]; rfl
      have hgo := fun h => hto.out.succ hlt2 h
      have hst : (if k = 0 then Cm.letB s.data.toList[k] else Cm.schB s.data.toList[k]) = false → Cm.schN s.data.toList = k := fun h => hto.out.stop (Nat.le_of_lt hlt2) (fun _ => h)
      rw [eg] at hgo hst
      rw [hlet, hsc] at hgo hst
      have hmiss := fun h => Cm.sc_miss hlt2 (hst h)
      have c1 := fun W => cmSmall_any s[k].toNat W
      have c2 := fun W => cmDigit_any s[k].toNat W
      have c3 : ∀ W, Calls Tryz.prog 60 #[.string ⟨#[43, 45, 46]⟩, .int .u8 s[k].toNat] W fun e w' => e = .returned (.int .i64 (Lib.indexByte [43, 45, 46] s[k])) ∧ W = w' := fun W => by
        have := indexByte_any ⟨#[43, 45, 46]⟩ s[k].toNat W
        have hback : ((s[k].toNat : Int)).toNat.toUInt8 = s[k] := by simp
        rw [hback] at this; exact this
      obtain ⟨a, ha⟩ : ∃ a, Urp.lowI s[k].toNat = a := ⟨_, rfl⟩
      obtain ⟨b, hb⟩ : ∃ b, digitI s[k].toNat = b := ⟨_, rfl⟩
      obtain ⟨c, hc⟩ : ∃ c, Lib.indexByte [43, 45, 46] s[k] = c := ⟨_, rfl⟩
      rw [ha] at c1; rw [hb] at c2; rw [hc] at c3
      rw [ha, hb, hc] at hgo hmiss
      have C1 := Lib.hid c1; have C2 := Lib.hid c2; have C3 := Lib.hid c3; have HG := Lib.hid hgo; have HM := Lib.hid hmiss
      clear hsc hgo hst hmiss eg hlet ha hb hc c1 c2 c3 hl1
      go_wp2_with fail
      refine (C1.out _).mono ?_
      rintro e w1 ⟨rfl, rfl⟩
      by_cases hk0 : k = 0
      · subst hk0
        have hz : (((0 : Nat) : Int) == 0) = true := rfl
        cases a with
        | true =>
          go_wp2_with fail
          exact ⟨⟨1, by omega, by rfl, Lib.hid (HG.out rfl), trivial⟩, by simp [intOf]; omega⟩
        | false =>
          have HN := Lib.hid (HM.out rfl)
          go_wp2_with fail
          go_ret
          exact ⟨by rw [← HN.out]; rfl, rfl⟩
      · have hz : ((k : Int) == 0) = false := by rw [beq_eq_false_iff_ne]; omega
        have hgo2 := HG.out
        have hst2 := HM.out
        rw [if_neg hk0] at hgo2 hst2
        cases a with
        | true =>
          have HN := Lib.hid (hgo2 rfl)
          clear hgo2 hst2 hk0
          go_wp2_with fail
          exact ⟨⟨k + 1, by omega, by go_num, HN, trivial⟩, by simp [intOf]; omega⟩
        | false =>
          cases b with
          | true =>
            have HN := Lib.hid (hgo2 rfl)
            clear hgo2 hst2 hk0
            go_wp2_with fail
            refine (C2.out _).mono ?_
            rintro e w1 ⟨rfl, rfl⟩
            go_wp2_with fail
            exact ⟨⟨k + 1, by omega, by go_num, HN, trivial⟩, by simp [intOf]; omega⟩
          | false =>
            by_cases hc : 0 ≤ c
            · have HN := Lib.hid (hgo2 (by simpa using hc))
              have hc2 : ¬ c < 0 := by omega
              clear hgo2 hst2 hk0
              go_wp2_with fail
              refine (C2.out _).mono ?_
              rintro e w1 ⟨rfl, rfl⟩
              go_wp2_with fail
              refine (C3.out _).mono ?_
              rintro e w1 ⟨rfl, rfl⟩
              go_wp2_with fail
              exact ⟨⟨k + 1, by omega, by go_num, HN, trivial⟩, by simp [intOf]; omega⟩
            · have HN := Lib.hid (hst2 (by simpa using hc))
              have hc2 : c < 0 := by omega
              clear hgo2 hst2 hk0
              go_wp2_with fail
              refine (C2.out _).mono ?_
              rintro e w1 ⟨rfl, rfl⟩
              go_wp2_with fail
              refine (C3.out _).mono ?_
              rintro e w1 ⟨rfl, rfl⟩
              go_wp2_with fail
              go_ret
              exact ⟨by rw [← HN.out]; rfl, rfl⟩
    · obtain rfl : k = s.size := by omega
      have hn := hto.out.stop (by simp) (fun h => by simp at h)
      have he : (!s.toList.isEmpty) = Cm.scB s.data.toList := Cm.sc_end (by simp) hn _ (by rw [Lib.toList_data])
      have HN := Lib.hid he
      clear hn he
      cases h0 : s.toList.isEmpty with
      | true =>
        rw [h0] at HN
        have he' := empty_list h0
        clear h0
        go_wp2
        go_ret
        exact ⟨by rw [← HN.out]; rfl, rfl⟩
      | false =>
        have he' := empty_no h0
        clear h0
        go_wp2
        go_ret
        exact ⟨Oct.ret_bool HN.out, rfl⟩
/-! ### a letter for each digit, in place -/
namespace Cm
def letTo (l : List UInt8) (k : Nat) : List UInt8 := (l.take k).map let1 ++ l.drop k
theorem letTo_len (l : List UInt8) (k : Nat) : (letTo l k).length = l.length := by simp [letTo]; omega
theorem letTo_zero (l : List UInt8) : letTo l 0 = l := by simp [letTo]
theorem letTo_all (l : List UInt8) (k : Nat) (h : l.length ≤ k) : letTo l k = lets l := by
  simp [letTo, lets, List.take_of_length_le h, List.drop_of_length_le h]
theorem letTo_at (l : List UInt8) (k : Nat) (h : k < l.length) : (letTo l k)[k]'(by rw [letTo_len]; exact h) = l[k] := by
  simp [letTo, show min k l.length = k by omega]
theorem letTo_succ (l : List UInt8) (k : Nat) (h : k < l.length) : letTo l (k + 1) = (letTo l k).set k (let1 l[k]) := by
  unfold letTo
  rw [List.take_succ_eq_append_getElem h, List.map_append, List.append_assoc, List.set_append_right _ _ (by simp; omega)]
  congr 1
  rw [List.drop_eq_getElem_cons h, show k - ((l.take k).map let1).length = 0 by simp; omega]
  rfl
theorem let_look {w : World} {b : Nat} {l : List UInt8} {k : Nat} (h : Oct.BytesAt w b (letTo l k)) (hk : k < l.length) : w.cell? ⟨b, k, none⟩ = some (.int .u8 (l[k].toNat : Int)) ∧ w.frozen? ⟨b, k, none⟩ = false := by
  have h0 := h k (by rw [letTo_len]; exact hk)
  rw [letTo_at _ k hk] at h0
  exact h0
theorem let_keep {w : World} {b : Nat} {l : List UInt8} {k : Nat} (h : Oct.BytesAt w b (letTo l k)) (hk : k < l.length) (hd : digitI l[k].toNat = false) : Oct.BytesAt w b (letTo l (k + 1)) := by
  have e : letTo l (k + 1) = letTo l k := by
    rw [letTo_succ l k hk]
    have h1 : let1 l[k] = l[k] := by unfold let1; rw [hd]; rfl
    rw [h1]
    have := letTo_at l k hk
    rw [← this]; simp
  rw [e]; exact h
theorem let_turn {w : World} {b : Nat} {l : List UInt8} {k : Nat} (h : Oct.BytesAt w b (letTo l k)) (hk : k < l.length) (hd : digitI l[k].toNat = true) : Oct.BytesAt (w.setCell ⟨b, k, none⟩ (.int .u8 97)) b (letTo l (k + 1)) := by
  rw [letTo_succ l k hk]
  refine h.set k (by rw [letTo_len]; exact hk) _ _ ?_
  unfold let1
  rw [hd]; rfl
theorem let_back {w : World} {b : Nat} {P : Program} (l : List UInt8) (k n cap : Nat) (src dst e : TypeId) (h : Oct.BytesAt w b (letTo l k)) (hk : l.length ≤ k) (hn : n = l.length)
    (hs : P.underlying src = some (.slice e)) (he : P.underlying e = some (.int .u8)) (hd : P.underlying dst = some .string) :
    (convert src dst (.slice (some ⟨b, 0, none⟩) n cap)).run P w = .ok (.string (bA (lets l))) w := by
  rw [letTo_all _ k hk] at h
  subst hn
  have := run_convert_bytes_back (P := P) w src dst e ⟨b, 0, none⟩ cap (lets l) hs he hd (fun j hj => by
    have e : (⟨b, 0, none⟩ : Addr).add j = ⟨b, j, none⟩ := by simp [Addr.add]; omega
    rw [e]
    exact (h j hj).1)
  rw [lets_len] at this
  exact this
end Cm
set_option maxHeartbeats 2000000 in
set_option maxRecDepth 20000 in
theorem cmDomain_core (l : List UInt8) (n cap : Nat) (C : Array Value) (w : World) (hn : n = l.length) (hs : l.length ≤ 100000000) (hlow : ∀ b ∈ l, Oct.low1 b = b)
    (hconv : (convert 9 78 (.string (bA l))).run Tryz.prog w = .ok (.slice (some ⟨w.heap.size, 0, none⟩) n cap) (w.drew.alloc (.cells C 5 (C.size, C.size + 1))))
    (hB : Oct.BytesAt (w.alloc (.cells C 5 (C.size, C.size + 1))) w.heap.size l) :
    Calls Tryz.prog 97 #[.string (bA l)] w fun e w' => e = .returned (.bool (Hst.domB l)) ∧ Below w.heap.size w w' := by
  subst hn
  have hpar := fun W => parse_any (bA (Cm.lets l)) W (by rw [bA_size, Cm.lets_len]; unfold maxLen; omega)
  have hdom : (Hst.parse (Cm.lets l)).isSome = Hst.domB l := Cm.dom_host hlow
  obtain ⟨H, hH⟩ : ∃ H, Hst.parse (Cm.lets l) = H := ⟨_, rfl⟩
  have hpar2 : ∀ W, Calls Tryz.prog 84 #[.string (bA (Cm.lets l))] W fun e w' => e = .returned (parseV H) ∧ Below W.heap.size W w' := fun W => by have := hpar W; rw [show Hst.parse (bA (Cm.lets l)).data.toList = Hst.parse (Cm.lets l) from rfl, hH] at this; exact this
  rw [hH] at hdom
  rw [← hdom]
  have HP := Lib.hid hpar2
  clear hpar hpar2 hdom hH hlow
  have hbk := fun W b k (hb : Oct.BytesAt W b (Cm.letTo l k)) (hk : l.length ≤ k) => Cm.let_back (P := Tryz.prog) l k l.length cap 78 9 5 hb hk rfl Tryz.underlying78 Tryz.underlying5 Tryz.underlying9
  have HBK := Lib.hid hbk
  clear hbk
  go_enter Tryz.func97, Tryz.ntmps97
  go_wp2
  clear hconv
  go_loopw [11] (fun i wr => ∃ k : Nat, k ≤ l.length ∧ i = .int .i64 k ∧ Oct.BytesAt wr w.heap.size (Cm.letTo l k) ∧ Below w.heap.size w wr) (fun i _ => l.length - (intOf i).toNat)
  case atStart => exact ⟨0, Nat.zero_le _, rfl, by rw [Cm.letTo_zero]; exact hB, ((Below.refl _ _).alloc (Nat.le_refl _) _).drew⟩
  case round =>
    obtain ⟨k, hk, rfl, hbs, hbel⟩ := hrel
    clear hB
    by_cases hlt : k < l.length
    · have hlt2 : k < l.length := by omega
      obtain ⟨hcell, hfro⟩ := Cm.let_look hbs hlt2
      have hkeep := fun h => Cm.let_keep hbs hlt2 h
      have hturn := fun h => Cm.let_turn hbs hlt2 h
      have c2 := fun W => cmDigit_any (l[k].toNat : Int) W
      obtain ⟨b, hb⟩ : ∃ b, digitI (l[k].toNat : Int) = b := ⟨_, rfl⟩
      rw [hb] at c2 hkeep hturn
      obtain ⟨x, hx⟩ : ∃ x : Int, (l[k].toNat : Int) = x := ⟨_, rfl⟩
      rw [hx] at hcell c2
      have C2 := Lib.hid c2; have HK := Lib.hid hkeep; have HT := Lib.hid hturn; have HB := Lib.hid hbel
      clear c2 hkeep hturn hb hx hbs hbel
      cases b with
      | true =>
        have HN := Lib.hid (HT.out rfl)
        go_wp2_with fail
        refine (C2.out _).mono ?_
        rintro e w1 ⟨rfl, rfl⟩
        go_wp2_with fail
        exact ⟨⟨k + 1, by omega, by go_num, HN.out, HB.out.setCell (Nat.le_refl _) _⟩, by simp [intOf]; omega⟩
      | false =>
        have HN := Lib.hid (HK.out rfl)
        go_wp2_with fail
        refine (C2.out _).mono ?_
        rintro e w1 ⟨rfl, rfl⟩
        go_wp2_with fail
        exact ⟨⟨k + 1, by omega, by go_num, HN.out, HB.out⟩, by simp [intOf]; omega⟩
    · have hback := HBK.out wr w.heap.size k hbs (by omega)
      have HB := Lib.hid hbel
      clear hbs hbel
      cases H with
      | none =>
        unfold parseV hostV errI at HP
        go_wp2_with fail
        refine (HP.out _).mono ?_
        rintro e w1 ⟨rfl, hb1⟩
        have HB1 := Lib.hid (Below.onto HB.out hb1)
        clear hb1 hback
        go_wp2_with fail
        go_ret
        exact ⟨rfl, HB1.out.alloc HB1.out.size _⟩
      | some h =>
        unfold parseV hostV errI at HP
        go_wp2_with fail
        refine (HP.out _).mono ?_
        rintro e w1 ⟨rfl, hb1⟩
        have HB1 := Lib.hid (Below.onto HB.out hb1)
        clear hb1 hback
        go_wp2_with fail
        go_ret
        exact ⟨rfl, HB1.out.alloc HB1.out.size _⟩
theorem cmDomain_any (l : List UInt8) (w : World) (hs : l.length ≤ 100000000) (hlow : ∀ b ∈ l, Oct.low1 b = b) : Calls Tryz.prog 97 #[.string (bA l)] w fun e w' => e = .returned (.bool (Hst.domB l)) ∧ Below w.heap.size w w' :=
  cmDomain_core l (bA l).size _ _ w (bA_size l) hs hlow (run_bytes_of_string w 9 78 5 (bA l) Tryz.underlying9 Tryz.underlying78 Tryz.underlying5) (bytes_new (bA l) w _)
set_option maxHeartbeats 1000000 in
theorem cmHost_any (l : List UInt8) (w : World) (hs : l.length ≤ 100000000) (hlow : ∀ b ∈ l, Oct.low1 b = b) : Calls Tryz.prog 66 #[.string (bA l)] w fun e w' => e = .returned (.bool (Cm.patB l)) ∧ Below w.heap.size w w' := by
  have hl2 : (if begB [42, 46] l then l.drop 2 else l).length ≤ 100000000 := by
    split
    · rw [List.length_drop]; omega
    · exact hs
  have hlo2 : ∀ b ∈ (if begB [42, 46] l then l.drop 2 else l), Oct.low1 b = b := by
    split
    · exact fun b hb => hlow b (List.mem_of_mem_drop hb)
    · exact hlow
  have hd : ∀ W, Calls Tryz.prog 97 #[.string (bA (if begB [42, 46] l then l.drop 2 else l))] W fun e w' => e = .returned (.bool (Hst.domB (if begB [42, 46] l then l.drop 2 else l))) ∧ Below W.heap.size W w' := fun W => cmDomain_any _ W hl2 hlo2
  have ht : ∀ W, Calls Tryz.prog 98 #[.string (bA l), .string ⟨#[42, 46]⟩] W fun e w' => e = .returned (.string (bA (if begB [42, 46] l then l.drop 2 else l))) ∧ W = w' := fun W => by
    refine (Tryz.strings_TrimPrefix (bA l) ⟨#[42, 46]⟩ W).mono ?_
    rintro e w' ⟨rfl, rfl⟩
    refine ⟨?_, rfl⟩
    rw [Lib.trimPrefix, hasPrefix_eq]
    rfl
  rw [Cm.pat_code]
  obtain ⟨r, hr⟩ : ∃ r, (if begB [42, 46] l then l.drop 2 else l) = r := ⟨_, rfl⟩
  rw [hr] at hd ht ⊢
  obtain ⟨q, hq⟩ : ∃ q, Hst.domB r = q := ⟨_, rfl⟩
  rw [hq] at hd ⊢
  have HD := Lib.hid hd; have HT := Lib.hid ht
  clear hd ht hr hq hlow hl2 hlo2
  cases h1 : l == [42] with
  | true =>
    go_enter Tryz.func66, Tryz.ntmps66
    go_wp2_with fail
    go_ret
    exact ⟨rfl, Below.refl _ _⟩
  | false =>
    go_enter Tryz.func66, Tryz.ntmps66
    go_wp2_with fail
    refine (HT.out _).mono ?_
    rintro e w1 ⟨rfl, rfl⟩
    go_wp2_with fail
    refine (HD.out _).mono ?_
    rintro e w1 ⟨rfl, hb1⟩
    go_wp2_with fail
    go_ret
    exact ⟨rfl, hb1⟩
/-- What a port's text is. -/
def portP (l : List UInt8) : Int × Bool := if l = [42] then (-2, true) else (Oct.numV l 65535, numOk l 65535)
set_option maxHeartbeats 1000000 in
theorem cmPort_any (l : List UInt8) (w : World) (hs : l.length ≤ 100000000) : Calls Tryz.prog 65 #[.string (bA l)] w fun e w' => e = .returned (.tuple #[.int .i64 (portP l).1, .bool (portP l).2]) ∧ w = w' := by
  have hn : ∀ W, Calls Tryz.prog 96 #[.string (bA l), .int .i64 65535] W fun e w' => e = .returned (.tuple #[.int .i64 (Oct.numV l 65535), .bool (numOk l 65535)]) ∧ W = w' := fun W => number_any (bA l) 65535 W (by rw [bA_size]; unfold maxLen; omega) (by decide) (by decide)
  have HN := Lib.hid hn
  clear hn
  unfold portP
  cases h1 : l == [42] with
  | true =>
    rw [if_pos (beq_iff_eq.1 h1)]
    go_enter Tryz.func65, Tryz.ntmps65
    go_wp2_with fail
    go_ret2
    exact ⟨rfl, rfl⟩
  | false =>
    rw [if_neg (beq_eq_false_iff_ne.1 h1)]
    go_enter Tryz.func65, Tryz.ntmps65
    go_wp2_with fail
    refine (HN.out _).mono ?_
    rintro e w1 ⟨rfl, rfl⟩
    go_wp2_with fail
    go_ret2
    exact ⟨rfl, rfl⟩
end Go.Proofs.YtinjkpbpkedfnaaGreatDoor
