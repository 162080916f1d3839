/- The contract of the document's Words. -/
import Derived.Test.YtcmbckacbdiebaaOctRsplit
namespace Go.Proofs.Ytcmbckacbdiebaa
open Go.RowKit

structure RwInv (w wr : World) (s : ByteArray) (k f : Nat) (v : Value) : Prop where
  bel : Below w.heap.size w wr
  more : ∃ d c, Oct.st Oct.blankI (s.data.toList.take k) = (d, c) ∧ f + c.length = k ∧ wr.ownsRow w.heap.size 9 1 v (d.filter nonE).length ((d.filter nonE).map Oct.strV)
theorem RwInv.no {w wr : World} {s : ByteArray} {k f : Nat} {v : Value} (h : RwInv w wr s k f v) (hk : k < s.size) (hb : Oct.blankI s[k].toNat = false) : RwInv w wr s (k + 1) f v := by
  obtain ⟨hbel, d, c, h1, h2, h3⟩ := h
  refine ⟨hbel, d, c ++ [s[k]], ?_, by simp; omega, h3⟩
  rw [Oct.take_snoc s k hk]
  exact Oct.st_no _ d c _ _ h1 hb
def RwDone (w w1 : World) (s : ByteArray) (k : Nat) (v' : Value) : Prop :=
  Below w.heap.size w w1 ∧ ∃ d c, Oct.st Oct.blankI (s.data.toList.take k) = (d, c) ∧ w1.ownsRow w.heap.size 9 1 v' ((d ++ [c]).filter nonE).length (((d ++ [c]).filter nonE).map Oct.strV)
theorem RwDone.yes {w w' : World} {s : ByteArray} {k : Nat} {v : Value} (h : RwDone w w' s k v) (hk : k < s.size) (hb : Oct.blankI s[k].toNat = true) : RwInv w w' s (k + 1) (k + 1) v := by
  obtain ⟨hbel, d, c, h1, h2⟩ := h
  refine ⟨hbel, d ++ [c], [], ?_, rfl, h2⟩
  rw [Oct.take_snoc s k hk]
  exact Oct.st_yes _ d c _ _ h1 hb
theorem RwDone.fin {w w' : World} {s : ByteArray} {v : Value} (h : RwDone w w' s s.size v) : Below w.heap.size w w' ∧ w'.ownsRow w.heap.size 9 1 v (Oct.words s.data.toList).length ((Oct.words s.data.toList).map Oct.strV) := by
  obtain ⟨hbel, d, c, h1, h2⟩ := h
  rw [Oct.take_all s s.size (Nat.le_refl _)] at h1
  unfold Oct.words
  rw [Oct.split_of _ _ _ _ h1]
  exact ⟨hbel, h2⟩
theorem rw_done {w wr w1 : World} {s : ByteArray} {k f : Nat} {v v' x : Value} {o : Obj} {d : List (List UInt8)} {c : List UInt8} (hbel : Below w.heap.size w wr) (hsz : w.heap.size ≤ wr.heap.size) (h1 : Oct.st Oct.blankI (s.data.toList.take k) = (d, c)) (h2 : f + c.length = k) (hf : f < k)
    (hown : wr.ownsRow w.heap.size 9 1 v (d.filter nonE).length ((d.filter nonE).map Oct.strV)) (hx : x = Oct.strV c) (hown' : w1.ownsRow w.heap.size 9 1 v' ((d.filter nonE).length + 1) ((d.filter nonE).map Oct.strV ++ [x])) (hg : (wr.alloc o).grownBy w1 v.ownBlock) : RwDone w w1 s k v' := by
  refine ⟨(hbel.alloc hsz o).grown hg (by simp; omega) (fun k hk => (hown.lt k hk).1), d, c, h1, ?_⟩
  have he : c.isEmpty = false := by
    cases c with
    | nil => simp at h2; omega
    | cons _ _ => rfl
  have : (d ++ [c]).filter nonE = d.filter nonE ++ [c] := by simp [nonE, he]
  rw [this]
  rw [hx] at hown'
  simpa using hown'
theorem RwInv.skip {w wr : World} {s : ByteArray} {k f : Nat} {v : Value} (h : RwInv w wr s k f v) (hf : ¬ f < k) : RwDone w wr s k v := by
  obtain ⟨hbel, d, c, h1, h2, h3⟩ := h
  have he : c = [] := List.length_eq_zero_iff.1 (by omega)
  subst he
  refine ⟨hbel, d, [], h1, ?_⟩
  have : (d ++ [[]]).filter nonE = d.filter nonE := by simp [nonE]
  rw [this]; exact h3

set_option maxHeartbeats 1000000 in
theorem rwords_any (s : ByteArray) (w : World) (hs : s.size ≤ 8796093022206) : Calls Try.prog 35 #[.string s] w (RetTexts w (Oct.words s.data.toList)) := by
  obtain ⟨i0, hi, hz0, hz1, hz2⟩ := info_parts info_string
  have HI := Lib.hid hi; have HZ0 := Lib.hid hz0; have HZ1 := Lib.hid hz1; have HZ2 := Lib.hid hz2
  clear hi hz0 hz1 hz2
  go_enter Try.func35, Try.ntmps35
  go_wp2_with fail
  go_loopw [3, 4, 5] (fun v fr i wr => ∃ k f : Nat, k ≤ s.size + 1 ∧ f ≤ k ∧ i = .int .i64 k ∧ fr = .int .i64 f ∧ ((k ≤ s.size ∧ RwInv w wr s k f v) ∨ (k = s.size + 1 ∧ RwDone w wr s s.size v))) (fun _ _ i _ => s.size + 1 - (intOf i).toNat)
  case atStart => exact ⟨0, 0, by omega, by omega, rfl, rfl, .inl ⟨by omega, Below.refl _ _, [], [], rfl, rfl, World.ownsRow_nil _ _ _ _⟩⟩
  case round =>
    obtain ⟨k, f, hk, hf, rfl, rfl, hin⟩ := hrel
    rcases hin with ⟨hk2, hin⟩ | ⟨hk2, hdone⟩
    · rcases Nat.lt_or_ge k s.size with hlt | hge
      · have hne : ((k : Int) == (s.size : Int)) = false := by rw [beq_eq_false_iff_ne]; omega
        cases hb : Oct.blankI s[k].toNat with
        | false =>
          go_wp2_with (go_at_call 46; refine (rblank_any _ _).mono ?_; rintro e w' ⟨rfl, rfl⟩)
          go_roundw
          case rel => exact ⟨k + 1, f, by omega, by omega, by go_num, rfl, .inl ⟨by omega, hin.no hlt hb⟩⟩
          case measure => simp [intOf]; omega
        | true =>
          by_cases hfk : f < k
          · obtain ⟨hbel, d, c, h1, h2, hown⟩ := hin
            have hx := Lib.hid (Oct.st_extract _ s k f d c h1 hk2 h2)
            have hl := Oct.st_len _ _ _ _ h1
            have hl2 : (s.data.toList.take k).length ≤ s.size := by simp; omega
            have hl3 := List.length_filter_le nonE d
            have hsz := hbel.size
            have H1 := Lib.hid h1; have H2 := Lib.hid h2
            clear h1 h2
            go_wp2_with (first | (go_at_call 46; refine (rblank_any _ _).mono ?_; rintro e w' ⟨rfl, rfl⟩) | (at_builtin; refine wpList_append_own _ rfl _ _ 24 rfl w.heap.size 9 i0 (.string ⟨#[]⟩) 1 16 Try.underlying24 HI.out HZ0.out HZ1.out HZ2.out rfl (by decide) _ _ _ rfl (hown.alloc _) ⟨wr.heap.size, 0, none⟩ 1 1 [.string (s.extract f k)] rfl rfl ?c1 ?c2 ?c3 ?c4 ?c5 ?_))
            case c1 =>
              intro j u hj
              match j, hj with
              | 0, hj => simp at hj; subst hj; simp [Addr.add]
            case c2 => intro u hu; simp at hu; subst hu; rfl
            case c3 => unfold maxLen; omega
            case c4 => omega
            case c5 => simp; omega
            · intro v' w1 hown' hgrow _
              have hD : RwDone w w1 s k v' := rw_done hbel hsz H1.out H2.out hfk hown hx.out hown' hgrow
              clear hown' hgrow hown hbel
              go_wp2_with fail
              go_roundw
              case rel => exact ⟨k + 1, k + 1, by omega, by omega, by go_num, by go_num, .inl ⟨by omega, hD.yes hlt hb⟩⟩
              case measure => simp [intOf]; omega
          · go_wp2_with (go_at_call 46; refine (rblank_any _ _).mono ?_; rintro e w' ⟨rfl, rfl⟩)
            go_roundw
            case rel => exact ⟨k + 1, k + 1, by omega, by omega, by go_num, by go_num, .inl ⟨by omega, (hin.skip hfk).yes hlt hb⟩⟩
            case measure => simp [intOf]; omega
      · obtain rfl : k = s.size := by omega
        by_cases hfk : f < s.size
        · obtain ⟨hbel, d, c, h1, h2, hown⟩ := hin
          have hx := Lib.hid (Oct.st_extract _ s s.size f d c h1 hk2 h2)
          have hl := Oct.st_len _ _ _ _ h1
          have hl2 : (s.data.toList.take s.size).length ≤ s.size := by simp
          have hl3 := List.length_filter_le nonE d
          have hsz := hbel.size
          have H1 := Lib.hid h1; have H2 := Lib.hid h2
          clear h1 h2
          go_wp2_with (first | (at_builtin; refine wpList_append_own _ rfl _ _ 24 rfl w.heap.size 9 i0 (.string ⟨#[]⟩) 1 16 Try.underlying24 HI.out HZ0.out HZ1.out HZ2.out rfl (by decide) _ _ _ rfl (hown.alloc _) ⟨wr.heap.size, 0, none⟩ 1 1 [.string (s.extract f s.size)] rfl rfl ?e1 ?e2 ?e3 ?e4 ?e5 ?_))
          case e1 =>
            intro j u hj
            match j, hj with
            | 0, hj => simp at hj; subst hj; simp [Addr.add]
          case e2 => intro u hu; simp at hu; subst hu; rfl
          case e3 => unfold maxLen; omega
          case e4 => omega
          case e5 => simp; omega
          · intro v' w1 hown' hgrow _
            have hD : RwDone w w1 s s.size v' := rw_done hbel hsz H1.out H2.out hfk hown hx.out hown' hgrow
            clear hown' hgrow hown hbel
            go_wp2_with fail
            go_roundw
            case rel => exact ⟨s.size + 1, s.size + 1, by omega, by omega, by go_num, by go_num, .inr ⟨rfl, hD⟩⟩
            case measure => simp [intOf]
        · go_wp2_with fail
          go_roundw
          case rel => exact ⟨s.size + 1, s.size + 1, by omega, by omega, by go_num, by go_num, .inr ⟨rfl, hin.skip hfk⟩⟩
          case measure => simp [intOf]
    · go_wp2_with fail
      go_ret
      exact ⟨_, rfl, hdone.fin.1, hdone.fin.2⟩
end Go.Proofs.Ytcmbckacbdiebaa
