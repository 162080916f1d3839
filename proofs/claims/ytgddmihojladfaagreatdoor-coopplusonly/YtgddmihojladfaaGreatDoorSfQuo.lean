/- The contract of a reader's quotation. -/
import Derived.Test.YtgddmihojladfaaGreatDoorSfNum
import Derived.Laws.IdiomStrings
import Derived.Deep.LoopGhost
import Derived.Maps.AppendAt
namespace Go.Proofs.YtgddmihojladfaaGreatDoor
open Go.RowKit Go.Shelf Go.Deep

def byteV (x : UInt8) : Value := .int .u8 (x.toNat : Int)
/-- What a text between quotes comes to, some of it read already. -/
def qpre (out rest : List UInt8) : Option (List UInt8 × List UInt8) := (Sf.quo rest).map fun x => (out ++ x.1, x.2)
theorem qpre_end (out t : List UInt8) : qpre out (34 :: t) = some (out, t) := by unfold qpre; rw [Sf.quo_cons, if_pos rfl]; simp
theorem qpre_nil (out : List UInt8) : qpre out [] = none := by unfold qpre; rw [Sf.quo]; rfl
theorem qpre_bad {c : UInt8} (out t : List UInt8) (h1 : c ≠ 34) (h2 : Sf.prI c.toNat = false) : qpre out (c :: t) = none := by unfold qpre; rw [Sf.quo_cons, if_neg h1, h2]; rfl
theorem qpre_step {c : UInt8} (out t : List UInt8) (h1 : c ≠ 34) (h2 : Sf.prI c.toNat = true) (h3 : c ≠ 92) : qpre out (c :: t) = qpre (out ++ [c]) t := by
  unfold qpre; rw [Sf.quo_cons, if_neg h1, if_pos h2, if_neg h3]
  cases Sf.quo t <;> simp
theorem qpre_esc0 (out : List UInt8) : qpre out [92] = none := by unfold qpre; rw [Sf.quo_cons, if_neg (by decide), if_pos (by decide), if_pos rfl]; rfl
theorem qpre_esc {d : UInt8} (out t : List UInt8) (h : d = 34 ∨ d = 92) : qpre out (92 :: d :: t) = qpre (out ++ [d]) t := by
  unfold qpre; rw [Sf.quo_cons, if_neg (by decide), if_pos (by decide), if_pos rfl]
  simp only [h, if_true]
  cases Sf.quo t <;> simp
theorem qpre_escno {d : UInt8} (out t : List UInt8) (h : ¬ (d = 34 ∨ d = 92)) : qpre out (92 :: d :: t) = none := by
  unfold qpre; rw [Sf.quo_cons, if_neg (by decide), if_pos (by decide), if_pos rfl]
  simp only [h, if_false]; rfl
theorem g_row {a b c : World} {row row' : Option Nat} (h : a.grownBy b row) (k : b.grownBy c row') (hr : ∀ j, row' = some j → a.heap.size ≤ j) : a.grownBy c row :=
  ⟨k.os.trans h.os, k.tape.trans h.tape, k.output.trans h.output, Nat.le_trans h.size k.size, fun i hi hn => (k.block i (Nat.lt_of_lt_of_le hi h.size) (fun e => by have := hr i e.symm; omega)).trans (h.block i hi hn)⟩

def QInv (w : World) (b : Nat) (r : List UInt8) (k : Nat) (v : Value) (wr : World) : Prop := ∃ out rest : List UInt8, rest.length = k ∧ out.length + rest.length ≤ r.length ∧ wr.ownsRow (w.heap.size + 1) 5 1 v out.length (out.map byteV) ∧ Rd b rest wr ∧ CBox wr w.heap.size 111 zC ∧ w.grownBy wr (some b) ∧ w.heap.size + 1 ≤ wr.heap.size ∧ qpre out rest = Sf.quo r
theorem info_u8 : (Tryz.prog.info? 5).map (fun i => (i.zero, i.size, i.bytes)) = some (some (.int .u8 0), 1, 1) := by kernel_rfl
theorem not_own {w : World} {base : Nat} {e : TypeId} {v : Value} {n b : Nat} {xs : List Value} (h : w.ownsRow base e 1 v n xs) (hb : b < base) : v.ownBlock = none ∨ v.ownBlock ≠ some b := by
  cases hv : v.ownBlock with
  | none => exact .inl rfl
  | some k => exact .inr (by intro e; have := (h.lt k hv).1; cases e; omega)
theorem own_ne {w : World} {base : Nat} {e : TypeId} {v : Value} {n b : Nat} {xs : List Value} (h : w.ownsRow base e 1 v n xs) (hb : b < base) : some b ≠ v.ownBlock := by
  intro e; have := (h.lt b e.symm).1; omega
theorem convert_nil (w : World) : (convert 61 9 (.slice none 0 0)).run Tryz.prog w = .ok (.string ⟨#[]⟩) w := by kernel_rfl
theorem bytes_string {w : World} {base : Nat} {v : Value} {l : List UInt8} (h : w.ownsRow base 5 1 v l.length (l.map byteV)) : (convert 61 9 v).run Tryz.prog w = .ok (.string (bA l)) w := by
  have hc := h
  obtain ⟨_, ⟨h1, h2⟩ | ⟨g, cap, cur, rfl, hb, hg, h3, h4, h5, h6⟩⟩ := h
  · obtain rfl : l = [] := List.length_eq_zero_iff.1 h2
    subst h1
    exact convert_nil w
  · refine run_convert_bytes_back w 61 9 5 ⟨g, 0, none⟩ cap l Tryz.underlying61 Tryz.underlying5 Tryz.underlying9 (fun j hj => ?_)
    exact World.ownsRow.cells hc (g := g) rfl j (byteV l[j]) (by simp [hj])
theorem slice_is {w : World} {base : Nat} {e : TypeId} {v : Value} {n : Nat} {xs : List Value} (h : w.ownsRow base e 1 v n xs) : ∃ a cap, v = .slice a n cap := by
  obtain ⟨_, ⟨h1, h2⟩ | ⟨g, cap, _, hv, _⟩⟩ := h
  · exact ⟨none, 0, by rw [h1, h2]⟩
  · exact ⟨_, _, hv⟩
def quoOf (r : List UInt8) : Option (Sf.Par × List UInt8) := (Sf.quo r).map fun x => (Sf.kv 3 0 x.1, x.2)

set_option maxHeartbeats 2000000 in
theorem quotation_any (b : Nat) (r : List UInt8) (w : World) (hR : Rd b (34 :: r) w) (hs : r.length ≤ 140737488355300) : Calls Tryz.prog 111 #[.pointer (some ⟨b, 0, none⟩)] w (Got b w (mapV (quoOf r))) := by
  have hlt := hR.lt
  have H := Lib.hid (skip_yes b 34 34 rfl r _ (hR.alloc (.cells zC 111)))
  have hb := Lib.hid (CBox.new w 111 zC)
  clear hR
  obtain ⟨o, ho⟩ : ∃ o, mapV (quoOf r) = o := ⟨_, rfl⟩
  rw [ho]
  have HO := Lib.hid ho
  clear ho
  obtain ⟨i0, hi, hz0, hz1, hz2⟩ := info_parts info_u8
  have HI := Lib.hid hi; have HZ0 := Lib.hid hz0; have HZ1 := Lib.hid hz1; have HZ2 := Lib.hid hz2
  clear hi hz0 hz1 hz2
  go_enter Tryz.func111, Tryz.ntmps111
  go_wp2_with fail
  refine H.out.mono ?_
  rintro e w1 ⟨rfl, hR1, hg1⟩
  have hst : QInv w b r r.length (.slice none 0 0) w1 := ⟨[], r, rfl, by simp, World.ownsRow_nil _ _ _ _, hR1, hb.out.kept hg1 (by simp; omega), g_trans (World.grownBy_alloc w _ _) hg1, by have := hg1.size; simpa using this, by unfold qpre; cases Sf.quo r <;> simp⟩
  have HS := Lib.hid hst
  clear hst hR1 hg1 hb H
  go_wp2_with fail
  go_loopg [3] r.length (fun k v wr => QInv w b r k v wr)
  case atStart => exact HS.out
  case round =>
    obtain ⟨out, rest, hk, hlen, hown, hR, hb, hg, hsz, hq⟩ := hrel
    obtain ⟨va, vc, rfl⟩ := slice_is hown
    have HQ := Lib.hid hq; have HK := Lib.hid hk; have HW := Lib.hid hown; have HB := Lib.hid hb; have HG := Lib.hid hg; have HR := Lib.hid hR
    clear hq hk hown hb hg hR HS
    cases rest with
    | nil =>
      have H1 := Lib.hid (skip_nil b 34 wr HR.out)
      have H2 := Lib.hid (skip_nil b 92 wr HR.out)
      have H3 := Lib.hid (first_no b wr HR.out)
      have hn : o = none := by rw [← HO.out, quoOf, ← HQ.out, qpre_nil]; rfl
      have HN := Lib.hid hn
      clear hn
      go_wp2_with fail
      refine H1.out.mono ?_
      rintro e w2 ⟨rfl, rfl⟩
      go_wp2_with fail
      refine H2.out.mono ?_
      rintro e w2 ⟨rfl, rfl⟩
      go_wp2_with fail
      refine H3.out.mono ?_
      rintro e w2 ⟨rfl, rfl⟩
      go_wp2_with fail
      refine ⟨rfl, ?_⟩
      rw [HN.out]
      exact Got.no HG.out
    | cons c t =>
      by_cases h34 : c = 34
      · subst h34
        have H1 := Lib.hid (skip_yes b 34 34 rfl t wr HR.out)
        have hn : o = some (valV (Sf.kv 3 0 out), t) := by rw [← HO.out, quoOf, ← HQ.out, qpre_end]; rfl
        have HN := Lib.hid hn
        clear hn
        go_wp2_with fail
        refine H1.out.mono ?_
        rintro e w2 ⟨rfl, hR2, hg2⟩
        have hown2 := HW.out.kept hg2 (not_own HW.out (by omega))
        have hcv := bytes_string hown2
        have hb2 := HB.out.kept hg2 (by simp; omega)
        obtain ⟨c0, c1, c2, f0, f1, f2⟩ := hb2.all3
        have HB2 := Lib.hid hb2
        have HG2 := Lib.hid (g_trans HG.out hg2)
        clear hb2 hg2 hown2
        go_wp2_with fail
        rw [HN.out]
        refine bodyPost_ret (results_val (x := Sf.kv 3 0 out) rfl _ _ rfl (HB2.out.set3 _ _ _)) rfl (Got.ok ?_ ?_)
        · exact g_set3 HG2.out _ _ _ (.inl (Nat.le_refl _))
        · exact hR2.other3 (by omega) _ _ _
      · have H1 := Lib.hid (skip_off b 34 c (byte_ne (c := 34) h34) t wr HR.out)
        go_wp2_with fail
        refine H1.out.mono ?_
        rintro e w2 ⟨rfl, rfl⟩
        by_cases h92 : c = 92
        · subst h92
          have H2 := Lib.hid (skip_yes b 92 92 rfl t wr HR.out)
          go_wp2_with fail
          refine H2.out.mono ?_
          rintro e w2 ⟨rfl, hR2, hg2⟩
          replace HW := Lib.hid (HW.out.kept hg2 (not_own HW.out (by omega)))
          replace HB := Lib.hid (HB.out.kept hg2 (by simp; omega))
          replace HG := Lib.hid (g_trans HG.out hg2)
          have hsz2 := Nat.le_trans hsz hg2.size
          clear hg2 HR hsz
          cases t with
          | nil =>
            have H3 := Lib.hid (first_no b w2 hR2)
            have hn : o = none := by rw [← HO.out, quoOf, ← HQ.out, qpre_esc0]; rfl
            have HN := Lib.hid hn
            clear hn hR2
            go_wp2_with fail
            refine H3.out.mono ?_
            rintro e w3 ⟨rfl, rfl⟩
            go_wp2_with fail
            refine ⟨rfl, ?_⟩
            rw [HN.out]
            exact Got.no HG.out
          | cons d t =>
            have H3 := Lib.hid (first_yes b d t w2 hR2)
            have HR := Lib.hid hR2
            clear hR2
            by_cases hd : d = 34 ∨ d = 92
            · have hpr : Sf.prI d.toNat = true := by rcases hd with rfl | rfl <;> decide
              have hstep := qpre_esc out t hd
              rcases hd with rfl | rfl
              · have HST := Lib.hid hstep
                have HP := Lib.hid (isPrintable_any (((34 : UInt8)).toNat : Int) w2)
                rw [hpr] at HP
                clear hstep hpr
                go_wp2_with (first | (go_at_call 108; refine H3.out.mono ?_; rintro e w3 ⟨rfl, rfl⟩) | (go_at_call 126; refine HP.out.mono ?_; rintro e w3 ⟨rfl, rfl⟩) | (go_at_call 123; refine (need_yes _).mono ?_; rintro e w3 ⟨rfl, rfl⟩) | (at_builtin; go_loud (refine wpList_append_own _ rfl _ _ 61 rfl (w.heap.size + 1) 5 i0 (.int .u8 0) 1 1 Tryz.underlying61 HI.out HZ0.out HZ1.out HZ2.out rfl (by decide) _ _ _ rfl (HW.out.alloc _) ⟨w2.heap.size, 0, none⟩ 1 1 [.int .u8 34] rfl rfl (cell_one_new _ _ _) ?_ ?_ ?_ ?_ ?_)))
                · intro u hu; simp at hu; subst hu; rfl
                · unfold maxLen; simp at hlen; omega
                · simp at hlen; omega
                · simp; omega
                intro v' w4 hown4 hg4 _
                obtain ⟨va4, vc4, rfl⟩ := slice_is hown4
                have hR4 : Rd b (((34 : UInt8)) :: t) w4 := (HR.out.alloc _).kept hg4 (own_ne HW.out (by omega))
                have HB4 := Lib.hid ((HB.out.alloc _).kept hg4 (own_ne HW.out (by omega)))
                have HG4 := Lib.hid (g_row (g_alloc HG.out _) hg4 (fun j hj => by have := (HW.out.lt j hj).1; omega))
                have hs4 := hg4.size
                have HW4 := Lib.hid hown4
                have hc4 := hR4.cell
                have hf4 := hR4.frozen
                have HR4 := Lib.hid hR4
                clear hown4 hg4 hR4
                go_wp2_with fail
                have hx : (bA (((34 : UInt8)) :: t)).extract 1 (t.length + 1) = bA t := by have := Byt.drop_ext (bA (((34 : UInt8)) :: t)) 1; exact this
                rw [hx]
                go_roundg t.length
                case measure => have := HK.out; simp at this; omega
                case rel =>
                  have hs := HR4.out.set t
                  refine ⟨out ++ [(34 : UInt8)], t, rfl, by simp at hlen ⊢; omega, ?_, hs.1, ?_, g_trans HG4.out hs.2, ?_, by rw [← HST.out]; exact HQ.out⟩
                  · have := HW4.out.kept hs.2 (not_own HW4.out (by omega))
                    rw [List.length_append, List.map_append]
                    exact this
                  · exact HB4.out.kept hs.2 (by simp; omega)
                  · have := hs.2.size; simp at hs4; omega
              · have HST := Lib.hid hstep
                have HP := Lib.hid (isPrintable_any (((92 : UInt8)).toNat : Int) w2)
                rw [hpr] at HP
                clear hstep hpr
                go_wp2_with (first | (go_at_call 108; refine H3.out.mono ?_; rintro e w3 ⟨rfl, rfl⟩) | (go_at_call 126; refine HP.out.mono ?_; rintro e w3 ⟨rfl, rfl⟩) | (go_at_call 123; refine (need_yes _).mono ?_; rintro e w3 ⟨rfl, rfl⟩) | (at_builtin; go_loud (refine wpList_append_own _ rfl _ _ 61 rfl (w.heap.size + 1) 5 i0 (.int .u8 0) 1 1 Tryz.underlying61 HI.out HZ0.out HZ1.out HZ2.out rfl (by decide) _ _ _ rfl (HW.out.alloc _) ⟨w2.heap.size, 0, none⟩ 1 1 [.int .u8 92] rfl rfl (cell_one_new _ _ _) ?_ ?_ ?_ ?_ ?_)))
                · intro u hu; simp at hu; subst hu; rfl
                · unfold maxLen; simp at hlen; omega
                · simp at hlen; omega
                · simp; omega
                intro v' w4 hown4 hg4 _
                obtain ⟨va4, vc4, rfl⟩ := slice_is hown4
                have hR4 : Rd b (((92 : UInt8)) :: t) w4 := (HR.out.alloc _).kept hg4 (own_ne HW.out (by omega))
                have HB4 := Lib.hid ((HB.out.alloc _).kept hg4 (own_ne HW.out (by omega)))
                have HG4 := Lib.hid (g_row (g_alloc HG.out _) hg4 (fun j hj => by have := (HW.out.lt j hj).1; omega))
                have hs4 := hg4.size
                have HW4 := Lib.hid hown4
                have hc4 := hR4.cell
                have hf4 := hR4.frozen
                have HR4 := Lib.hid hR4
                clear hown4 hg4 hR4
                go_wp2_with fail
                have hx : (bA (((92 : UInt8)) :: t)).extract 1 (t.length + 1) = bA t := by have := Byt.drop_ext (bA (((92 : UInt8)) :: t)) 1; exact this
                rw [hx]
                go_roundg t.length
                case measure => have := HK.out; simp at this; omega
                case rel =>
                  have hs := HR4.out.set t
                  refine ⟨out ++ [(92 : UInt8)], t, rfl, by simp at hlen ⊢; omega, ?_, hs.1, ?_, g_trans HG4.out hs.2, ?_, by rw [← HST.out]; exact HQ.out⟩
                  · have := HW4.out.kept hs.2 (not_own HW4.out (by omega))
                    rw [List.length_append, List.map_append]
                    exact this
                  · exact HB4.out.kept hs.2 (by simp; omega)
                  · have := hs.2.size; simp at hs4; omega
            · have hn : o = none := by rw [← HO.out, quoOf, ← HQ.out, qpre_escno out t hd]; rfl
              have HN := Lib.hid hn
              have h1 : ((d.toNat : Int) == 34) = false := by rw [beq_eq_false_iff_ne]; exact byte_ne (c := 34) (fun e => hd (.inl e))
              have h2 : ((d.toNat : Int) == 92) = false := by rw [beq_eq_false_iff_ne]; exact byte_ne (c := 92) (fun e => hd (.inr e))
              clear hn hd
              go_wp2_with (first | (go_at_call 108; refine H3.out.mono ?_; rintro e w3 ⟨rfl, rfl⟩) | (go_at_call 123; refine (need_no _).mono ?_; rintro e w3 ⟨rfl, rfl⟩))
              refine ⟨rfl, ?_⟩
              rw [HN.out]
              exact Got.no HG.out
        · have H2 := Lib.hid (skip_off b 92 c (byte_ne (c := 92) h92) t wr HR.out)
          have H3 := Lib.hid (first_yes b c t wr HR.out)
          go_wp2_with fail
          refine H2.out.mono ?_
          rintro e w2 ⟨rfl, rfl⟩
          cases hp : Sf.prI c.toNat with
          | false =>
            have hn : o = none := by rw [← HO.out, quoOf, ← HQ.out, qpre_bad out t h34 hp]; rfl
            have HN := Lib.hid hn
            have HP := Lib.hid (isPrintable_any c.toNat wr)
            rw [hp] at HP
            clear hn hp h34 h92
            go_wp2_with (first | (go_at_call 108; refine H3.out.mono ?_; rintro e w3 ⟨rfl, rfl⟩) | (go_at_call 126; refine HP.out.mono ?_; rintro e w3 ⟨rfl, rfl⟩) | (go_at_call 123; refine (need_no _).mono ?_; rintro e w3 ⟨rfl, rfl⟩))
            refine ⟨rfl, ?_⟩
            rw [HN.out]
            exact Got.no HG.out
          | true =>
            have hstep := qpre_step out t h34 hp h92
            have HST := Lib.hid hstep
            have HP := Lib.hid (isPrintable_any ((c).toNat : Int) wr)
            rw [hp] at HP
            clear hstep hp
            go_wp2_with (first | (go_at_call 108; refine H3.out.mono ?_; rintro e w3 ⟨rfl, rfl⟩) | (go_at_call 126; refine HP.out.mono ?_; rintro e w3 ⟨rfl, rfl⟩) | (go_at_call 123; refine (need_yes _).mono ?_; rintro e w3 ⟨rfl, rfl⟩) | (at_builtin; go_loud (refine wpList_append_own _ rfl _ _ 61 rfl (w.heap.size + 1) 5 i0 (.int .u8 0) 1 1 Tryz.underlying61 HI.out HZ0.out HZ1.out HZ2.out rfl (by decide) _ _ _ rfl (HW.out.alloc _) ⟨wr.heap.size, 0, none⟩ 1 1 [.int .u8 (c.toNat : Int)] rfl rfl (cell_one_new _ _ _) ?_ ?_ ?_ ?_ ?_)))
            · intro u hu; simp at hu; subst hu; rfl
            · unfold maxLen; simp at hlen; omega
            · simp at hlen; omega
            · simp; omega
            intro v' w4 hown4 hg4 _
            obtain ⟨va4, vc4, rfl⟩ := slice_is hown4
            have hR4 : Rd b ((c) :: t) w4 := (HR.out.alloc _).kept hg4 (own_ne HW.out (by omega))
            have HB4 := Lib.hid ((HB.out.alloc _).kept hg4 (own_ne HW.out (by omega)))
            have HG4 := Lib.hid (g_row (g_alloc HG.out _) hg4 (fun j hj => by have := (HW.out.lt j hj).1; omega))
            have hs4 := hg4.size
            have HW4 := Lib.hid hown4
            have hc4 := hR4.cell
            have hf4 := hR4.frozen
            have HR4 := Lib.hid hR4
            clear hown4 hg4 hR4
            go_wp2_with fail
            have hx : (bA ((c) :: t)).extract 1 (t.length + 1) = bA t := by have := Byt.drop_ext (bA ((c) :: t)) 1; exact this
            rw [hx]
            go_roundg t.length
            case measure => have := HK.out; simp at this; omega
            case rel =>
              have hs := HR4.out.set t
              refine ⟨out ++ [c], t, rfl, by simp at hlen ⊢; omega, ?_, hs.1, ?_, g_trans HG4.out hs.2, ?_, by rw [← HST.out]; exact HQ.out⟩
              · have := HW4.out.kept hs.2 (not_own HW4.out (by omega))
                rw [List.length_append, List.map_append]
                exact this
              · exact HB4.out.kept hs.2 (by simp; omega)
              · have := hs.2.size; simp at hs4; omega
end Go.Proofs.YtgddmihojladfaaGreatDoor
