/- The contracts of host.Text and of the document's answer. -/
import Derived.Test.YtehjnidggnfbfaaDoorHostParse
import Derived.Laws.BitsAll
import Derived.Lib.Join
namespace Go.Proofs.YtehjnidggnfbfaaDoor
open Go.RowKit

/-- The library's table of powers of ten is what it is. -/
def Tab (w : World) : Prop := Lib.TabIs Tryd.prog w "internal/strconv.uint64pow10" .u64 Lib.pow10Tab
theorem Tab.below {w w' : World} (h : Tab w) (hb : Below w.heap.size w w') : Tab w' := by
  unfold Tab Lib.TabIs World.var? at *
  cases hg : Tryd.prog.globalNamed "internal/strconv.uint64pow10" with
  | none => rw [hg] at h; cases h
  | some g =>
    rw [hg] at h
    simp only [Option.bind_some] at h ⊢
    have hlt : g < w.heap.size := by
      rcases Nat.lt_or_ge g w.heap.size with hlt | hge
      · exact hlt
      · rw [Array.getElem?_eq_none hge] at h; cases h
    rw [hb.block g hlt]; exact h
theorem below_grow (w : World) (k : Nat) (os : Array Obj) : Below w.heap.size w (Go.Sort.grow (w.drewN k) os) := by
  refine ⟨rfl, rfl, rfl, ?_, fun i hi => ?_⟩
  · show w.heap.size ≤ (w.heap ++ os).size
    simp
  · show (w.heap ++ os)[i]? = w.heap[i]?
    rw [Array.getElem?_append_left hi]
theorem itoa_any (n : Int) (w : World) (h0 : 0 ≤ n) (h1 : n ≤ 255) (hT : Tab w) : Calls Tryd.prog 28 #[.int .i64 n] w fun e w' => e = .returned (.string ⟨(Lib.itoa n).toArray⟩) ∧ Below w.heap.size w w' :=
  (Tryd.strconv_Itoa n (by omega) (by omega) w hT).mono (by rintro e w' ⟨rfl, k, os, rfl⟩; exact ⟨rfl, below_grow w k os⟩)

def quadI (a : Int) : List Int := [a / 16777216, a / 65536 % 256, a / 256 % 256, a % 256]
def quad (a : Int) : List (List UInt8) := (quadI a).map Lib.itoa
def textL (h : Hst.Host) : List UInt8 := if h.v4 then Oct.join 46 (quad h.addr) else h.name

theorem and255 (x : Int) (h0 : 0 ≤ x) (h1 : x ≤ 4294967295) : bits .and .u32 x 255 = x % 256 := by
  obtain ⟨n, rfl⟩ := Int.eq_ofNat_of_zero_le h0
  have h := u32_and_nat n 255 (by omega) (by omega)
  have e : n &&& 255 = n % 256 := by
    have := Nat.and_two_pow_sub_one_eq_mod n 8
    simpa using this
  rw [e] at h
  have e2 : ((255 : Nat) : Int) = 255 := rfl
  rw [e2] at h
  rw [h]
  omega

theorem owns_keep {w w' : World} {base : Nat} {v : Value} {k : Nat} {xs : List Value} (h : w.ownsRow base 9 1 v k xs) (hb : Below w.heap.size w w') : w'.ownsRow base 9 1 v k xs :=
  h.kept (row := none) ⟨hb.os, hb.tape, hb.output, hb.size, fun i hi _ => hb.block i hi⟩ (by cases hv : v.ownBlock <;> simp)
theorem join_lib (ps : List (List UInt8)) : Lib.join ps [46] = Oct.join 46 ps := by
  induction ps with
  | nil => rfl
  | cons p r ih =>
    cases r with
    | nil => rw [Lib.join_one]; rfl
    | cons q r => 
      rw [Lib.join_cons]
      rw [Lib.join_cons] at ih
      show _ = p ++ 46 :: Oct.join 46 (q :: r)
      rw [← ih]
      simp [Lib.joinTail]
theorem join_count : ∀ ps : List (List UInt8), ps.length ≤ (Oct.join 46 ps).length + 1
  | [] => by simp
  | [p] => by simp
  | p :: q :: r => by
    have := join_count (q :: r)
    simp only [Oct.join, List.length_append, List.length_cons] at this ⊢
    omega
theorem owns_view2 {w : World} {base : Nat} {v : Value} {ps : List (List UInt8)} (h : w.ownsRow base 9 1 v ps.length (ps.map Oct.strV)) :
    (v = .slice none 0 0 ∧ ps = []) ∨ ∃ g cap, v = .slice (some ⟨g, 0, none⟩) ps.length cap ∧ ps.length ≤ cap ∧ g < w.heap.size ∧ base ≤ g ∧ ∀ i (h : i < ps.length), w.cell? ⟨g, i, none⟩ = some (Oct.strV ps[i]) := by
  have hc := h
  obtain ⟨_, ⟨h1, h2⟩ | ⟨g, cap, cur, rfl, hb, hg, h3, h4, h5, h6⟩⟩ := h
  · exact .inl ⟨h1, List.length_eq_zero_iff.1 h2⟩
  · refine .inr ⟨g, cap, rfl, h3, lt_of_block hg, hb, fun i hi => ?_⟩
    have := World.ownsRow.cells hc (g := g) rfl i (Oct.strV ps[i]) (by simp [hi])
    rw [← this]; congr 1; simp [Addr.add]
/-- strings.Join with a point between, of texts that lie somewhere. -/
theorem join_any (g o cap : Nat) (ps : List (List UInt8)) (w : World) (hcells : ∀ i (h : i < ps.length), w.cell? ⟨g, o + i, none⟩ = some (Oct.strV ps[i])) (hg : g < w.heap.size) (hcap : ps.length ≤ cap) (hlen : (Oct.join 46 ps).length ≤ 1048576) :
    Calls Tryd.prog 41 #[.slice (some ⟨g, o, none⟩) ps.length cap, .string ⟨#[46]⟩] w fun e w' => e = .returned (.string ⟨(Oct.join 46 ps).toArray⟩) ∧ Below w.heap.size w w' := by
  have hm : (ps.map fun p => (⟨p.toArray⟩ : ByteArray)).map (·.data.toList) = ps := by
    rw [List.map_map]
    exact List.map_id' ps
  have hjo : Lib.join ((ps.map fun p => (⟨p.toArray⟩ : ByteArray)).map (·.data.toList)) (⟨#[46]⟩ : ByteArray).data.toList = Oct.join 46 ps := by rw [hm]; exact join_lib ps
  have hpl : ps.length ≤ (Oct.join 46 ps).length + 1 := join_count ps
  have h := Tryd.strings_Join g o cap (ps.map fun p => (⟨p.toArray⟩ : ByteArray)) ⟨#[46]⟩ w (fun j x hx => by
    rw [List.getElem?_map] at hx
    by_cases hj : j < ps.length
    · rw [List.getElem?_eq_getElem hj] at hx
      simp only [Option.map_some, Option.some.injEq] at hx
      rw [hcells j hj, ← hx]; rfl
    · rw [List.getElem?_eq_none (by omega)] at hx; cases hx) hg (by simp; omega) (by simpa using hcap) (by rw [hjo]; omega)
  rw [hjo, List.length_map] at h
  exact h
theorem itoa_len (x : Int) (h0 : 0 ≤ x) (h1 : x ≤ 255) : (Lib.itoa x).length ≤ 3 := by
  have : ∀ n : Fin 256, (Lib.itoa (n.val : Int)).length ≤ 3 := by decide +kernel
  have h := this ⟨x.toNat, by omega⟩
  rwa [show ((x.toNat : Nat) : Int) = x by omega] at h
theorem quad_join (a : Int) (a0 : 0 ≤ a) (a1 : a ≤ 4294967295) : (Oct.join 46 (quad a)).length ≤ 15 := by
  have h1 := itoa_len (a / 16777216) (by omega) (by omega)
  have h2 := itoa_len (a / 65536 % 256) (by omega) (by omega)
  have h3 := itoa_len (a / 256 % 256) (by omega) (by omega)
  have h4 := itoa_len (a % 256) (by omega) (by omega)
  simp only [quad, quadI, List.map_cons, List.map_nil, Oct.join, List.length_append, List.length_cons]
  omega
/-- What a round keeps: the texts of the numbers that have come. -/
structure TxInv (w wr : World) (xs : List Int) (k : Nat) (v : Value) : Prop where
  bel : Below w.heap.size w wr
  own : wr.ownsRow w.heap.size 9 1 v k (((xs.take k).map Lib.itoa).map Oct.strV)
theorem TxInv.tab {w wr : World} {xs : List Int} {k : Nat} {v : Value} (h : TxInv w wr xs k v) (hT : Tab w) : Tab wr := hT.below h.bel

theorem index4 (x0 x1 x2 x3 : Int) (k : Nat) (hk : k < 4) (w : World) : (Instr.index 71 (.agg #[.int .u32 x0, .int .u32 x1, .int .u32 x2, .int .u32 x3]) (.int .i64 (k : Int))).run Tryd.prog w = .ok (.int .u32 ([x0, x1, x2, x3].getD k 0)) w := by
  have h : k = 0 ∨ k = 1 ∨ k = 2 ∨ k = 3 := by omega
  have i0 : ∀ w : World, (Instr.index 71 (.agg #[.int .u32 x0, .int .u32 x1, .int .u32 x2, .int .u32 x3]) (.int .i64 0)).run Tryd.prog w = .ok (.int .u32 x0) w := fun _ => by kernel_rfl
  have i1 : ∀ w : World, (Instr.index 71 (.agg #[.int .u32 x0, .int .u32 x1, .int .u32 x2, .int .u32 x3]) (.int .i64 1)).run Tryd.prog w = .ok (.int .u32 x1) w := fun _ => by kernel_rfl
  have i2 : ∀ w : World, (Instr.index 71 (.agg #[.int .u32 x0, .int .u32 x1, .int .u32 x2, .int .u32 x3]) (.int .i64 2)).run Tryd.prog w = .ok (.int .u32 x2) w := fun _ => by kernel_rfl
  have i3 : ∀ w : World, (Instr.index 71 (.agg #[.int .u32 x0, .int .u32 x1, .int .u32 x2, .int .u32 x3]) (.int .i64 3)).run Tryd.prog w = .ok (.int .u32 x3) w := fun _ => by kernel_rfl
  rcases h with rfl | rfl | rfl | rfl
  · exact i0 w
  · exact i1 w
  · exact i2 w
  · exact i3 w
theorem get4 (x0 x1 x2 x3 : Int) (k : Nat) (hk : k < 4) (l0 : 0 ≤ x0 ∧ x0 ≤ 255) (l1 : 0 ≤ x1 ∧ x1 ≤ 255) (l2 : 0 ≤ x2 ∧ x2 ≤ 255) (l3 : 0 ≤ x3 ∧ x3 ≤ 255) : ∃ x, [x0, x1, x2, x3].getD k 0 = x ∧ 0 ≤ x ∧ x ≤ 255 ∧ [x0, x1, x2, x3].take (k + 1) = [x0, x1, x2, x3].take k ++ [x] := by
  match k, hk with
  | 0, _ => exact ⟨x0, rfl, l0.1, l0.2, rfl⟩
  | 1, _ => exact ⟨x1, rfl, l1.1, l1.2, rfl⟩
  | 2, _ => exact ⟨x2, rfl, l2.1, l2.2, rfl⟩
  | 3, _ => exact ⟨x3, rfl, l3.1, l3.2, rfl⟩

set_option maxHeartbeats 1000000 in
set_option maxRecDepth 100000 in
theorem text_any (n : ByteArray) (b : Bool) (a : Int) (w : World) (hT : Tab w) (a0 : 0 ≤ a) (a1 : a ≤ 4294967295) : Calls Tryd.prog 27 #[.agg #[.string n, .bool b, .int .u32 a]] w fun e w' => e = .returned (.string ⟨(textL ⟨n.data.toList, b, a⟩).toArray⟩) ∧ Below w.heap.size w w' := by
  cases b with
  | false =>
    go_enter Tryd.func27, Tryd.ntmps27
    go_wp2_with fail
    go_ret
    exact ⟨rfl, (Below.refl _ _).alloc (Nat.le_refl _) _⟩
  | true =>
    obtain ⟨i0, hi, hz0, hz1, hz2⟩ := info_parts info_string
    have HI := Lib.hid hi; have HZ0 := Lib.hid hz0; have HZ1 := Lib.hid hz1; have HZ2 := Lib.hid hz2
    clear hi hz0 hz1 hz2
    go_enter Tryd.func27, Tryd.ntmps27
    go_wp2_with fail
    rw [and255 (a / 65536) (by omega) (by omega), and255 (a / 256) (by omega) (by omega), and255 a a0 a1]
    obtain ⟨x0, hx0⟩ : ∃ x, a / 16777216 = x := ⟨_, rfl⟩
    obtain ⟨x1, hx1⟩ : ∃ x, a / 65536 % 256 = x := ⟨_, rfl⟩
    obtain ⟨x2, hx2⟩ : ∃ x, a / 256 % 256 = x := ⟨_, rfl⟩
    obtain ⟨x3, hx3⟩ : ∃ x, a % 256 = x := ⟨_, rfl⟩
    have l0 : 0 ≤ x0 ∧ x0 ≤ 255 := by omega
    have l1 : 0 ≤ x1 ∧ x1 ≤ 255 := by omega
    have l2 : 0 ≤ x2 ∧ x2 ≤ 255 := by omega
    have l3 : 0 ≤ x3 ∧ x3 ≤ 255 := by omega
    have hq : quad a = [x0, x1, x2, x3].map Lib.itoa := by unfold quad quadI; rw [hx0, hx1, hx2, hx3]
    rw [hx0, hx1, hx2, hx3]
    have HQ := Lib.hid hq
    clear hx0 hx1 hx2 hx3 hq
    go_loopw [4, 28] (fun v i wr => ∃ k : Nat, k ≤ 4 ∧ i = .int .i64 k ∧ TxInv w wr [x0, x1, x2, x3] k v) (fun _ i _ => 4 - (intOf i).toNat)
    case atStart => exact ⟨0, by omega, rfl, ((Below.refl _ _).alloc (Nat.le_refl _) _).alloc (by simp) _, World.ownsRow_nil _ _ _ _⟩
    case round =>
      obtain ⟨k, hk, rfl, hin⟩ := hrel
      by_cases hlt : k < 4
      · have hTr := Lib.hid (hin.tab hT)
        obtain ⟨hbel, hown⟩ := hin
        obtain ⟨x, hx, y0, y1, htk⟩ := get4 x0 x1 x2 x3 k hlt l0 l1 l2 l3
        have hix := index4 x0 x1 x2 x3 k hlt
        rw [hx] at hix
        have HTK := Lib.hid htk
        clear hx htk
        have hsz := hbel.size
        go_wp2_with fail
        refine (itoa_any x wr y0 y1 hTr.out).mono ?_
        rintro e w1 ⟨rfl, hb1⟩
        clear hix
        have hown1 := owns_keep hown hb1
        have hbel1 := Below.trans hbel (hb1.mono hsz)
        have hsz1 := hbel1.size
        clear hown hbel
        go_wp2_with (at_builtin; refine wpList_append_own _ rfl _ _ 27 rfl w.heap.size 9 i0 (.string ⟨#[]⟩) 1 16 Tryd.underlying27 HI.out HZ0.out HZ1.out HZ2.out rfl (by decide) _ _ _ rfl (hown1.alloc _) ⟨w1.heap.size, 0, none⟩ 1 1 [.string ⟨(Lib.itoa x).toArray⟩] rfl rfl ?c1 ?c2 ?c3 ?c4 ?c5 ?_)
        case c1 =>
          intro j u hj
          match j, hj with
          | 0, hj => simp at hj; subst hj; simp [Addr.add]
        case c2 => intro u hu; simp at hu; subst hu; rfl
        case c3 => unfold maxLen; omega
        case c4 => omega
        case c5 => simp; omega
        · intro v' w2 hown' hgrow _
          have hD : TxInv w w2 [x0, x1, x2, x3] (k + 1) v' := ⟨(hbel1.alloc hsz1 _).grown hgrow (by simp; omega) (fun g hg => (hown1.lt g hg).1), by rw [HTK.out]; simpa [Oct.strV] using hown'⟩
          clear hown' hgrow hown1 hbel1
          go_wp2_with fail
          go_roundw
          case rel => exact ⟨k + 1, by omega, by go_num, hD⟩
          case measure => simp [intOf]; omega
      · obtain rfl : k = 4 := by omega
        obtain ⟨hbel, hown⟩ := hin
        rw [show [x0, x1, x2, x3].take 4 = [x0, x1, x2, x3] from rfl, ← HQ.out] at hown
        have hql : (quad a).length = 4 := rfl
        have hj := quad_join a a0 a1
        rcases owns_view2 hown with ⟨rfl, h0⟩ | ⟨g, cap, rfl, hcap, hg, _, hcells⟩
        · exfalso; rw [h0] at hql; cases hql
        have hcall : Calls Tryd.prog 41 #[.slice (some ⟨g, 0, none⟩) 4 cap, .string ⟨#[46]⟩] wr fun e w' => e = .returned (.string ⟨(Oct.join 46 (quad a)).toArray⟩) ∧ Below wr.heap.size wr w' :=
          join_any g 0 cap (quad a) wr (fun i h => by rw [Nat.zero_add]; exact hcells i h) hg hcap (by omega)
        have HJ := Lib.hid hcall
        clear hcells hcall hown hql hcap
        go_wp2_with fail
        refine HJ.out.mono ?_
        rintro e w1 ⟨rfl, hb1⟩
        go_wp2_with fail
        go_ret
        exact ⟨rfl, hbel.trans (hb1.mono hbel.size)⟩
end Go.Proofs.YtehjnidggnfbfaaDoor
