/- URLs as values and in memory; the contracts of urlp.Net and of cutScheme. -/
import Derived.Test.YtehjnidggnfbfaaGreatDoorUrlpLeaf
namespace Go.Proofs.YtehjnidggnfbfaaGreatDoor
open Go.RowKit

def uCells (u : Urp.URL) : Array Value := #[.string (bA u.scheme), .string (bA u.host.name), .bool u.host.v4, .int .u32 u.host.addr, .int .i64 u.port, .string (bA u.path), .bool u.hasq, .string (bA u.query), .string (bA u.rest)]
/-- A URL as a value. -/
def urlV (u : Urp.URL) : Value := .agg (uCells u)
def getU (r : Except Int Urp.URL) : Urp.URL := match r with | .ok u => u | .error _ => Urp.zeroU
def errU (r : Except Int Urp.URL) : Int := match r with | .ok _ => 0 | .error e => e
/-- What Parse answers: the URL, and its error's number. -/
def resV (r : Except Int Urp.URL) : Value := .tuple #[urlV (getU r), .int .i64 (errU r)]
/-- What Inner answers. -/
def inV (o : Option Urp.URL) : Value := .tuple #[urlV (o.getD Urp.zeroU), .bool o.isSome]
def cutV (r : Except Int (List UInt8 × List UInt8)) : Value := match r with
  | .ok (s, a) => .tuple #[.string (bA s), .string (bA a), .int .i64 0]
  | .error e => .tuple #[.string ⟨#[]⟩, .string ⟨#[]⟩, .int .i64 e]

/-- A block that holds a URL. -/
def UBox (W : World) (B : Nat) (u : Urp.URL) : Prop := W.heap[B]? = some (.cells (uCells u) 26 (0, 0))
theorem UBox.new (W : World) (u : Urp.URL) : UBox (W.alloc (.cells (uCells u) 26)) W.heap.size u := World.alloc_heap_new W _
theorem UBox.lt {W : World} {B : Nat} {u : Urp.URL} (h : UBox W B u) : B < W.heap.size := (Array.getElem?_eq_some_iff.1 h).1
theorem UBox.below {W W' : World} {B C : Nat} {u : Urp.URL} (h : UBox W B u) (hb : Below C W W') (hC : B < C) : UBox W' B u := (hb.block B hC).trans h
theorem UBox.keep {W W' : World} {B : Nat} {u : Urp.URL} (h : UBox W B u) (hb : Below W.heap.size W W') : UBox W' B u := h.below hb h.lt
theorem UBox.alloc {W : World} {B : Nat} {u : Urp.URL} (h : UBox W B u) (o : Obj) : UBox (W.alloc o) B u := by
  have hl := h.lt
  have h' : W.heap[B]? = _ := h
  unfold UBox
  show (W.heap.push o)[B]? = _
  rw [Array.getElem?_push_lt hl, ← Array.getElem?_eq_getElem hl, h']
theorem UBox.c {W : World} {B : Nat} {u : Urp.URL} (h : UBox W B u) (i : Nat) : W.cell? ⟨B, i, none⟩ = (uCells u)[i]? := by simp [World.cell?, show W.heap[B]? = _ from h]
theorem UBox.fr {W : World} {B : Nat} {u : Urp.URL} (h : UBox W B u) (i : Nat) : W.frozen? ⟨B, i, none⟩ = false := by simp [World.frozen?, show W.heap[B]? = _ from h]
theorem UBox.c0 {W : World} {B : Nat} {u : Urp.URL} (h : UBox W B u) : W.cell? ⟨B, 0, none⟩ = some (.string (bA u.scheme)) := h.c 0
theorem UBox.c1 {W : World} {B : Nat} {u : Urp.URL} (h : UBox W B u) : W.cell? ⟨B, 1, none⟩ = some (.string (bA u.host.name)) := h.c 1
theorem UBox.c2 {W : World} {B : Nat} {u : Urp.URL} (h : UBox W B u) : W.cell? ⟨B, 2, none⟩ = some (.bool u.host.v4) := h.c 2
theorem UBox.c3 {W : World} {B : Nat} {u : Urp.URL} (h : UBox W B u) : W.cell? ⟨B, 3, none⟩ = some (.int .u32 u.host.addr) := h.c 3
theorem UBox.c4 {W : World} {B : Nat} {u : Urp.URL} (h : UBox W B u) : W.cell? ⟨B, 4, none⟩ = some (.int .i64 u.port) := h.c 4
theorem UBox.c5 {W : World} {B : Nat} {u : Urp.URL} (h : UBox W B u) : W.cell? ⟨B, 5, none⟩ = some (.string (bA u.path)) := h.c 5
theorem UBox.c6 {W : World} {B : Nat} {u : Urp.URL} (h : UBox W B u) : W.cell? ⟨B, 6, none⟩ = some (.bool u.hasq) := h.c 6
theorem UBox.c7 {W : World} {B : Nat} {u : Urp.URL} (h : UBox W B u) : W.cell? ⟨B, 7, none⟩ = some (.string (bA u.query)) := h.c 7
theorem UBox.c8 {W : World} {B : Nat} {u : Urp.URL} (h : UBox W B u) : W.cell? ⟨B, 8, none⟩ = some (.string (bA u.rest)) := h.c 8
/-- The nine cells are written anew. -/
def set9 (W : World) (B : Nat) (u : Urp.URL) : World :=
  ((((((((W.setCell ⟨B, 0, none⟩ (.string (bA u.scheme))).setCell ⟨B, 1, none⟩ (.string (bA u.host.name))).setCell ⟨B, 2, none⟩ (.bool u.host.v4)).setCell ⟨B, 3, none⟩ (.int .u32 u.host.addr)).setCell ⟨B, 4, none⟩ (.int .i64 u.port)).setCell ⟨B, 5, none⟩ (.string (bA u.path))).setCell ⟨B, 6, none⟩ (.bool u.hasq)).setCell ⟨B, 7, none⟩ (.string (bA u.query))).setCell ⟨B, 8, none⟩ (.string (bA u.rest))
theorem UBox.set {W : World} {B : Nat} {u : Urp.URL} (h : UBox W B u) (v : Urp.URL) : UBox (set9 W B v) B v := by
  have h' : W.heap[B]? = _ := h
  unfold UBox set9
  simp [World.setCell, Array.getElem?_modify, h', uCells]
theorem UBox.other {W : World} {B C : Nat} {u : Urp.URL} (h : UBox W B u) (v : Urp.URL) (hne : C ≠ B) : UBox (set9 W C v) B u := by
  have h' : W.heap[B]? = _ := h
  unfold UBox set9
  simp [World.setCell, Array.getElem?_modify, h', hne]
theorem below_set9 {W W' : World} {C B : Nat} (h : Below C W W') (hC : C ≤ B) (u : Urp.URL) : Below C W (set9 W' B u) :=
  ((((((((h.setCell (p := ⟨B, 0, none⟩) hC _).setCell (p := ⟨B, 1, none⟩) hC _).setCell (p := ⟨B, 2, none⟩) hC _).setCell (p := ⟨B, 3, none⟩) hC _).setCell (p := ⟨B, 4, none⟩) hC _).setCell (p := ⟨B, 5, none⟩) hC _).setCell (p := ⟨B, 6, none⟩) hC _).setCell (p := ⟨B, 7, none⟩) hC _).setCell (p := ⟨B, 8, none⟩) hC _
theorem size_set9 (W : World) (B : Nat) (u : Urp.URL) : (set9 W B u).heap.size = W.heap.size := by simp [set9, World.setCell]

theorem netV_any (sc hn : ByteArray) (hb : Bool) (ha po : Int) (pa : ByteArray) (hq : Bool) (qu re : ByteArray) (w : World) : Calls Tryz.prog 19 #[.agg #[.string sc, .string hn, .bool hb, .int .u32 ha, .int .i64 po, .string pa, .bool hq, .string qu, .string re]] w fun e w' => e = .returned (.bool (Urp.netB sc.data.toList)) ∧ Below w.heap.size w w' := by
  go_enter Tryz.func19, Tryz.ntmps19
  go_wp2
  · go_ret
    rename_i h
    rw [Lib.toList_data] at h
    refine ⟨Oct.ret_bool ?_, (Below.refl _ _).alloc (Nat.le_refl _) _⟩
    unfold Urp.netB; rw [h]; rfl
  · go_ret
    refine ⟨Oct.ret_bool ?_, (Below.refl _ _).alloc (Nat.le_refl _) _⟩
    rw [Lib.toList_data]; rfl
theorem net_any (u : Urp.URL) (w : World) : Calls Tryz.prog 19 #[urlV u] w fun e w' => e = .returned (.bool (Urp.netB u.scheme)) ∧ Below w.heap.size w w' :=
  netV_any (bA u.scheme) (bA u.host.name) u.host.v4 u.host.addr u.port (bA u.path) u.hasq (bA u.query) (bA u.rest) w

theorem cutS_err {t : List UInt8} (h : (decide (2000 < t.length) || (!Urp.hasB 58 t || !Urp.schemeB (Oct.lower (Urp.bef 58 t)))) = true) : cutV (Urp.cutS t) = .tuple #[.string ⟨#[]⟩, .string ⟨#[]⟩, .int .i64 30] := by
  unfold Urp.cutS; rw [if_pos h]; rfl
theorem cutS_known {t : List UInt8} (h : (decide (2000 < t.length) || (!Urp.hasB 58 t || !Urp.schemeB (Oct.lower (Urp.bef 58 t)))) = false) (hk : Urp.knownB (Oct.lower (Urp.bef 58 t)) = true) : cutV (Urp.cutS t) = .tuple #[.string (bA (Oct.lower (Urp.bef 58 t))), .string (bA (Urp.aft 58 t)), .int .i64 0] := by
  unfold Urp.cutS; rw [if_neg (by rw [h]; simp), if_pos hk]; rfl
theorem cutS_not {t : List UInt8} (h : (decide (2000 < t.length) || (!Urp.hasB 58 t || !Urp.schemeB (Oct.lower (Urp.bef 58 t)))) = false) (hk : Urp.knownB (Oct.lower (Urp.bef 58 t)) = false) : cutV (Urp.cutS t) = .tuple #[.string ⟨#[]⟩, .string ⟨#[]⟩, .int .i64 31] := by
  unfold Urp.cutS; rw [if_neg (by rw [h]; simp), if_neg (by rw [hk]; simp)]; rfl
theorem below_on {w w1 w2 : World} (h1 : Below w.heap.size w w1) (h2 : Below w1.heap.size w1 w2) : Below w.heap.size w w2 := h1.trans (h2.mono h1.size)

set_option maxHeartbeats 1000000 in
theorem cutScheme_any (t : ByteArray) (w : World) (hs : t.size ≤ maxLen) : Calls Tryz.prog 39 #[.string t] w fun e w' => e = .returned (cutV (Urp.cutS t.data.toList)) ∧ Below w.heap.size w w' := by
  have hbl : (bA (Urp.bef 58 t.data.toList)).size ≤ maxLen := by
    have := Urp.bef_len 58 t.data.toList
    rw [bA_size]; have e : t.data.toList.length = t.size := by simp
    omega
  obtain ⟨n, hn⟩ : ∃ n : ByteArray, n = bA (Oct.lower (bA (Urp.bef 58 t.data.toList)).data.toList) := ⟨_, rfl⟩
  have hnl : Oct.lower (Urp.bef 58 t.data.toList) = n.data.toList := by rw [hn]
  have hns : n.size ≤ maxLen := by rw [hn]; exact lower_size _ hbl
  have hlow : ∀ W : World, Calls Tryz.prog 62 #[.string (bA (Urp.bef 58 t.data.toList))] W fun e w' => e = .returned (.string n) ∧ Below W.heap.size W w' := fun W => by rw [hn]; exact lower_any _ W hbl
  obtain ⟨x, hx⟩ : ∃ x, (decide (2000 < t.data.toList.length) || (!Urp.hasB 58 t.data.toList || !Urp.schemeB (Oct.lower (Urp.bef 58 t.data.toList)))) = x := ⟨_, rfl⟩
  have HX := Lib.hid hx
  have HL := Lib.hid hlow
  have HN := Lib.hid hnl
  rw [hnl] at hx
  have hlen : t.data.toList.length = t.size := by simp
  rw [hlen] at hx
  clear hn hlow hnl hlen
  by_cases hbig : 2000 < t.size
  · have hbig' : (2000 : Int) < (t.size : Int) := by omega
    obtain rfl : x = true := by rw [← hx, decide_eq_true hbig]; rfl
    have HR := Lib.hid (cutS_err HX.out)
    clear hx hbig
    go_enter Tryz.func39, Tryz.ntmps39
    go_wp2_with fail
    refine (cut_any t 58 w hs).mono ?_
    rintro e w1 ⟨rfl, hb1⟩
    go_wp2_with fail
    refine (HL.out _).mono ?_
    rintro e w2 ⟨rfl, hb2⟩
    go_wp2_with fail
    go_ret3
    exact ⟨by rw [HR.out]; rfl, below_on hb1 hb2⟩
  have hsm : (t.size : Int) ≤ 2000 := by omega
  rw [decide_eq_false hbig, Bool.false_or] at hx
  clear hbig
  cases hh : Urp.hasB 58 t.data.toList with
  | false =>
    obtain rfl : x = true := by rw [← hx, hh]; rfl
    have HR := Lib.hid (cutS_err HX.out)
    have HH := Lib.hid hh
    clear hx hh
    go_enter Tryz.func39, Tryz.ntmps39
    go_wp2_with fail
    refine (cut_any t 58 w hs).mono ?_
    rintro e w1 ⟨rfl, hb1⟩
    rw [HH.out]
    go_wp2_with fail
    refine (HL.out _).mono ?_
    rintro e w2 ⟨rfl, hb2⟩
    go_wp2_with fail
    go_ret3
    exact ⟨by rw [HR.out]; rfl, below_on hb1 hb2⟩
  | true =>
    rw [hh] at hx
    have HH := Lib.hid hh
    clear hh
    cases hc : Urp.schemeB n.data.toList with
    | false =>
      obtain rfl : x = true := by rw [← hx, hc]; rfl
      have HR := Lib.hid (cutS_err HX.out)
      have HC := Lib.hid hc
      clear hx hc
      go_enter Tryz.func39, Tryz.ntmps39
      go_wp2_with fail
      refine (cut_any t 58 w hs).mono ?_
      rintro e w1 ⟨rfl, hb1⟩
      rw [HH.out]
      go_wp2_with fail
      refine (HL.out _).mono ?_
      rintro e w2 ⟨rfl, hb2⟩
      go_wp2_with fail
      refine (isScheme_any n w2 hns).mono ?_
      rintro e w3 ⟨rfl, rfl⟩
      rw [HC.out]
      go_wp2_with fail
      go_ret3
      exact ⟨by rw [HR.out]; rfl, below_on hb1 hb2⟩
    | true =>
      obtain rfl : x = false := by rw [← hx, hc]; rfl
      have HC := Lib.hid hc
      clear hx hc
      go_enter Tryz.func39, Tryz.ntmps39
      go_wp2_with fail
      refine (cut_any t 58 w hs).mono ?_
      rintro e w1 ⟨rfl, hb1⟩
      rw [HH.out]
      go_wp2_with fail
      refine (HL.out _).mono ?_
      rintro e w2 ⟨rfl, hb2⟩
      go_wp2_with fail
      refine (isScheme_any n w2 hns).mono ?_
      rintro e w3 ⟨rfl, rfl⟩
      rw [HC.out]
      go_wp2
      all_goals
        go_ret3
        refine ⟨?_, below_on hb1 hb2⟩
        first
          | (exfalso; simp_all only [Bool.false_eq_true]; done)
          | (have hk : Urp.knownB (Oct.lower (Urp.bef 58 t.data.toList)) = true := by
               rw [HN.out, ← Lib.toList_data]; unfold Urp.knownB Urp.netB Urp.sHttp Urp.sHttps Urp.sAbout Urp.sData Urp.sBlob; simp only [*, Bool.true_or, Bool.or_true]
             rw [cutS_known HX.out hk, HN.out]; rfl)
          | (have hk : Urp.knownB (Oct.lower (Urp.bef 58 t.data.toList)) = false := by
               rw [HN.out, ← Lib.toList_data]; unfold Urp.knownB Urp.netB Urp.sHttp Urp.sHttps Urp.sAbout Urp.sData Urp.sBlob; simp only [*, Bool.or_false]
             rw [cutS_not HX.out hk]; rfl)
end Go.Proofs.YtehjnidggnfbfaaGreatDoor
