/- Our texts of one layer, joined: plain functions and their laws, and the contracts of the functions of that layer. -/
import Derived.Test.YtinjkpbpkedfnaaGreatDoorUrlpAll
import Derived.Test.YtinjkpbpkedfnaaGreatDoorHostAll
import Derived.Laws.StructEq
import Derived.Maps.OwnSet
import Derived.Deep.RegionHeld3
import Derived.Lib.ItoaLen

/- Origins as plain data, as values and in memory. -/


namespace Go.Proofs.YtinjkpbpkedfnaaGreatDoor
open Go.RowKit

structure Orig where
  op : Bool
  id : Int
  scheme : List UInt8
  host : Hst.Host
  port : Int
def zeroO : Orig := ⟨false, 0, [], Hst.none_, 0⟩
/-- An origin that nobody else has. -/
def opaq (id : Int) : Orig := ⟨true, id, [], Hst.none_, 0⟩
/-- The fields that an origin of its kind has. -/
def bareO (o : Orig) : Orig := if o.op then opaq o.id else ⟨false, 0, o.scheme, o.host, o.port⟩
def eqO (a b : Orig) : Bool := a.op == b.op && (a.id == b.id && (a.scheme == b.scheme && ((a.host.name == b.host.name && (a.host.v4 == b.host.v4 && a.host.addr == b.host.addr)) && a.port == b.port)))
theorem eqO_iff {a b : Orig} : eqO a b = true ↔ a = b := by
  obtain ⟨o, i, s, ⟨n, v, d⟩, p⟩ := a
  obtain ⟨o', i', s', ⟨n', v', d'⟩, p'⟩ := b
  simp only [eqO, Bool.and_eq_true, beq_iff_eq, Orig.mk.injEq, Hst.Host.mk.injEq]
def sameO (a b : Orig) : Bool := eqO (bareO a) (bareO b)
theorem sameO_iff {a b : Orig} : sameO a b = true ↔ bareO a = bareO b := eqO_iff
theorem sameO_refl (a : Orig) : sameO a a = true := sameO_iff.2 rfl
theorem sameO_symm (a b : Orig) : sameO a b = sameO b a := by
  rw [Bool.eq_iff_iff, sameO_iff, sameO_iff]; exact eq_comm
theorem sameO_left {a b : Orig} (h : sameO a b = true) (c : Orig) : sameO a c = sameO b c := by
  unfold sameO; rw [sameO_iff.1 h]

def oCells (o : Orig) : Array Value := #[.bool o.op, .int .i64 o.id, .string (bA o.scheme), .string (bA o.host.name), .bool o.host.v4, .int .u32 o.host.addr, .int .i64 o.port]
/-- An origin as a value. -/
def origV (o : Orig) : Value := .agg (oCells o)
/-- A block that holds an origin. -/
def OBox (W : World) (B : Nat) (o : Orig) : Prop := W.heap[B]? = some (.cells (oCells o) 31 (0, 0))
theorem OBox.new (W : World) (o : Orig) : OBox (W.alloc (.cells (oCells o) 31)) W.heap.size o := World.alloc_heap_new W _
theorem OBox.lt {W : World} {B : Nat} {o : Orig} (h : OBox W B o) : B < W.heap.size := (Array.getElem?_eq_some_iff.1 h).1
theorem OBox.below {W W' : World} {B C : Nat} {o : Orig} (h : OBox W B o) (hb : Below C W W') (hC : B < C) : OBox W' B o := (hb.block B hC).trans h
theorem OBox.keep {W W' : World} {B : Nat} {o : Orig} (h : OBox W B o) (hb : Below W.heap.size W W') : OBox W' B o := h.below hb h.lt
theorem OBox.alloc {W : World} {B : Nat} {o : Orig} (h : OBox W B o) (x : Obj) : OBox (W.alloc x) B o := by
  have hl := h.lt
  have h' : W.heap[B]? = _ := h
  unfold OBox
  show (W.heap.push x)[B]? = _
  rw [Array.getElem?_push_lt hl, ← Array.getElem?_eq_getElem hl, h']
theorem OBox.c {W : World} {B : Nat} {o : Orig} (h : OBox W B o) (i : Nat) : W.cell? ⟨B, i, none⟩ = (oCells o)[i]? := by simp [World.cell?, show W.heap[B]? = _ from h]
theorem OBox.fr {W : World} {B : Nat} {o : Orig} (h : OBox W B o) (i : Nat) : W.frozen? ⟨B, i, none⟩ = false := by simp [World.frozen?, show W.heap[B]? = _ from h]
theorem OBox.c0 {W : World} {B : Nat} {o : Orig} (h : OBox W B o) : W.cell? ⟨B, 0, none⟩ = some (.bool o.op) := h.c 0
theorem OBox.c1 {W : World} {B : Nat} {o : Orig} (h : OBox W B o) : W.cell? ⟨B, 1, none⟩ = some (.int .i64 o.id) := h.c 1
theorem OBox.c2 {W : World} {B : Nat} {o : Orig} (h : OBox W B o) : W.cell? ⟨B, 2, none⟩ = some (.string (bA o.scheme)) := h.c 2
theorem OBox.c3 {W : World} {B : Nat} {o : Orig} (h : OBox W B o) : W.cell? ⟨B, 3, none⟩ = some (.string (bA o.host.name)) := h.c 3
theorem OBox.c4 {W : World} {B : Nat} {o : Orig} (h : OBox W B o) : W.cell? ⟨B, 4, none⟩ = some (.bool o.host.v4) := h.c 4
theorem OBox.c5 {W : World} {B : Nat} {o : Orig} (h : OBox W B o) : W.cell? ⟨B, 5, none⟩ = some (.int .u32 o.host.addr) := h.c 5
theorem OBox.c6 {W : World} {B : Nat} {o : Orig} (h : OBox W B o) : W.cell? ⟨B, 6, none⟩ = some (.int .i64 o.port) := h.c 6
theorem OBox.all {W : World} {B : Nat} {o : Orig} (h : OBox W B o) : W.cell? ⟨B, 0, none⟩ = some (.bool o.op) ∧ W.cell? ⟨B, 1, none⟩ = some (.int .i64 o.id) ∧ W.cell? ⟨B, 2, none⟩ = some (.string (bA o.scheme)) ∧ W.cell? ⟨B, 3, none⟩ = some (.string (bA o.host.name)) ∧ W.cell? ⟨B, 4, none⟩ = some (.bool o.host.v4) ∧ W.cell? ⟨B, 5, none⟩ = some (.int .u32 o.host.addr) ∧ W.cell? ⟨B, 6, none⟩ = some (.int .i64 o.port) :=
  ⟨h.c0, h.c1, h.c2, h.c3, h.c4, h.c5, h.c6⟩
/-- The seven cells are written anew. -/
def set7 (W : World) (B : Nat) (o : Orig) : World :=
  ((((((W.setCell ⟨B, 0, none⟩ (.bool o.op)).setCell ⟨B, 1, none⟩ (.int .i64 o.id)).setCell ⟨B, 2, none⟩ (.string (bA o.scheme))).setCell ⟨B, 3, none⟩ (.string (bA o.host.name))).setCell ⟨B, 4, none⟩ (.bool o.host.v4)).setCell ⟨B, 5, none⟩ (.int .u32 o.host.addr)).setCell ⟨B, 6, none⟩ (.int .i64 o.port)
theorem OBox.set {W : World} {B : Nat} {o : Orig} (h : OBox W B o) (v : Orig) : OBox (set7 W B v) B v := by
  have h' : W.heap[B]? = _ := h
  unfold OBox set7
  simp [World.setCell, Array.getElem?_modify, h', oCells]
theorem below_set7 {W W' : World} {C B : Nat} (h : Below C W W') (hC : C ≤ B) (o : Orig) : Below C W (set7 W' B o) :=
  ((((((h.setCell (p := ⟨B, 0, none⟩) hC _).setCell (p := ⟨B, 1, none⟩) hC _).setCell (p := ⟨B, 2, none⟩) hC _).setCell (p := ⟨B, 3, none⟩) hC _).setCell (p := ⟨B, 4, none⟩) hC _).setCell (p := ⟨B, 5, none⟩) hC _).setCell (p := ⟨B, 6, none⟩) hC _
theorem size_set7 (W : World) (B : Nat) (o : Orig) : (set7 W B o).heap.size = W.heap.size := by simp [set7, World.setCell]

set_option maxHeartbeats 1000000 in
theorem load_orig {w : World} {B : Nat} {x : Orig} (h : OBox w B x) : (loadVar 31 ⟨B, 0, none⟩).run Tryz.prog w = .ok (origV x) w := by
  have c0 := h.c0; have c1 := h.c1; have c2 := h.c2; have c3 := h.c3; have c4 := h.c4; have c5 := h.c5; have c6 := h.c6
  simp [go_sem, c0, c1, c2, c3, c4, c5, c6, origV, oCells]
theorem results_orig {fn : Func} {t : Tmp} (h : fn.results = #[.cell t 31]) (tmps : Array Value) (w : World) {B : Nat} {x : Orig} (hp : tmps[t]?.getD undef = .pointer (some ⟨B, 0, none⟩)) (hb : OBox w B x) :
    (results fn tmps).run Tryz.prog w = .ok (origV x) w := by
  have hl := load_orig hb
  simp [results, h, hp, hl, asAddr]

theorem bA_toList (l : List UInt8) : (bA l).toList = l := by rw [ByteArray.toList_eq]
set_option maxHeartbeats 1000000 in
theorem eqIn_orig (a b : Orig) (w : World) : (Op.equalIn 10000 31 (origV a) (origV b)).run Tryz.prog w = .ok (eqO a b) w := by
  unfold origV oCells
  simp [go_sem]
  unfold eqO
  (repeat' split) <;> simp_all

end Go.Proofs.YtinjkpbpkedfnaaGreatDoor

/- Origins: plain functions and their laws. -/

namespace Go.Proofs.YtinjkpbpkedfnaaGreatDoor
open Go.RowKit

/-- A scheme's own port; none: 0. -/
def dport (s : List UInt8) : Int := if Urp.netB s then Urp.own s else 0
/-- The origin of a URL that holds none within. -/
def ofN (u : Urp.URL) (id : Int) : Orig := if Urp.netB u.scheme then ⟨false, 0, u.scheme, u.host, if u.port < 0 then Urp.own u.scheme else u.port⟩ else opaq id
/-- A URL's origin. -/
def ofO (u : Urp.URL) (id : Int) : Orig := ofN ((Urp.innerU u).getD u) id
def otail (o : Orig) : List UInt8 := if Urp.netB o.scheme && dport o.scheme == o.port then [] else 58 :: Lib.itoa o.port
/-- An origin as it is written. -/
def otextL (o : Orig) : List UInt8 := if o.op then [110, 117, 108, 108] else o.scheme ++ [58, 47, 47] ++ textL o.host ++ otail o
def ositeL (o : Orig) (sx : List (List UInt8)) : List UInt8 := if o.op then [110, 117, 108, 108] else siteL o.host sx
def siteB (a b : Orig) (sx : List (List UInt8)) : Bool := if a.op || b.op then sameO a b else ositeL a sx == ositeL b sx

theorem same_op {a b : Orig} (h : sameO a b = true) : a.op = b.op := by
  have h' := sameO_iff.1 h
  unfold bareO opaq at h'
  split at h' <;> split at h' <;> simp_all
theorem same_host {a b : Orig} (h : sameO a b = true) (ha : a.op = false) : a.host = b.host := by
  have hb := same_op h
  rw [ha] at hb
  have h' := sameO_iff.1 h
  unfold bareO at h'
  rw [ha, ← hb] at h'
  simp at h'
  exact h'.2.1
theorem siteB_refl (a : Orig) (sx : List (List UInt8)) : siteB a a sx = true := by
  unfold siteB; split
  · exact sameO_refl a
  · simp
theorem siteB_symm (a b : Orig) (sx : List (List UInt8)) : siteB a b sx = siteB b a sx := by
  unfold siteB
  rw [Bool.or_comm a.op, sameO_symm a b]
  split
  · rfl
  · exact Bool.eq_iff_iff.2 (by rw [beq_iff_eq, beq_iff_eq]; exact eq_comm)
theorem same_site {a b : Orig} (h : sameO a b = true) (sx : List (List UInt8)) : siteB a b sx = true := by
  unfold siteB; split
  · exact h
  · rename_i hn
    have ha : a.op = false := by cases e : a.op <;> simp_all
    have e := same_host h ha
    have hb := same_op h
    unfold ositeL
    rw [ha] at hb
    rw [ha, ← hb, e]; simp
theorem siteB_left {a b : Orig} {sx : List (List UInt8)} (h : siteB a b sx = true) (c : Orig) : siteB b c sx = siteB a c sx := by
  unfold siteB at h
  split at h
  · rename_i hn
    have e := same_op h
    have hb : b.op = true := by rw [e, Bool.or_self] at hn; exact hn
    unfold siteB
    rw [e, hb]
    simp only [Bool.true_or, if_true]
    exact (sameO_left h c).symm
  · rename_i hn
    have ha : a.op = false := by cases e : a.op <;> simp_all
    have hb : b.op = false := by cases e : b.op <;> simp_all
    have hs : ositeL a sx = ositeL b sx := beq_iff_eq.1 h
    unfold siteB
    rw [ha, hb, hs]
    split
    · rename_i hc
      have hc' : c.op = true := by simpa using hc
      have n1 : sameO b c = false := by
        cases e : sameO b c
        · rfl
        · have := same_op e; rw [hb, hc'] at this; cases this
      have n2 : sameO a c = false := by
        cases e : sameO a c
        · rfl
        · have := same_op e; rw [ha, hc'] at this; cases this
      rw [n1, n2]
    · rfl

theorem inner_net {u v : Urp.URL} (h : Urp.innerU u = some v) : Urp.netB v.scheme = true := by
  unfold Urp.innerU at h
  split at h
  · rw [Urp.netU_parse] at h
    cases hp : Urp.parse u.rest with
    | error e => rw [hp] at h; cases h
    | ok y =>
      rw [hp] at h
      simp only at h
      split at h
      · cases h; assumption
      · cases h
  · cases h
theorem inner_of_net {u : Urp.URL} (h : Urp.netB u.scheme = true) : Urp.innerU u = none := by
  unfold Urp.innerU
  rw [if_neg]
  intro e
  rw [e] at h
  cases h
theorem ofO_net {u : Urp.URL} (h : Urp.netB u.scheme = true) (id : Int) : ofO u id = ⟨false, 0, u.scheme, u.host, if u.port < 0 then Urp.own u.scheme else u.port⟩ := by
  unfold ofO ofN
  rw [inner_of_net h, Option.getD_none, if_pos h]
theorem ofO_path (u : Urp.URL) (id : Int) (p : List UInt8) (b : Bool) (q : List UInt8) : ofO ⟨u.scheme, u.host, u.port, p, b, q, u.rest⟩ id = ofO u id := by
  unfold ofO ofN
  have e : Urp.innerU ⟨u.scheme, u.host, u.port, p, b, q, u.rest⟩ = Urp.innerU u := rfl
  rw [e]
  cases Urp.innerU u <;> rfl
theorem ofO_op (u : Urp.URL) (id : Int) : (ofO u id).op = (!Urp.netB u.scheme && !(Urp.innerU u).isSome) := by
  unfold ofO ofN
  cases h : Urp.innerU u with
  | none =>
    simp only [Option.getD_none, Option.isSome_none, Bool.not_false, Bool.and_true]
    cases hn : Urp.netB u.scheme <;> simp [opaq]
  | some v =>
    have := inner_net h
    simp [this]
theorem ofO_opaq (u : Urp.URL) (id : Int) (h : (ofO u id).op = true) : ofO u id = opaq id := by
  unfold ofO ofN at h ⊢
  split at h
  · cases h
  · rename_i hn
    rw [if_neg hn]

theorem rest_len (l : List UInt8) (hl : l.length ≤ 4000) : (getU (Urp.parse l)).rest.length ≤ 4000 := by
  cases hp : Urp.parse l with
  | error e => exact Nat.zero_le _
  | ok u =>
    show u.rest.length ≤ 4000
    obtain ⟨s, a, hc, _, hs, ⟨hn, hw⟩ | ⟨_, rfl⟩⟩ := Urp.parse_ok hp
    · rw [(Urp.parse_good hp (by rw [hs]; exact hn)).1.rest]; exact Nat.zero_le _
    · have h1 := Urp.bef_len 35 a
      have h2 := (Urp.cutS_ok hc).2.1
      have h3 := (Urp.cutS_ok hc).2.2.2.2.2
      have h4 := Urp.aft_lt h2
      rw [← h3] at h4
      have h5 := Urp.trimU_len l
      show (Urp.bef 35 a).length ≤ 4000
      omega

/-- The text of a read URL's origin. -/
theorem otext_good {u : Urp.URL} (g : Urp.Good u) (id : Int) : otextL (ofO u id) = u.scheme ++ [58, 47, 47] ++ (textL u.host ++ portT u.port) := by
  rw [ofO_net g.net]
  unfold otextL otail dport
  simp only [Bool.false_eq_true, if_false, g.net, Bool.true_and, if_true]
  unfold portT
  rcases g.port with h | ⟨h0, h1, h2⟩
  · rw [h]; simp
  · rw [if_neg (by omega : ¬ u.port < 0), if_pos h0, if_neg (by rw [beq_iff_eq]; exact fun e => h2 e.symm)]
    simp
theorem parse_orig {u : Urp.URL} (g : Urp.Good u) (hl : (u.scheme ++ [58, 47, 47] ++ (textL u.host ++ portT u.port)).length ≤ 2000) :
    Urp.parse (u.scheme ++ [58, 47, 47] ++ (textL u.host ++ portT u.port)) = .ok ⟨u.scheme, u.host, u.port, [47], false, [], []⟩ := by
  obtain ⟨hp1, hp2, hp3⟩ := Urp.portOf_own u.scheme u.port g.port
  have hs := Urp.net_cases g.net
  have hc1 : ∀ b ∈ textL u.host, Urp.plainC b ∧ b ≠ 63 ∧ b ≠ 47 ∧ b ≠ 64 ∧ b ≠ 58 := fun b hb => Urp.host_plain (g.hch b hb)
  have hc2 : ∀ b ∈ portT u.port, Urp.plainC b ∧ b ≠ 63 ∧ b ≠ 47 ∧ b ≠ 64 := by
    intro b hb
    rcases hp3 with ⟨e, _⟩ | e
    · rw [e] at hb; cases hb
    · rw [e] at hb
      rcases List.mem_cons.1 hb with rfl | hb
      · unfold Urp.plainC; decide
      · have := Urp.host_plain (hp2 b hb); exact ⟨this.1, this.2.1, this.2.2.1, this.2.2.2.1⟩
  have hc : ∀ b ∈ textL u.host ++ portT u.port, Urp.plainC b ∧ b ≠ 63 ∧ b ≠ 47 ∧ b ≠ 64 := by
    intro b hb
    rcases List.mem_append.1 hb with hb | hb
    · have := hc1 b hb; exact ⟨this.1, this.2.1, this.2.2.1, this.2.2.2.1⟩
    · exact hc2 b hb
  have hS : ∀ b ∈ u.scheme, Urp.outerB b = false ∧ b ≠ 58 := by rcases hs with h | h <;> (rw [h]; decide)
  have hlow : Oct.lower u.scheme = u.scheme := by rcases hs with h | h <;> (rw [h]; decide)
  have hpu := Urp.parse_url u.scheme u.scheme (textL u.host ++ portT u.port) [] hS hlow hs (fun b hb => ⟨Urp.plain_out (hc b hb).1, (hc b hb).1.2, (hc b hb).2.2.1, (hc b hb).2.1⟩) (by simpa using hl)
  rw [List.append_nil] at hpu
  rw [hpu]
  have e1 : Urp.bef 35 (Urp.endU []) = [] := rfl
  rw [e1, Urp.vis_all (fun b hb => (hc b hb).1)]
  have e2 : Urp.visB [] = true := rfl
  rw [e2]
  simp only [Bool.and_self, if_true]
  rw [Urp.web_tail u.scheme _ [] (fun b hb => (hc b hb).2.2.1) (fun b hb => (hc b hb).2.1) (.inl rfl)]
  rw [Urp.no_has (fun b hb => (hc b hb).2.2.2)]
  have n58 : Urp.No 58 (textL u.host) := fun b hb => (hc1 b hb).2.2.2.2
  have eb : Urp.bef 58 (textL u.host ++ portT u.port) = textL u.host := by
    rw [Urp.bef_app n58]
    rcases hp3 with ⟨e, _⟩ | e
    · rw [e]; simp [Urp.bef]
    · rw [e, Urp.bef_hit, List.append_nil]
  have ea : Urp.aft 58 (textL u.host ++ portT u.port) = Urp.aft 58 (portT u.port) := Urp.aft_app n58 _
  rw [eb, ea, g.host, hp1]
  rfl
/-- .. it is read as a URL of that origin. -/
theorem back_good {u : Urp.URL} (g : Urp.Good u) (id k : Int) (hl : (otextL (ofO u id)).length ≤ 2000) : ∃ v, Urp.parse (otextL (ofO u id)) = .ok v ∧ ofO v k = ofO u id ∧ v.rest = [] := by
  rw [otext_good g] at hl ⊢
  refine ⟨_, parse_orig g hl, ?_, rfl⟩
  rw [ofO_net (u := ⟨u.scheme, u.host, u.port, [47], false, [], []⟩) g.net, ofO_net g.net]
theorem texts_good {u v : Urp.URL} (g : Urp.Good u) (h : Urp.Good v) (i k : Int) (hl : (otextL (ofO u i)).length ≤ 2000) : sameO (ofO u i) (ofO v k) = (otextL (ofO u i) == otextL (ofO v k)) := by
  rw [Bool.eq_iff_iff, beq_iff_eq]
  constructor
  · intro hs
    have hb := sameO_iff.1 hs
    rw [ofO_net g.net, ofO_net h.net] at hb ⊢
    simp only [bareO, Bool.false_eq_true, if_false] at hb
    rw [hb]
  · intro he
    obtain ⟨x, hx, ex, _⟩ := back_good g i 0 hl
    obtain ⟨y, hy, ey, _⟩ := back_good h k 0 (by rw [← he]; exact hl)
    rw [he, hy] at hx
    cases hx
    rw [← ex, ey]
    exact sameO_refl _
end Go.Proofs.YtinjkpbpkedfnaaGreatDoor

/- The contracts of origin's bare, Same and defaultPort. -/
namespace Go.Proofs.YtinjkpbpkedfnaaGreatDoor
open Go.RowKit
open Go.Maps Go.WideMaps

set_option maxHeartbeats 1000000 in
theorem bare_any (o : Orig) (w : World) : Calls Tryz.prog 71 #[origV o] w fun e w' => e = .returned (origV (bareO o)) ∧ Below w.heap.size w w' := by
  have hb0 : ∀ x : Orig, Below w.heap.size w ((w.alloc (.cells (oCells o) 31)).alloc (.cells (oCells x) 31)) := fun x => ((Below.refl _ w).alloc (Nat.le_refl _) _).alloc (by simp) _
  have q0 : ∀ x : Orig, OBox ((w.alloc (.cells (oCells o) 31)).alloc (.cells (oCells x) 31)) (w.heap.size + 1) x := fun x => by
    have := OBox.new (w.alloc (.cells (oCells o) 31)) x
    simpa using this
  have HB := Lib.hid hb0
  have HQ := Lib.hid q0
  clear hb0 q0
  cases ho : o.op with
  | true =>
    have hbo : bareO o = opaq o.id := by unfold bareO; rw [ho]; rfl
    rw [hbo]
    unfold origV
    unfold oCells at HB HQ ⊢
    rw [ho] at HB HQ ⊢
    clear hbo ho
    go_enter Tryz.func71, Tryz.ntmps71
    go_wp2_with fail
    exact bodyPost_ret (results_orig rfl _ _ rfl (HQ.out (opaq o.id))) rfl ⟨rfl, HB.out (opaq o.id)⟩
  | false =>
    have hbo : bareO o = ⟨false, 0, o.scheme, o.host, o.port⟩ := by unfold bareO; rw [ho]; rfl
    rw [hbo]
    unfold origV
    unfold oCells at HB HQ ⊢
    rw [ho] at HB HQ ⊢
    clear hbo ho
    go_enter Tryz.func71, Tryz.ntmps71
    go_wp2_with fail
    exact bodyPost_ret (results_orig rfl _ _ rfl (HQ.out ⟨false, 0, o.scheme, o.host, o.port⟩)) rfl ⟨rfl, HB.out ⟨false, 0, o.scheme, o.host, o.port⟩⟩

/-- What the calls of Same, and of what calls it, ask of the world: two origins' blocks. -/
structure TwoO (w0 : World) (A B : Nat) (a b : Orig) (W : World) : Prop where
  bel : Below w0.heap.size w0 W
  x : OBox W A a
  y : OBox W B b
theorem TwoO.below {w0 : World} {A B : Nat} {a b : Orig} {W W' : World} (hb : Below W.heap.size W W') (h : TwoO w0 A B a b W) : TwoO w0 A B a b W' := ⟨below_on h.bel hb, h.x.keep hb, h.y.keep hb⟩
theorem TwoO.drew {w0 : World} {A B : Nat} {a b : Orig} {W : World} (h : TwoO w0 A B a b W) : TwoO w0 A B a b W.drew := ⟨h.bel.drew, h.x, h.y⟩
theorem TwoO.all {w0 : World} {A B : Nat} {a b : Orig} {W : World} (h : TwoO w0 A B a b W) : W.cell? ⟨A, 0, none⟩ = some (.bool a.op) ∧ W.cell? ⟨A, 1, none⟩ = some (.int .i64 a.id) ∧ W.cell? ⟨A, 2, none⟩ = some (.string (bA a.scheme)) ∧ W.cell? ⟨A, 3, none⟩ = some (.string (bA a.host.name)) ∧ W.cell? ⟨A, 4, none⟩ = some (.bool a.host.v4) ∧ W.cell? ⟨A, 5, none⟩ = some (.int .u32 a.host.addr) ∧ W.cell? ⟨A, 6, none⟩ = some (.int .i64 a.port) ∧
      W.cell? ⟨B, 0, none⟩ = some (.bool b.op) ∧ W.cell? ⟨B, 1, none⟩ = some (.int .i64 b.id) ∧ W.cell? ⟨B, 2, none⟩ = some (.string (bA b.scheme)) ∧ W.cell? ⟨B, 3, none⟩ = some (.string (bA b.host.name)) ∧ W.cell? ⟨B, 4, none⟩ = some (.bool b.host.v4) ∧ W.cell? ⟨B, 5, none⟩ = some (.int .u32 b.host.addr) ∧ W.cell? ⟨B, 6, none⟩ = some (.int .i64 b.port) ∧ TwoO w0 A B a b W :=
  ⟨h.x.c0, h.x.c1, h.x.c2, h.x.c3, h.x.c4, h.x.c5, h.x.c6, h.y.c0, h.y.c1, h.y.c2, h.y.c3, h.y.c4, h.y.c5, h.y.c6, h⟩

set_option maxHeartbeats 2000000 in
theorem same_any (a b : Orig) (w : World) : Calls Tryz.prog 36 #[origV a, origV b] w fun e w' => e = .returned (.bool (sameO a b)) ∧ Below w.heap.size w w' := by
  have h0 : TwoO w w.heap.size (w.heap.size + 1) a b ((w.alloc (.cells (oCells a) 31)).alloc (.cells (oCells b) 31)) :=
    ⟨((Below.refl _ w).alloc (Nat.le_refl _) _).alloc (by simp) _, (OBox.new w a).alloc _, by have := OBox.new (w.alloc (.cells (oCells a) 31)) b; simpa using this⟩
  have heq : ∀ W : World, (Op.equalIn 10000 31 (origV (bareO a)) (origV (bareO b))).run Tryz.prog W = .ok (sameO a b) W := eqIn_orig _ _
  obtain ⟨r, hr⟩ : ∃ r, sameO a b = r := ⟨_, rfl⟩
  rw [hr] at heq ⊢
  have B1 := Lib.hid (fun W => bare_any a W)
  have B2 := Lib.hid (fun W => bare_any b W)
  obtain ⟨a', ha'⟩ : ∃ a', bareO a = a' := ⟨_, rfl⟩
  obtain ⟨b', hb'⟩ : ∃ b', bareO b = b' := ⟨_, rfl⟩
  rw [ha', hb'] at heq
  rw [ha'] at B1
  rw [hb'] at B2
  clear hr ha' hb'
  unfold origV
  unfold oCells at h0 ⊢
  unfold origV oCells at heq
  unfold origV oCells at B1 B2
  have hR := Lib.hid h0
  clear h0
  go_enter Tryz.func36, Tryz.ntmps36
  go_wp2_with fail
  have hR1 := hR.out
  go_region_held3 (fun w' => w'.cell? ⟨w.heap.size, 0, none⟩ = some (.bool a.op) ∧ w'.cell? ⟨w.heap.size, 1, none⟩ = some (.int .i64 a.id) ∧ w'.cell? ⟨w.heap.size, 2, none⟩ = some (.string (bA a.scheme)) ∧ w'.cell? ⟨w.heap.size, 3, none⟩ = some (.string (bA a.host.name)) ∧ w'.cell? ⟨w.heap.size, 4, none⟩ = some (.bool a.host.v4) ∧ w'.cell? ⟨w.heap.size, 5, none⟩ = some (.int .u32 a.host.addr) ∧ w'.cell? ⟨w.heap.size, 6, none⟩ = some (.int .i64 a.port) ∧
      w'.cell? ⟨w.heap.size + 1, 0, none⟩ = some (.bool b.op) ∧ w'.cell? ⟨w.heap.size + 1, 1, none⟩ = some (.int .i64 b.id) ∧ w'.cell? ⟨w.heap.size + 1, 2, none⟩ = some (.string (bA b.scheme)) ∧ w'.cell? ⟨w.heap.size + 1, 3, none⟩ = some (.string (bA b.host.name)) ∧ w'.cell? ⟨w.heap.size + 1, 4, none⟩ = some (.bool b.host.v4) ∧ w'.cell? ⟨w.heap.size + 1, 5, none⟩ = some (.int .u32 b.host.addr) ∧ w'.cell? ⟨w.heap.size + 1, 6, none⟩ = some (.int .i64 b.port) ∧ TwoO w w.heap.size (w.heap.size + 1) a b w')
    (first
      | exact hR1.all
      | exact hR1.drew.all
      | exact hR2.all
      | exact hR3.all)
    (first
      | (go_at_call 71; refine (B1.out _).mono ?_; clear B1; rintro e w2 ⟨rfl, hb2⟩; have hR2 := TwoO.below hb2 hR1.drew)
      | (go_at_call 71; refine (B2.out _).mono ?_; clear B2; rintro e w3 ⟨rfl, hb3⟩; have hR3 := TwoO.below hb3 hR2))
  go_wp2_with fail
  go_ret
  exact ⟨rfl, hR3.bel⟩
end Go.Proofs.YtinjkpbpkedfnaaGreatDoor

/- The document's Same of origins. -/
namespace Go.Proofs.YtinjkpbpkedfnaaGreatDoor
open Go.RowKit

def hostB (a b : Hst.Host) : Bool := a.name == b.name && (a.v4 == b.v4 && a.addr == b.addr)
set_option maxHeartbeats 1000000 in
theorem eqIn_host (a b : Hst.Host) (w : World) : (Op.equalIn 10000 29 (.agg #[.string (bA a.name), .bool a.v4, .int .u32 a.addr]) (.agg #[.string (bA b.name), .bool b.v4, .int .u32 b.addr])).run Tryz.prog w = .ok (hostB a b) w := by
  simp [go_sem]
  unfold hostB
  (repeat' split) <;> simp_all
theorem same_yes {a b : Orig} (ha : a.op = true) (hb : b.op = true) : sameO a b = (a.id == b.id) := by
  rw [Bool.eq_iff_iff, sameO_iff, beq_iff_eq]
  unfold bareO opaq
  rw [ha, hb]
  simp
theorem same_one {a b : Orig} (h : a.op ≠ b.op) : sameO a b = false := by
  cases e : sameO a b with
  | false => rfl
  | true => exact absurd (same_op e) h
theorem same_none {a b : Orig} (ha : a.op = false) (hb : b.op = false) : sameO a b = (a.scheme == b.scheme && (hostB a.host b.host && a.port == b.port)) := by
  rw [Bool.eq_iff_iff, sameO_iff]
  unfold bareO hostB
  rw [ha, hb]
  obtain ⟨_, _, _, ⟨n, v, d⟩, _⟩ := a
  obtain ⟨_, _, _, ⟨n', v', d'⟩, _⟩ := b
  simp [and_assoc]

set_option maxHeartbeats 4000000 in
theorem rsame_any (a b : Orig) (w : World) : Calls Tryz.prog 75 #[origV a, origV b] w fun e w' => e = .returned (.bool (sameO a b)) ∧ Below w.heap.size w w' := by
  have hb0 : Below w.heap.size w ((w.alloc (.cells (oCells a) 31)).alloc (.cells (oCells b) 31)) := ((Below.refl _ w).alloc (Nat.le_refl _) _).alloc (by simp) _
  have HB := Lib.hid hb0
  clear hb0
  unfold origV
  unfold oCells at HB ⊢
  cases ha : a.op with
  | true =>
    cases hb : b.op with
    | true =>
      rw [same_yes ha hb]
      rw [ha, hb] at HB
      clear ha hb
      obtain ⟨x, hx⟩ : ∃ x, (a.id == b.id) = x := ⟨_, rfl⟩
      rw [hx]
      go_enter Tryz.func75, Tryz.ntmps75
      go_wp2_with fail
      go_ret
      exact ⟨rfl, HB.out⟩
    | false =>
      rw [same_one (by rw [ha, hb]; decide)]
      rw [ha, hb] at HB
      clear ha hb
      go_enter Tryz.func75, Tryz.ntmps75
      go_wp2_with fail
      go_ret
      exact ⟨rfl, HB.out⟩
  | false =>
    cases hb : b.op with
    | true =>
      rw [same_one (by rw [ha, hb]; decide)]
      rw [ha, hb] at HB
      clear ha hb
      go_enter Tryz.func75, Tryz.ntmps75
      go_wp2_with fail
      go_ret
      exact ⟨rfl, HB.out⟩
    | false =>
      rw [same_none ha hb]
      rw [ha, hb] at HB
      clear ha hb
      have heq := fun W => eqIn_host a.host b.host W
      obtain ⟨x, hx⟩ : ∃ x, (a.scheme == b.scheme) = x := ⟨_, rfl⟩
      obtain ⟨y, hy⟩ : ∃ y, hostB a.host b.host = y := ⟨_, rfl⟩
      obtain ⟨z, hz⟩ : ∃ z, (a.port == b.port) = z := ⟨_, rfl⟩
      rw [hy] at heq
      rw [hx, hy, hz]
      clear hy
      cases x <;> cases y <;> cases z
      all_goals
        go_enter Tryz.func75, Tryz.ntmps75
        go_wp2_with fail
        go_ret
        exact ⟨rfl, HB.out⟩
end Go.Proofs.YtinjkpbpkedfnaaGreatDoor

/- The contract of origin's defaultPort. -/
namespace Go.Proofs.YtinjkpbpkedfnaaGreatDoor
open Go.RowKit
open Go.Maps Go.WideMaps

theorem look_port {w : World} {B : Nat} (h : w.ownsMap Tryz.prog 9 (plainElem Tryz.prog 3) B 2 dMap) (s : List UInt8) (hl : s.length ≤ maxLen) :
    (Instr.lookup 92 (.map (some B)) (.string (bA s)) true).run Tryz.prog w = .ok (.tuple #[.int .i64 (dport s), .bool (Urp.netB s)]) w := by
  obtain ⟨v, ps, hr, hv⟩ := h.look_ok lawS Tryz.underlying92 (zeroI w) (plainElem_int Tryz.underlying3 (by decide)) (key := .string (bA s)) (keyOf_string_mk Tryz.underlying9 hl)
  obtain ⟨c, rfl, hc, _⟩ := plainElem_int_inv Tryz.underlying3 hv
  rw [hr]
  have e0 : (bA s).data.toList = s := rfl
  rw [e0] at hc ⊢
  have hd : (dMap : DataW Unit) = .map [(.string Urp.sHttp, .lit (.int .i64 80)), (.string Urp.sHttps, .lit (.int .i64 443))] := by rfl
  rw [hd] at hc ⊢
  by_cases h1 : s = Urp.sHttp
  · subst h1
    have := congrArg Prod.fst hc
    have e : (DataW.map [(Lit.string Urp.sHttp, DataW.lit (.int .i64 80)), (.string Urp.sHttps, .lit (.int .i64 443))] : DataW Unit).atKey (.string Urp.sHttp) (.lit (.int .i64 0)) = .lit (.int .i64 80) := by rfl
    rw [e] at this
    rw [← (Lit.int.inj (DataW.lit.inj this)).2]; rfl
  · by_cases h2 : s = Urp.sHttps
    · subst h2
      have := congrArg Prod.fst hc
      have e : (DataW.map [(Lit.string Urp.sHttp, DataW.lit (.int .i64 80)), (.string Urp.sHttps, .lit (.int .i64 443))] : DataW Unit).atKey (.string Urp.sHttps) (.lit (.int .i64 0)) = .lit (.int .i64 443) := by rfl
      rw [e] at this
      rw [← (Lit.int.inj (DataW.lit.inj this)).2]; rfl
    · have hn : Urp.netB s = false := by unfold Urp.netB; simp [h1, h2]
      have n1 : ¬ Urp.sHttp = s := fun h => h1 h.symm
      have n2 : ¬ Urp.sHttps = s := fun h => h2 h.symm
      have := congrArg Prod.fst hc
      have e : (DataW.map [(Lit.string Urp.sHttp, DataW.lit (.int .i64 80)), (.string Urp.sHttps, .lit (.int .i64 443))] : DataW Unit).atKey (.string s) (.lit (.int .i64 0)) = .lit (.int .i64 0) := by
        simp [DataW.atKey, Lit.sameKey, n1, n2]
      rw [e] at this
      rw [← (Lit.int.inj (DataW.lit.inj this)).2]
      have e3 : Maps.has (DataW.map [(Lit.string Urp.sHttp, DataW.lit (.int .i64 80)), (.string Urp.sHttps, .lit (.int .i64 443))] : DataW Unit) (.string s) = false := by
        simp [Maps.has, Lit.sameKey, n1, n2]
      rw [e3]
      unfold dport
      rw [hn]; rfl

set_option maxHeartbeats 1000000 in
theorem defaultPort_any (s : List UInt8) (w : World) (hl : s.length ≤ maxLen) : Calls Tryz.prog 55 #[.string (bA s)] w fun e w' => e = .returned (.tuple #[.int .i64 (dport s), .bool (Urp.netB s)]) ∧ Below w.heap.size w w' := by
  have hmm := @run_makeMap Tryz.prog
  obtain ⟨w1, w2, r1, r2, o2, hb⟩ := map_made w
  have hlk := look_port o2 s hl
  obtain ⟨x, hx⟩ : ∃ x, dport s = x := ⟨_, rfl⟩
  obtain ⟨y, hy⟩ : ∃ y, Urp.netB s = y := ⟨_, rfl⟩
  rw [hx, hy] at hlk ⊢
  have HB := Lib.hid hb
  clear hx hy o2 hb
  unfold maxLen at hl
  go_enter Tryz.func55, Tryz.ntmps55
  go_wp2_with fail
  go_ret2
  exact ⟨rfl, HB.out⟩
end Go.Proofs.YtinjkpbpkedfnaaGreatDoor

/- The contract of origin.Of. -/

namespace Go.Proofs.YtinjkpbpkedfnaaGreatDoor
open Go.RowKit

theorem oinner_some {u v : Urp.URL} (h : Urp.innerU u = some v) (W : World) (hl : u.rest.length ≤ 4000) (hT : Tab8 W) : Calls Tryz.prog 54 #[.agg #[.string (bA u.scheme), .string (bA u.host.name), .bool u.host.v4, .int .u32 u.host.addr, .int .i64 u.port, .string (bA u.path), .bool u.hasq, .string (bA u.query), .string (bA u.rest)]] W fun e w' => e = .returned (.tuple #[.agg #[.string (bA v.scheme), .string (bA v.host.name), .bool v.host.v4, .int .u32 v.host.addr, .int .i64 v.port, .string (bA v.path), .bool v.hasq, .string (bA v.query), .string (bA v.rest)], .bool true]) ∧ Below W.heap.size W w' := by
  have := inner_any u W hl hT
  rw [h] at this
  exact this
theorem oinner_none {u : Urp.URL} (h : Urp.innerU u = none) (W : World) (hl : u.rest.length ≤ 4000) (hT : Tab8 W) : Calls Tryz.prog 54 #[.agg #[.string (bA u.scheme), .string (bA u.host.name), .bool u.host.v4, .int .u32 u.host.addr, .int .i64 u.port, .string (bA u.path), .bool u.hasq, .string (bA u.query), .string (bA u.rest)]] W fun e w' => e = .returned (.tuple #[.agg #[.string ⟨#[]⟩, .string ⟨#[]⟩, .bool false, .int .u32 0, .int .i64 0, .string ⟨#[]⟩, .bool false, .string ⟨#[]⟩, .string ⟨#[]⟩], .bool false]) ∧ Below W.heap.size W w' := by
  have := inner_any u W hl hT
  rw [h] at this
  exact this
theorem OBox.other9 {W : World} {B C : Nat} {o : Orig} (h : OBox W B o) (v : Urp.URL) (hne : C ≠ B) : OBox (set9 W C v) B o := by
  have h' : W.heap[B]? = _ := h
  unfold OBox set9
  simp [World.setCell, Array.getElem?_modify, h', hne]
theorem fit_net {u : Urp.URL} (h : Urp.netB u.scheme = true) : u.scheme.length ≤ maxLen := by
  rcases Urp.net_cases h with e | e <;> (rw [e]; decide)

theorem dp_net {s : List UInt8} (h : Urp.netB s = true) (hl : s.length ≤ maxLen) (W : World) : Calls Tryz.prog 55 #[.string (bA s)] W fun e w' => e = .returned (.tuple #[.int .i64 (Urp.own s), .bool true]) ∧ Below W.heap.size W w' := by
  have := defaultPort_any s W hl
  unfold dport at this
  rw [h, if_pos rfl] at this
  exact this

set_option maxHeartbeats 4000000 in
set_option maxRecDepth 100000 in
theorem of_any (u : Urp.URL) (id : Int) (w : World) (hl : u.rest.length ≤ 4000) (hT : Tab8 w) : Calls Tryz.prog 23 #[urlV u, .int .i64 id] w fun e w' => e = .returned (origV (ofO u id)) ∧ Below w.heap.size w w' := by
  have hb0 : Below w.heap.size w ((w.alloc (.cells (uCells u) 43)).alloc (.cells (oCells zeroO) 31)) := ((Below.refl _ w).alloc (Nat.le_refl _) _).alloc (by simp) _
  have qu : UBox ((w.alloc (.cells (uCells u) 43)).alloc (.cells (oCells zeroO) 31)) w.heap.size u := (UBox.new w u).alloc _
  have qo : OBox ((w.alloc (.cells (uCells u) 43)).alloc (.cells (oCells zeroO) 31)) (w.heap.size + 1) zeroO := by
    have := OBox.new (w.alloc (.cells (uCells u) 43)) zeroO
    simpa using this
  have HT := Lib.hid (hT.below hb0)
  have HB := Lib.hid hb0
  have HU := Lib.hid qu
  have HO := Lib.hid qo
  clear hb0 qu qo hT
  unfold urlV
  cases hi : Urp.innerU u with
  | none =>
    have HI := Lib.hid (fun W h => oinner_none hi W hl h)
    have ho : ofO u id = ofN u id := by unfold ofO; rw [hi]; rfl
    rw [ho]
    clear hi ho
    cases hn : Urp.netB u.scheme with
    | false =>
      have ho : ofN u id = opaq id := by unfold ofN; rw [hn]; rfl
      rw [ho]
      have HN := Lib.hid hn
      clear hn ho
      unfold uCells at HT HB HU HO ⊢
      unfold oCells at HT HB HU HO
      go_enter Tryz.func23, Tryz.ntmps23
      go_wp2_with fail
      refine (HI.out _ HT.out).mono ?_
      rintro e w1 ⟨rfl, hb1⟩
      have b1 := below_on HB.out hb1
      have u1 := UBox.keep HU.out hb1
      have o1 := OBox.keep HO.out hb1
      have b2 := b1.alloc (o := .cells (uCells Urp.zeroU) 43) b1.size
      have u2 := u1.alloc (.cells (uCells Urp.zeroU) 43)
      have o2 := o1.alloc (.cells (uCells Urp.zeroU) 43)
      clear hb1 b1 o1
      have c0 := u1.c0; have c1 := u1.c1; have c2 := u1.c2; have c3 := u1.c3; have c4 := u1.c4; have c5 := u1.c5; have c6 := u1.c6; have c7 := u1.c7; have c8 := u1.c8
      have l1 := u1.lt
      have n1 : w.heap.size ≠ w1.heap.size := by omega
      go_wp2_with fail
      refine (netV_any _ _ _ _ _ _ _ _ _ _).mono ?_
      rintro e w3 ⟨rfl, hb3⟩
      have b3 := below_on b2 hb3
      have o3 := o2.keep hb3
      have en : Urp.netB (bA u.scheme).data.toList = false := HN.out
      rw [en]
      clear hb3 b2 o2 en c0 c1 c2 c3 c4 c5 c6 c7 c8 l1 n1 u1 u2
      have c0 := o3.c0; have c1 := o3.c1; have c2 := o3.c2; have c3 := o3.c3; have c4 := o3.c4; have c5 := o3.c5; have c6 := o3.c6
      have f := o3.fr
      go_wp2_with fail
      exact bodyPost_ret (results_orig rfl _ _ rfl (o3.set (opaq id))) rfl ⟨rfl, below_set7 b3 (by omega) (opaq id)⟩
    | true =>
      have ho : ofN u id = ⟨false, 0, u.scheme, u.host, if u.port < 0 then Urp.own u.scheme else u.port⟩ := by unfold ofN; rw [hn]; rfl
      rw [ho]
      have HN := Lib.hid hn
      have HD := Lib.hid (fun W => dp_net hn (fit_net hn) W)
      obtain ⟨P, hP⟩ : ∃ P, (if u.port < 0 then Urp.own u.scheme else u.port) = P := ⟨_, rfl⟩
      rw [hP]
      have HP := Lib.hid hP
      clear hn ho hP
      unfold uCells at HT HB HU HO ⊢
      unfold oCells at HT HB HU HO
      go_enter Tryz.func23, Tryz.ntmps23
      go_wp2_with fail
      refine (HI.out _ HT.out).mono ?_
      rintro e w1 ⟨rfl, hb1⟩
      have b1 := below_on HB.out hb1
      have u1 := UBox.keep HU.out hb1
      have o1 := OBox.keep HO.out hb1
      have b2 := b1.alloc (o := .cells (uCells Urp.zeroU) 43) b1.size
      have u2 := u1.alloc (.cells (uCells Urp.zeroU) 43)
      have o2 := o1.alloc (.cells (uCells Urp.zeroU) 43)
      clear hb1 b1 o1
      have c0 := u1.c0; have c1 := u1.c1; have c2 := u1.c2; have c3 := u1.c3; have c4 := u1.c4; have c5 := u1.c5; have c6 := u1.c6; have c7 := u1.c7; have c8 := u1.c8
      have l1 := u1.lt
      have n1 : w.heap.size ≠ w1.heap.size := by omega
      go_wp2_with fail
      refine (netV_any _ _ _ _ _ _ _ _ _ _).mono ?_
      rintro e w3 ⟨rfl, hb3⟩
      have b3 := below_on b2 hb3
      have o3 := o2.keep hb3
      have u3 := u2.keep hb3
      have en : Urp.netB (bA u.scheme).data.toList = true := HN.out
      rw [en]
      clear hb3 b2 o2 en c0 c1 c2 c3 c4 c5 c6 c7 c8 l1 n1 u1 u2
      have k4 := u3.c4
      by_cases hp : u.port < 0
      · have hop : P = Urp.own u.scheme := HP.out.symm.trans (if_pos hp)
        subst hop
        have k0 := u3.c0
        go_wp2_with fail
        refine (HD.out _).mono ?_
        rintro e w4 ⟨rfl, hb4⟩
        have b4 := below_on b3 hb4
        have o4 := o3.keep hb4
        have u4 := u3.keep hb4
        clear k0 k4 hb4 b3 o3 u3
        have k0 := u4.c0; have k1 := u4.c1; have k2 := u4.c2; have k3 := u4.c3
        have c0 := o4.c0; have c1 := o4.c1; have c2 := o4.c2; have c3 := o4.c3; have c4 := o4.c4; have c5 := o4.c5; have c6 := o4.c6
        have f := o4.fr
        go_wp2_with fail
        exact bodyPost_ret (results_orig rfl _ _ rfl (o4.set ⟨false, 0, u.scheme, u.host, Urp.own u.scheme⟩)) rfl ⟨rfl, below_set7 b4 (by omega) ⟨false, 0, u.scheme, u.host, Urp.own u.scheme⟩⟩
      · have hop : P = u.port := HP.out.symm.trans (if_neg hp)
        subst hop
        have hp' : 0 ≤ u.port := by omega
        clear hp
        have k0 := u3.c0; have k1 := u3.c1; have k2 := u3.c2; have k3 := u3.c3
        have c0 := o3.c0; have c1 := o3.c1; have c2 := o3.c2; have c3 := o3.c3; have c4 := o3.c4; have c5 := o3.c5; have c6 := o3.c6
        have f := o3.fr
        go_wp2_with fail
        exact bodyPost_ret (results_orig rfl _ _ rfl (o3.set ⟨false, 0, u.scheme, u.host, u.port⟩)) rfl ⟨rfl, below_set7 b3 (by omega) ⟨false, 0, u.scheme, u.host, u.port⟩⟩
  | some v =>
    have HI := Lib.hid (fun W h => oinner_some hi W hl h)
    have hn := inner_net hi
    have ho : ofO u id = ⟨false, 0, v.scheme, v.host, if v.port < 0 then Urp.own v.scheme else v.port⟩ := by unfold ofO ofN; rw [hi]; simp [hn]
    rw [ho]
    have HN := Lib.hid hn
    have HD := Lib.hid (fun W => dp_net hn (fit_net hn) W)
    obtain ⟨P, hP⟩ : ∃ P, (if v.port < 0 then Urp.own v.scheme else v.port) = P := ⟨_, rfl⟩
    rw [hP]
    have HP := Lib.hid hP
    clear hi ho hn hP
    unfold uCells at HT HB HU HO ⊢
    unfold oCells at HT HB HU HO
    go_enter Tryz.func23, Tryz.ntmps23
    go_wp2_with fail
    refine (HI.out _ HT.out).mono ?_
    rintro e w1 ⟨rfl, hb1⟩
    have b1 := below_on HB.out hb1
    have u1 := UBox.keep HU.out hb1
    have o1 := OBox.keep HO.out hb1
    have l1 := u1.lt
    have l2 := o1.lt
    have n1 : w.heap.size ≠ w1.heap.size := by omega
    have b2 := (below_set9 b1 (Nat.le_refl _) v).alloc (o := .cells (uCells v) 43) (by rw [size_set9]; exact b1.size)
    have u2 := (u1.set v).alloc (.cells (uCells v) 43)
    have o2 := (o1.other9 (C := w.heap.size) v (by omega)).alloc (.cells (uCells v) 43)
    have c0 := u1.c0; have c1 := u1.c1; have c2 := u1.c2; have c3 := u1.c3; have c4 := u1.c4; have c5 := u1.c5; have c6 := u1.c6; have c7 := u1.c7; have c8 := u1.c8
    have f := u1.fr
    clear hb1 b1 o1 u1
    go_wp2_with fail
    refine (netV_any _ _ _ _ _ _ _ _ _ _).mono ?_
    rintro e w3 ⟨rfl, hb3⟩
    have b3 := below_on b2 hb3
    have o3 := o2.keep hb3
    have u3 := u2.keep hb3
    have en : Urp.netB (bA v.scheme).data.toList = true := HN.out
    rw [en]
    clear hb3 b2 o2 en c0 c1 c2 c3 c4 c5 c6 c7 c8 l1 l2 n1 u2 f
    have k4 := u3.c4
    by_cases hp : v.port < 0
    · have hop : P = Urp.own v.scheme := HP.out.symm.trans (if_pos hp)
      subst hop
      have k0 := u3.c0
      go_wp2_with fail
      refine (HD.out _).mono ?_
      rintro e w4 ⟨rfl, hb4⟩
      have b4 := below_on b3 hb4
      have o4 := o3.keep hb4
      have u4 := u3.keep hb4
      clear k0 k4 hb4 b3 o3 u3
      have k0 := u4.c0; have k1 := u4.c1; have k2 := u4.c2; have k3 := u4.c3
      have c0 := o4.c0; have c1 := o4.c1; have c2 := o4.c2; have c3 := o4.c3; have c4 := o4.c4; have c5 := o4.c5; have c6 := o4.c6
      have f := o4.fr
      go_wp2_with fail
      exact bodyPost_ret (results_orig rfl _ _ rfl (o4.set ⟨false, 0, v.scheme, v.host, Urp.own v.scheme⟩)) rfl ⟨rfl, below_set7 b4 (by omega) ⟨false, 0, v.scheme, v.host, Urp.own v.scheme⟩⟩
    · have hop : P = v.port := HP.out.symm.trans (if_neg hp)
      subst hop
      have hp' : 0 ≤ v.port := by omega
      clear hp
      have k0 := u3.c0; have k1 := u3.c1; have k2 := u3.c2; have k3 := u3.c3
      have c0 := o3.c0; have c1 := o3.c1; have c2 := o3.c2; have c3 := o3.c3; have c4 := o3.c4; have c5 := o3.c5; have c6 := o3.c6
      have f := o3.fr
      go_wp2_with fail
      exact bodyPost_ret (results_orig rfl _ _ rfl (o3.set ⟨false, 0, v.scheme, v.host, v.port⟩)) rfl ⟨rfl, below_set7 b3 (by omega) ⟨false, 0, v.scheme, v.host, v.port⟩⟩
end Go.Proofs.YtinjkpbpkedfnaaGreatDoor

/- The contract of origin.Text. -/


namespace Go.Proofs.YtinjkpbpkedfnaaGreatDoor
open Go.RowKit

/-- The parts of an origin are small enough. -/
structure SmallO (o : Orig) : Prop where
  sc : o.scheme.length ≤ 140737488351232
  hn : o.host.name.length ≤ 4000
  a0 : 0 ≤ o.host.addr
  a1 : o.host.addr ≤ 4294967295
  p0 : -9223372036854775808 ≤ o.port
  p1 : o.port ≤ 9223372036854775807
/-- What the calls of Text ask of the world. -/
structure OReady (w0 : World) (B : Nat) (o : Orig) (W : World) : Prop where
  bel : Below w0.heap.size w0 W
  tab : Tab W
  box : OBox W B o
theorem OReady.below {w0 : World} {B : Nat} {o : Orig} {W W' : World} (hb : Below W.heap.size W W') (h : OReady w0 B o W) : OReady w0 B o W' := ⟨below_on h.bel hb, h.tab.below hb, h.box.keep hb⟩
theorem OReady.drew {w0 : World} {B : Nat} {o : Orig} {W : World} (h : OReady w0 B o W) : OReady w0 B o W.drew := ⟨h.bel.drew, h.tab, h.box⟩
theorem OReady.all {w0 : World} {B : Nat} {o : Orig} {W : World} (h : OReady w0 B o W) :
    W.cell? ⟨B, 2, none⟩ = some (.string (bA o.scheme)) ∧ W.cell? ⟨B, 3, none⟩ = some (.string (bA o.host.name)) ∧ W.cell? ⟨B, 4, none⟩ = some (.bool o.host.v4) ∧ W.cell? ⟨B, 5, none⟩ = some (.int .u32 o.host.addr) ∧ OReady w0 B o W := ⟨h.box.c2, h.box.c3, h.box.c4, h.box.c5, h⟩

set_option maxHeartbeats 4000000 in
theorem otext_any (o : Orig) (w : World) (hS : SmallO o) (hT : Tab w) : Calls Tryz.prog 25 #[origV o] w fun e w' => e = .returned (.string (bA (otextL o))) ∧ Below w.heap.size w w' := by
  obtain ⟨s1, s2, a0, a1, p0, p1⟩ := hS
  have hb0 : Below w.heap.size w (w.alloc (.cells (oCells o) 31)) := (Below.refl _ w).alloc (Nat.le_refl _) _
  have hR0 : OReady w w.heap.size o (w.alloc (.cells (oCells o) 31)) := ⟨hb0, hT.below hb0, OBox.new w o⟩
  unfold origV
  cases ho : o.op with
  | true =>
    have hte : otextL o = [110, 117, 108, 108] := by unfold otextL; rw [ho]; rfl
    rw [hte]
    have HB := Lib.hid hb0
    clear hte hR0 hb0
    unfold oCells at HB ⊢
    rw [ho] at HB ⊢
    clear ho
    go_enter Tryz.func25, Tryz.ntmps25
    go_wp2_with fail
    go_ret
    exact ⟨rfl, HB.out⟩
  | false =>
    have hte : otextL o = o.scheme ++ [58, 47, 47] ++ textL o.host ++ otail o := by unfold otextL; rw [ho]; rfl
    rw [hte]
    obtain ⟨ht, hht⟩ : ∃ t, textL o.host = t := ⟨_, rfl⟩
    obtain ⟨tl, htl0⟩ : ∃ t, otail o = t := ⟨_, rfl⟩
    rw [hht, htl0]
    have HTX : Hid (∀ W : World, Tab W → Calls Tryz.prog 41 #[.agg #[.string (bA o.host.name), .bool o.host.v4, .int .u32 o.host.addr]] W fun e w' => e = .returned (.string (bA ht)) ∧ Below W.heap.size W w') := Lib.hid (fun W hW => by
      rw [← hht]; exact text_any (bA o.host.name) o.host.v4 o.host.addr W hW a0 a1)
    have htl : ht.length ≤ 4000 := by rw [← hht]; exact textL_len o.host s2 a0 a1
    have hz1 : ∀ W : World, (Op.stringOp .add (bA o.scheme) ⟨#[58, 47, 47]⟩).run Tryz.prog W = .ok (.string (bA o.scheme ++ ⟨#[58, 47, 47]⟩)) W := fun W => run_string_add_sum W _ _ (by
      have e1 : (bA o.scheme).size = o.scheme.length := rfl
      have e2 : (⟨#[58, 47, 47]⟩ : ByteArray).size = 3 := rfl
      omega)
    have hz2 : ∀ W : World, (Op.stringOp .add (bA o.scheme ++ ⟨#[58, 47, 47]⟩) (bA ht)).run Tryz.prog W = .ok (.string (bA o.scheme ++ ⟨#[58, 47, 47]⟩ ++ bA ht)) W := fun W => run_string_add_sum W _ _ (by
      have e1 : (bA o.scheme).size = o.scheme.length := rfl
      have e2 : (⟨#[58, 47, 47]⟩ : ByteArray).size = 3 := rfl
      have e3 : (bA ht).size = ht.length := rfl
      rw [ByteArray.size_append]
      omega)
    have hil := Lib.itoa_length_le o.port p0 p1
    have HD := Lib.hid (fun W => defaultPort_any o.scheme W (by unfold maxLen; omega))
    unfold otail at htl0
    obtain ⟨d, hd⟩ : ∃ d, dport o.scheme = d := ⟨_, rfl⟩
    rw [hd] at HD htl0
    unfold oCells at hR0 ⊢
    rw [ho] at hR0 ⊢
    have HR := Lib.hid hR0
    clear hte hR0 hb0 hht ho hd
    cases hn : Urp.netB o.scheme with
    | false =>
      rw [hn] at HD htl0
      have htl1 : tl = 58 :: Lib.itoa o.port := by rw [← htl0]; rfl
      subst htl1
      clear htl0 hn
      go_enter Tryz.func25, Tryz.ntmps25
      go_wp2_with fail
      have hR := HR.out
      go_region_held3 (fun w' => w'.cell? ⟨w.heap.size, 2, none⟩ = some (.string (bA o.scheme)) ∧ w'.cell? ⟨w.heap.size, 3, none⟩ = some (.string (bA o.host.name)) ∧ w'.cell? ⟨w.heap.size, 4, none⟩ = some (.bool o.host.v4) ∧ w'.cell? ⟨w.heap.size, 5, none⟩ = some (.int .u32 o.host.addr) ∧ OReady w w.heap.size o w')
        (first
          | exact hR.all
          | exact hR.drew.all
          | exact hR2.all)
        (first
          | (go_at_call 41; refine (HTX.out _ hR.drew.tab).mono ?_; rintro e w2 ⟨rfl, hb2⟩; have hR2 := OReady.below hb2 hR.drew))
      have k2 := hR2.box.c2
      go_wp2_with fail
      refine (HD.out _).mono ?_
      rintro e w3 ⟨rfl, hb3⟩
      have hR3 := OReady.below hb3 hR2
      have k6 := hR3.box.c6
      have ht3 := hR3.tab
      go_wp2_with fail
      refine (itoa_all o.port _ p0 p1 ht3).mono ?_
      rintro e w4 ⟨rfl, hb4⟩
      have hB := (OReady.below hb4 hR3).bel
      go_wp2_with fail
      go_ret
      refine ⟨Oct.ret_str ?_, hB⟩
      show bA o.scheme ++ bA [58, 47, 47] ++ bA ht ++ bA [58] ++ bA (Lib.itoa o.port) = _
      simp only [bA_app, List.append_assoc]; rfl
    | true =>
      rw [hn] at HD htl0
      clear hn
      by_cases hdp : d = o.port
      · have hdb : (d == o.port) = true := beq_iff_eq.2 hdp
        rw [hdb] at htl0
        have htl1 : tl = [] := by rw [← htl0]; rfl
        subst htl1
        clear htl0 hdp
        go_enter Tryz.func25, Tryz.ntmps25
        go_wp2_with fail
        have hR := HR.out
        go_region_held3 (fun w' => w'.cell? ⟨w.heap.size, 2, none⟩ = some (.string (bA o.scheme)) ∧ w'.cell? ⟨w.heap.size, 3, none⟩ = some (.string (bA o.host.name)) ∧ w'.cell? ⟨w.heap.size, 4, none⟩ = some (.bool o.host.v4) ∧ w'.cell? ⟨w.heap.size, 5, none⟩ = some (.int .u32 o.host.addr) ∧ OReady w w.heap.size o w')
          (first
            | exact hR.all
            | exact hR.drew.all
            | exact hR2.all)
          (first
            | (go_at_call 41; refine (HTX.out _ hR.drew.tab).mono ?_; rintro e w2 ⟨rfl, hb2⟩; have hR2 := OReady.below hb2 hR.drew))
        have k2 := hR2.box.c2
        go_wp2_with fail
        refine (HD.out _).mono ?_
        rintro e w3 ⟨rfl, hb3⟩
        have hR3 := OReady.below hb3 hR2
        have k6 := hR3.box.c6
        have hB := hR3.bel
        go_wp2_with fail
        go_ret
        refine ⟨Oct.ret_str ?_, hB⟩
        show bA o.scheme ++ bA [58, 47, 47] ++ bA ht = _
        simp only [bA_app, List.append_nil]
      · have hdb : (d == o.port) = false := beq_eq_false_iff_ne.2 hdp
        rw [hdb] at htl0
        have htl1 : tl = 58 :: Lib.itoa o.port := by rw [← htl0]; rfl
        subst htl1
        clear htl0 hdp
        go_enter Tryz.func25, Tryz.ntmps25
        go_wp2_with fail
        have hR := HR.out
        go_region_held3 (fun w' => w'.cell? ⟨w.heap.size, 2, none⟩ = some (.string (bA o.scheme)) ∧ w'.cell? ⟨w.heap.size, 3, none⟩ = some (.string (bA o.host.name)) ∧ w'.cell? ⟨w.heap.size, 4, none⟩ = some (.bool o.host.v4) ∧ w'.cell? ⟨w.heap.size, 5, none⟩ = some (.int .u32 o.host.addr) ∧ OReady w w.heap.size o w')
          (first
            | exact hR.all
            | exact hR.drew.all
            | exact hR2.all)
          (first
            | (go_at_call 41; refine (HTX.out _ hR.drew.tab).mono ?_; rintro e w2 ⟨rfl, hb2⟩; have hR2 := OReady.below hb2 hR.drew))
        have k2 := hR2.box.c2
        go_wp2_with fail
        refine (HD.out _).mono ?_
        rintro e w3 ⟨rfl, hb3⟩
        have hR3 := OReady.below hb3 hR2
        have k6 := hR3.box.c6
        have ht3 := hR3.tab
        go_wp2_with fail
        refine (itoa_all o.port _ p0 p1 ht3).mono ?_
        rintro e w4 ⟨rfl, hb4⟩
        have hB := (OReady.below hb4 hR3).bel
        go_wp2_with fail
        go_ret
        refine ⟨Oct.ret_str ?_, hB⟩
        show bA o.scheme ++ bA [58, 47, 47] ++ bA ht ++ bA [58] ++ bA (Lib.itoa o.port) = _
        simp only [bA_app, List.append_assoc]; rfl
end Go.Proofs.YtinjkpbpkedfnaaGreatDoor
