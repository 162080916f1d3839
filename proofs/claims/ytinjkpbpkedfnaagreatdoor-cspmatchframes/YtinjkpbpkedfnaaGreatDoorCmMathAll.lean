/- Our texts of one layer, joined: plain functions and their laws, and the contracts of the functions of that layer. -/
import Derived.Test.YtinjkpbpkedfnaaGreatDoorOrigAll

/- Source expressions as plain functions of bytes: what a text is, what an expression means, and the laws of them that the statements claim. No program is named here. -/

namespace Go.Proofs.YtinjkpbpkedfnaaGreatDoor
namespace Cm
open Oct (lower digitI letterI numOk val)
open Urp (bef aft hasB sHttp sHttps No)

structure Src where
  kind : Int
  scheme : List UInt8
  host : List UInt8
  port : Int
def none_ : Src := ⟨0, [], [], 0⟩
def sSelf : List UInt8 := [39, 115, 101, 108, 102, 39]
def letB (c : UInt8) : Bool := letterI c.toNat
def schB (c : UInt8) : Bool := letterI c.toNat || (digitI c.toNat || (c == 43 || c == 45 || c == 46))
/-- How many bytes of a text are a scheme. -/
def schN : List UInt8 → Nat
  | [] => 0
  | c :: r => if letB c then 1 + (r.takeWhile schB).length else 0
/-- May a text be a host of an expression? -/
def patB (n : List UInt8) : Bool := n == [42] || Hst.domB (if 2 < n.length ∧ n.take 2 = [42, 46] then n.drop 2 else n)
/-- A host, a port, and what is left out, behind a scheme. -/
def hostS (sch r : List UInt8) : Src :=
  let x := bef 47 r
  if patB (bef 58 x) then
    if hasB 58 x then
      if aft 58 x = [42] then ⟨4, sch, bef 58 x, -2⟩ else if numOk (aft 58 x) 65535 = true then ⟨4, sch, bef 58 x, val (aft 58 x)⟩ else none_
    else ⟨4, sch, bef 58 x, -1⟩
  else none_
/-- Is a scheme written with two strokes? -/
def hasS (s : List UInt8) : Prop := 0 < schN s ∧ (s.drop (schN s)).take 3 = [58, 47, 47]
instance (s : List UInt8) : Decidable (hasS s) := by unfold hasS; exact inferInstance
def parseN (s : List UInt8) : Src :=
  if s = sSelf then ⟨1, [], [], 0⟩ else if s = [42] then ⟨2, [], [], 0⟩
  else if 0 < schN s ∧ s.drop (schN s) = [58] then ⟨3, s.take (schN s), [], 0⟩
  else hostS (if hasS s then s.take (schN s) else []) (if hasS s then s.drop (schN s + 3) else s)
def parse (t : List UInt8) : Src := parseN (lower t)

def tog (a b : List UInt8) : Bool := a == b || (a == sHttp && b == sHttps)
def dflt (o : Orig) : Bool := (o.scheme == sHttp && o.port == 80) || (o.scheme == sHttps && o.port == 443)
def hostEq (a b : Hst.Host) : Bool := a.name == b.name && (a.v4 == b.v4 && a.addr == b.addr)
def selfB (o me : Orig) : Bool := sameO o me || (!me.op && (hostEq me.host o.host && (tog me.scheme o.scheme && (me.port == o.port || (dflt o && dflt me)))))
def tailB (p t : List UInt8) : Bool := match p with
  | [] => false
  | c :: e => c == 42 && (decide (e.length < t.length) && t.drop (t.length - e.length) == e)
def hostB (p t : List UInt8) : Bool := (p == [42] || p == t) || tailB p t
def schemeB (s : Src) (o me : Orig) : Bool := if s.scheme = [] then (if me.op then Urp.netB o.scheme else tog me.scheme o.scheme) else tog s.scheme o.scheme
def portB (s : Src) (o : Orig) : Bool := (s.port == -2 || s.port == o.port) || ((s.port == -1 && dflt o) || (s.port == 80 && (o.scheme == sHttps && o.port == 443)))
def matchB (s : Src) (o me : Orig) : Bool :=
  if o.op then false else if s.kind = 2 then true else if s.kind = 3 then tog s.scheme o.scheme else if s.kind = 1 then selfB o me
  else if s.kind = 4 then schemeB s o me && (hostB s.host (textL o.host) && portB s o) else false
def anyB (l : List (List UInt8)) (o me : Orig) : Bool := l.any fun t => matchB (parse t) o me
def framesB (has : Bool) (anc : List (List UInt8)) (me : Orig) (an : List Orig) : Bool := !has || an.all fun o => anyB anc o me

/-! ### one expression more, one ancestor more -/
theorem any_more {l : List (List UInt8)} {o me : Orig} (s : List UInt8) (h : anyB l o me = true) : anyB (l ++ [s]) o me = true := by
  unfold anyB at h ⊢
  rw [List.any_append, h, Bool.true_or]
theorem frames_more {has : Bool} {anc : List (List UInt8)} {me : Orig} {an : List Orig} (s : List UInt8) (h : framesB has anc me an = true) : framesB has (anc ++ [s]) me an = true := by
  unfold framesB at h ⊢
  rw [Bool.or_eq_true] at h ⊢
  rcases h with h | h
  · exact .inl h
  · exact .inr (List.all_eq_true.2 fun o ho => any_more s (List.all_eq_true.1 h o ho))
theorem frames_one (has : Bool) (anc : List (List UInt8)) (me : Orig) (an : List Orig) (o : Orig) : framesB has anc me (an ++ [o]) = (framesB has anc me an && framesB has anc me [o]) := by
  unfold framesB
  rw [List.all_append]
  cases has <;> simp

/-! ### one's own -/
theorem match_op (x : Src) {o : Orig} (me : Orig) (h : o.op = true) : matchB x o me = false := by unfold matchB; rw [if_pos h]
theorem any_op (l : List (List UInt8)) {o : Orig} (me : Orig) (h : o.op = true) : anyB l o me = false := by
  unfold anyB
  rw [List.any_eq_false]
  intro t _
  rw [match_op _ me h]; simp
def SELF : List UInt8 := [39, 83, 69, 76, 70, 39]
theorem parse_SELF : parse SELF = ⟨1, [], [], 0⟩ := by
  unfold parse parseN
  rw [if_pos (by decide)]
theorem parse_any : parse [42] = ⟨2, [], [], 0⟩ := by
  unfold parse parseN
  rw [if_neg (by decide), if_pos (by decide)]
def http_ : List UInt8 := [104, 116, 116, 112, 58]
def https_ : List UInt8 := [104, 116, 116, 112, 115, 58]
theorem parse_http : parse http_ = ⟨3, sHttp, [], 0⟩ := by
  unfold parse parseN
  rw [if_neg (by decide), if_neg (by decide), if_pos (by decide)]
  rfl
theorem parse_https : parse https_ = ⟨3, sHttps, [], 0⟩ := by
  unfold parse parseN
  rw [if_neg (by decide), if_neg (by decide), if_pos (by decide)]
  rfl
theorem any_one (t : List UInt8) (o me : Orig) : anyB [t] o me = matchB (parse t) o me := by unfold anyB; simp
theorem self_self {o : Orig} (h : o.op = false) : anyB [SELF] o o = true := by
  rw [any_one, parse_SELF]
  unfold matchB selfB
  rw [h, sameO_refl]; simp
theorem any_any {o : Orig} (me : Orig) (h : o.op = false) : anyB [[42]] o me = true := by
  rw [any_one, parse_any]
  unfold matchB
  rw [h]; simp
theorem match_scheme (s : List UInt8) (o me : Orig) : matchB ⟨3, s, [], 0⟩ o me = (!o.op && tog s o.scheme) := by
  unfold matchB
  cases o.op <;> simp
theorem own_scheme {o : Orig} (me : Orig) (h : o.op = false) (hn : Urp.netB o.scheme = true) : anyB [o.scheme ++ [58]] o me = true := by
  rw [any_one]
  rcases Urp.net_cases hn with e | e
  · rw [e, show sHttp ++ [58] = http_ from rfl, parse_http, match_scheme, h, e]; decide
  · rw [e, show sHttps ++ [58] = https_ from rfl, parse_https, match_scheme, h, e]; decide
theorem http_all (o me : Orig) : anyB [http_] o me = (!o.op && (o.scheme == sHttp || o.scheme == sHttps)) := by
  rw [any_one, parse_http, match_scheme]
  unfold tog
  rw [show (sHttp == o.scheme) = (o.scheme == sHttp) from Bool.beq_comm ..]
  simp
theorem https_all (o me : Orig) : anyB [https_] o me = (!o.op && o.scheme == sHttps) := by
  rw [any_one, parse_https, match_scheme]
  unfold tog
  rw [show (sHttps == o.scheme) = (o.scheme == sHttps) from Bool.beq_comm .., show (sHttps == sHttp) = false by decide]
  simp
end Cm
end Go.Proofs.YtinjkpbpkedfnaaGreatDoor

/- An origin's own text as an expression means it; any port no fewer than none. No program is named here. -/

namespace Go.Proofs.YtinjkpbpkedfnaaGreatDoor
namespace Cm
open Oct (lower digitI letterI numOk val)
open Urp (bef aft hasB sHttp sHttps No)

theorem lower_fix {l : List UInt8} (h : ∀ b ∈ l, Oct.low1 b = b) : lower l = l := by
  unfold Oct.lower
  induction l with
  | nil => rfl
  | cons c l ih => rw [List.map_cons, h c (by simp), ih fun b hb => h b (by simp [hb])]
theorem lower_app (a b : List UInt8) : lower (a ++ b) = lower a ++ lower b := by unfold Oct.lower; exact List.map_append
theorem low_digit {b : UInt8} (h : digitI b.toNat = true) : Oct.low1 b = b := by
  unfold Oct.low1
  rw [if_neg]
  rintro ⟨h1, h2⟩
  unfold Oct.digitI at h
  rw [Bool.and_eq_true, decide_eq_true_eq, decide_eq_true_eq] at h
  omega
theorem digit_all {l : List UInt8} (h : Oct.allB digitI l = true) : ∀ b ∈ l, digitI b.toNat = true := fun b hb => List.all_eq_true.1 h b hb
/-- A scheme ahead of a colon. -/
theorem schN_net {s : List UInt8} (h : Urp.netB s = true) (r : List UInt8) : schN (s ++ 58 :: r) = s.length := by
  rcases Urp.net_cases h with rfl | rfl
  · rfl
  · rfl
theorem host_low {u : Urp.URL} (g : Urp.Good u) : lower (textL u.host) = textL u.host ∧ Hst.domB (textL u.host) = true := by
  have h : Hst.read (lower (textL u.host)) = some u.host := g.host
  have e := text_read h
  rw [← e] at h
  exact ⟨e.symm, read_dom h⟩
theorem port_low (x : Int) (h : x ≤ 65535) : lower (portT x) = portT x := by
  unfold portT
  split
  · rename_i h0
    refine lower_fix fun b hb => ?_
    rcases List.mem_cons.1 hb with rfl | hb
    · rfl
    · exact low_digit (digit_all (Urp.itoa_digits x h0 h).2.2.1 b hb)
  · rfl
theorem pat_dom {n : List UInt8} (hd : Hst.domB n = true) (hc : ∀ b ∈ n, Urp.hostC b) : patB n = true := by
  unfold patB
  rw [if_neg, hd, Bool.or_true]
  rintro ⟨hl, ht⟩
  have : (42 : UInt8) ∈ n := List.mem_of_mem_take (by rw [ht]; simp)
  have h42 := hc 42 this
  unfold Urp.hostC at h42
  revert h42
  decide
/-- What stands behind the strokes of an origin's text. -/
theorem host_src {u : Urp.URL} (g : Urp.Good u) (sch tail : List UInt8) (ht : tail = [] ∨ ∃ r, tail = 47 :: r) :
    hostS sch ((textL u.host ++ portT u.port) ++ tail) = ⟨4, sch, textL u.host, if 0 ≤ u.port then u.port else -1⟩ := by
  obtain ⟨hl, hd⟩ := host_low g
  have hc : ∀ b ∈ textL u.host, b ≠ 47 ∧ b ≠ 58 := fun b hb => ⟨(Urp.host_plain (g.hch b hb)).2.2.1, (Urp.host_plain (g.hch b hb)).2.2.2.2⟩
  have hp := pat_dom hd g.hch
  have n47 : No 47 (textL u.host ++ portT u.port) := by
    refine Urp.no_app (fun b hb => (hc b hb).1) fun b hb => ?_
    unfold portT at hb
    split at hb
    · rename_i h0
      rcases List.mem_cons.1 hb with rfl | hb
      · decide
      · have h1 : u.port ≤ 65535 := by rcases g.port with e | ⟨_, e, _⟩ <;> omega
        have hd := digit_all (Urp.itoa_digits u.port h0 h1).2.2.1 b hb
        rintro rfl
        exact absurd hd (by decide)
    · cases hb
  have hb47 : bef 47 ((textL u.host ++ portT u.port) ++ tail) = textL u.host ++ portT u.port := by
    rcases ht with rfl | ⟨r, rfl⟩
    · rw [List.append_nil]; exact Urp.bef_no n47
    · rw [Urp.bef_app n47, Urp.bef_hit, List.append_nil]
  have n58 : No 58 (textL u.host) := fun b hb => (hc b hb).2
  unfold hostS
  dsimp only
  rw [hb47]
  unfold portT
  split
  · rename_i h0
    have h1 : u.port ≤ 65535 := by rcases g.port with e | ⟨_, e, _⟩ <;> omega
    obtain ⟨i1, i2, i3, i4⟩ := Urp.itoa_digits u.port h0 h1
    rw [Urp.bef_app n58, Urp.bef_hit, List.append_nil, if_pos hp, Urp.has_app, Urp.has_hit, Bool.or_true, if_pos rfl, Urp.aft_app n58, Urp.aft_hit, if_neg, if_pos i1, i2]
    intro e
    have := digit_all i3 42 (by rw [e]; simp)
    exact absurd this (by decide)
  · rw [List.append_nil, Urp.bef_no n58, if_pos hp, Urp.no_has n58]
    simp
theorem own_text {u : Urp.URL} (g : Urp.Good u) (id : Int) (me : Orig) (tail : List UInt8) (ht : tail = [] ∨ tail = [47, 120]) : anyB [otextL (ofO u id) ++ tail] (ofO u id) me = true := by
  have hT := otext_good g id
  have hO := ofO_net g.net (id := id)
  obtain ⟨hl, hd⟩ := host_low g
  have h1 : u.port ≤ 65535 := by rcases g.port with e | ⟨_, e, _⟩ <;> omega
  have hlt : lower tail = tail := by rcases ht with rfl | rfl <;> decide
  have hls : lower u.scheme = u.scheme := by rcases Urp.net_cases g.net with e | e <;> rw [e] <;> decide
  have ht2 : tail = [] ∨ ∃ r, tail = 47 :: r := ht.elim .inl fun h => .inr ⟨_, h⟩
  have hlow : lower (otextL (ofO u id) ++ tail) = u.scheme ++ 58 :: ([47, 47] ++ ((textL u.host ++ portT u.port) ++ tail)) := by
    rw [hT, lower_app, lower_app, lower_app, lower_app, hls, hl, port_low _ h1, hlt]
    simp only [List.append_assoc]
    rfl
  have hn : schN (u.scheme ++ 58 :: ([47, 47] ++ ((textL u.host ++ portT u.port) ++ tail))) = u.scheme.length := schN_net g.net _
  have hpos : 0 < u.scheme.length := by rcases Urp.net_cases g.net with e | e <;> rw [e] <;> decide
  have hp : parse (otextL (ofO u id) ++ tail) = ⟨4, u.scheme, textL u.host, if 0 ≤ u.port then u.port else -1⟩ := by
    unfold parse
    rw [hlow]
    unfold parseN
    have hS : hasS (u.scheme ++ 58 :: ([47, 47] ++ ((textL u.host ++ portT u.port) ++ tail))) := by
      unfold hasS
      rw [hn]
      exact ⟨hpos, by simp⟩
    rw [if_neg, if_neg, if_neg, if_pos hS, if_pos hS, hn, List.take_left' rfl]
    · have e : (u.scheme ++ 58 :: ([47, 47] ++ ((textL u.host ++ portT u.port) ++ tail))).drop (u.scheme.length + 3) = (textL u.host ++ portT u.port) ++ tail := by
        rw [← List.drop_drop, List.drop_left' rfl]; rfl
      rw [e]
      exact host_src g u.scheme tail ht2
    · rw [hn, List.drop_left' rfl]
      rintro ⟨_, e⟩
      simp at e
    · rcases Urp.net_cases g.net with e | e <;> rw [e] <;> simp [Urp.sHttp, Urp.sHttps]
    · rcases Urp.net_cases g.net with e | e <;> rw [e] <;> simp [Urp.sHttp, Urp.sHttps, sSelf]
  rw [any_one, hp, hO]
  unfold matchB schemeB hostB portB
  have hne : u.scheme ≠ [] := by intro e; rw [e] at hpos; simp at hpos
  simp only [Bool.false_eq_true, if_false, hne]
  have ht : tog u.scheme u.scheme = true := by unfold tog; simp
  rw [ht]
  by_cases h0 : 0 ≤ u.port
  · rw [if_pos h0, if_neg (by omega : ¬ u.port < 0)]
    simp
  · rw [if_neg h0, if_pos (by omega : u.port < 0)]
    have hdf : dflt ⟨false, 0, u.scheme, u.host, Urp.own u.scheme⟩ = true := by
      unfold dflt Urp.own
      rcases Urp.net_cases g.net with e | e <;> rw [e] <;> rfl
    rw [hdf]; simp
end Cm
end Go.Proofs.YtinjkpbpkedfnaaGreatDoor

/- A host's expression with any port means no fewer than without. No program is named here. -/

namespace Go.Proofs.YtinjkpbpkedfnaaGreatDoor
namespace Cm
open Oct (lower digitI letterI numOk val)
open Urp (bef aft hasB sHttp sHttps No)

def anyP : List UInt8 := [58, 42]
theorem while_stop (p : UInt8 → Bool) (h : p 58 = false) (x : List UInt8) : ∀ r : List UInt8, (r ++ 58 :: x).takeWhile p = r.takeWhile p
  | [] => by rw [List.nil_append, List.takeWhile_cons, h]; rfl
  | c :: r => by
    rw [List.cons_append, List.takeWhile_cons, List.takeWhile_cons, while_stop p h x r]
theorem schN_app (s : List UInt8) : schN (s ++ anyP) = schN s := by
  cases s with
  | nil => decide
  | cons c r =>
    show (if letB c then 1 + ((r ++ 58 :: [42]).takeWhile schB).length else 0) = if letB c then 1 + (r.takeWhile schB).length else 0
    rw [while_stop schB (by decide)]
theorem schN_le (s : List UInt8) : schN s ≤ s.length := by
  cases s with
  | nil => exact Nat.le_refl _
  | cons c r =>
    have := (List.takeWhile_prefix (p := schB) (l := r)).length_le
    show (if letB c then 1 + (r.takeWhile schB).length else 0) ≤ (c :: r).length
    rw [List.length_cons]
    split <;> omega
theorem three_app (d : List UInt8) : (d ++ anyP).take 3 = [58, 47, 47] ↔ d.take 3 = [58, 47, 47] := by
  match d with
  | [] => decide
  | [x] => simp [anyP]
  | [x, y] => simp [anyP]
  | x :: y :: z :: r => simp
theorem hasS_app (s : List UInt8) : hasS (s ++ anyP) ↔ hasS s := by
  unfold hasS
  rw [schN_app, List.drop_append_of_le_length (schN_le s), three_app]
theorem hasS_len {s : List UInt8} (h : hasS s) : schN s + 3 ≤ s.length := by
  have := congrArg List.length h.2
  rw [List.length_take, List.length_drop] at this
  simp only [List.length_cons, List.length_nil] at this
  have := schN_le s
  omega
theorem parse4 {s : List UInt8} (h : (parseN s).kind = 4) : parseN s = hostS (if hasS s then s.take (schN s) else []) (if hasS s then s.drop (schN s + 3) else s) := by
  unfold parseN at h ⊢
  split at h
  · exact absurd h (by decide)
  · split at h
    · exact absurd h (by decide)
    · split at h
      · exact absurd h (show ¬ (3 : Int) = 4 by decide)
      · rename_i h1 h2 h3
        rw [if_neg h1, if_neg h2, if_neg h3]
theorem host_cut {sch r r' : List UInt8} (h : bef 47 r = bef 47 r') : hostS sch r = hostS sch r' := by unfold hostS; rw [h]
theorem num_any (x : List UInt8) (m : Int) : numOk (x ++ anyP) m = false := by
  cases h : numOk (x ++ anyP) m with
  | false => rfl
  | true =>
    have hd := (Oct.numOk_parts _ _ h).2.2.1
    exact absurd (digit_all hd 58 (by simp [anyP])) (by decide)
theorem host_more {sch r : List UInt8} {o me : Orig} (h4 : (hostS sch (r ++ anyP)).kind = 4) (hm : matchB (hostS sch r) o me = true) : matchB (hostS sch (r ++ anyP)) o me = true := by
  cases h47 : hasB 47 r with
  | true => rw [host_cut (Urp.bef_app_has h47 anyP).1]; exact hm
  | false =>
    have n47 := Urp.has_no h47
    have e1 : bef 47 (r ++ anyP) = r ++ anyP := by rw [Urp.bef_app n47]; rfl
    have e0 : bef 47 r = r := Urp.bef_no n47
    unfold hostS at h4 hm ⊢
    dsimp only at h4 hm ⊢
    rw [e1] at h4 ⊢
    rw [e0] at hm
    cases h58 : hasB 58 r with
    | true =>
      exfalso
      rw [(Urp.bef_app_has h58 anyP).1, (Urp.bef_app_has h58 anyP).2, Urp.has_app, h58, num_any] at h4
      have hne : ¬ (aft 58 r ++ anyP = [42]) := by
        intro e
        have := congrArg List.length e
        simp [anyP] at this
      rw [if_neg hne] at h4
      simp only [Bool.true_or, if_true, Bool.false_eq_true, if_false] at h4
      split at h4 <;> exact absurd h4 (by decide)
    | false =>
      have n58 := Urp.has_no h58
      have b1 : bef 58 (r ++ anyP) = r := by rw [Urp.bef_app n58]; show r ++ [] = r; simp
      have b2 : aft 58 (r ++ anyP) = [42] := by rw [Urp.aft_app n58]; rfl
      have b3 : hasB 58 (r ++ anyP) = true := by rw [Urp.has_app]; simp [anyP, Urp.hasB]
      rw [Urp.bef_no n58, h58] at hm
      rw [b1, b2, b3]
      cases hp : patB r with
      | false =>
        rw [hp] at hm
        simp [none_, matchB] at hm
      | true =>
        rw [hp] at hm
        simp only [if_true, Bool.false_eq_true, if_false] at hm ⊢
        unfold matchB schemeB portB at hm ⊢
        dsimp only at hm ⊢
        cases ho : o.op with
        | true => rw [ho] at hm; simp at hm
        | false =>
          rw [ho] at hm
          simp at hm ⊢
          exact ⟨hm.1, hm.2.1⟩
theorem any_port {t : List UInt8} {o me : Orig} (h1 : (parse t).kind = 4) (h2 : (parse (t ++ anyP)).kind = 4) (h : anyB [t] o me = true) : anyB [t ++ anyP] o me = true := by
  rw [any_one] at h ⊢
  unfold parse at h1 h2 h ⊢
  have e : lower (t ++ anyP) = lower t ++ anyP := by rw [lower_app]; rfl
  rw [e] at h2 ⊢
  generalize lower t = s at h1 h2 h ⊢
  have p2 := parse4 h2
  rw [parse4 h1] at h
  rw [p2] at h2 ⊢
  clear p2
  by_cases hs : hasS s
  · have hs' := (hasS_app s).2 hs
    rw [if_pos hs, if_pos hs] at h
    rw [if_pos hs', if_pos hs', schN_app, List.take_append_of_le_length (schN_le s), List.drop_append_of_le_length (hasS_len hs)] at h2 ⊢
    exact host_more h2 h
  · have hs' : ¬ hasS (s ++ anyP) := fun x => hs ((hasS_app s).1 x)
    rw [if_neg hs, if_neg hs] at h
    rw [if_neg hs', if_neg hs'] at h2 ⊢
    exact host_more h2 h
end Cm
end Go.Proofs.YtinjkpbpkedfnaaGreatDoor
