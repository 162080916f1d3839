/- Origins: plain functions and their laws. -/
import Derived.Test.YtehjnidggnfbfaaGreatDoorOrigBox
import Derived.Test.YtehjnidggnfbfaaGreatDoorUrlpMath5
import Derived.Test.YtehjnidggnfbfaaGreatDoorHostAll
namespace Go.Proofs.YtehjnidggnfbfaaGreatDoor
open Go.RowKit

/-- A scheme's own port; none: 0. -/
def dport (s : List UInt8) : Int := if Urp.netB s then Urp.own s else 0
/-- The origin of a URL that holds none within. -/
def ofN (u : Urp.URL) (id : Int) : Orig := if Urp.netB u.scheme then ⟨false, 0, u.scheme, u.host, if u.port < 0 then Urp.own u.scheme else u.port⟩ else opaq id
/-- A URL's origin. -/
def ofO (u : Urp.URL) (id : Int) : Orig := ofN ((Urp.innerU u).getD u) id
def otail (o : Orig) : List UInt8 := if Urp.netB o.scheme && dport o.scheme == o.port then [] else 58 :: Lib.itoa o.port
/-- An origin as it is written. -/
def otextL (o : Orig) : List UInt8 := if o.op then [110, 117, 108, 108] else o.scheme ++ [58, 47, 47] ++ textL o.host ++ otail o
def ositeL (o : Orig) (sx : List (List UInt8)) : List UInt8 := if o.op then [110, 117, 108, 108] else siteL o.host sx
def siteB (a b : Orig) (sx : List (List UInt8)) : Bool := if a.op || b.op then sameO a b else ositeL a sx == ositeL b sx

theorem same_op {a b : Orig} (h : sameO a b = true) : a.op = b.op := by
  have h' := sameO_iff.1 h
  unfold bareO opaq at h'
  split at h' <;> split at h' <;> simp_all
theorem same_host {a b : Orig} (h : sameO a b = true) (ha : a.op = false) : a.host = b.host := by
  have hb := same_op h
  rw [ha] at hb
  have h' := sameO_iff.1 h
  unfold bareO at h'
  rw [ha, ← hb] at h'
  simp at h'
  exact h'.2.1
theorem siteB_refl (a : Orig) (sx : List (List UInt8)) : siteB a a sx = true := by
  unfold siteB; split
  · exact sameO_refl a
  · simp
theorem siteB_symm (a b : Orig) (sx : List (List UInt8)) : siteB a b sx = siteB b a sx := by
  unfold siteB
  rw [Bool.or_comm a.op, sameO_symm a b]
  split
  · rfl
  · exact Bool.eq_iff_iff.2 (by rw [beq_iff_eq, beq_iff_eq]; exact eq_comm)
theorem same_site {a b : Orig} (h : sameO a b = true) (sx : List (List UInt8)) : siteB a b sx = true := by
  unfold siteB; split
  · exact h
  · rename_i hn
    have ha : a.op = false := by cases e : a.op <;> simp_all
    have e := same_host h ha
    have hb := same_op h
    unfold ositeL
    rw [ha] at hb
    rw [ha, ← hb, e]; simp
theorem siteB_left {a b : Orig} {sx : List (List UInt8)} (h : siteB a b sx = true) (c : Orig) : siteB b c sx = siteB a c sx := by
  unfold siteB at h
  split at h
  · rename_i hn
    have e := same_op h
    have hb : b.op = true := by rw [e, Bool.or_self] at hn; exact hn
    unfold siteB
    rw [e, hb]
    simp only [Bool.true_or, if_true]
    exact (sameO_left h c).symm
  · rename_i hn
    have ha : a.op = false := by cases e : a.op <;> simp_all
    have hb : b.op = false := by cases e : b.op <;> simp_all
    have hs : ositeL a sx = ositeL b sx := beq_iff_eq.1 h
    unfold siteB
    rw [ha, hb, hs]
    split
    · rename_i hc
      have hc' : c.op = true := by simpa using hc
      have n1 : sameO b c = false := by
        cases e : sameO b c
        · rfl
        · have := same_op e; rw [hb, hc'] at this; cases this
      have n2 : sameO a c = false := by
        cases e : sameO a c
        · rfl
        · have := same_op e; rw [ha, hc'] at this; cases this
      rw [n1, n2]
    · rfl

theorem inner_net {u v : Urp.URL} (h : Urp.innerU u = some v) : Urp.netB v.scheme = true := by
  unfold Urp.innerU at h
  split at h
  · rw [Urp.netU_parse] at h
    cases hp : Urp.parse u.rest with
    | error e => rw [hp] at h; cases h
    | ok y =>
      rw [hp] at h
      simp only at h
      split at h
      · cases h; assumption
      · cases h
  · cases h
theorem inner_of_net {u : Urp.URL} (h : Urp.netB u.scheme = true) : Urp.innerU u = none := by
  unfold Urp.innerU
  rw [if_neg]
  intro e
  rw [e] at h
  cases h
theorem ofO_net {u : Urp.URL} (h : Urp.netB u.scheme = true) (id : Int) : ofO u id = ⟨false, 0, u.scheme, u.host, if u.port < 0 then Urp.own u.scheme else u.port⟩ := by
  unfold ofO ofN
  rw [inner_of_net h, Option.getD_none, if_pos h]
theorem ofO_path (u : Urp.URL) (id : Int) (p : List UInt8) (b : Bool) (q : List UInt8) : ofO ⟨u.scheme, u.host, u.port, p, b, q, u.rest⟩ id = ofO u id := by
  unfold ofO ofN
  have e : Urp.innerU ⟨u.scheme, u.host, u.port, p, b, q, u.rest⟩ = Urp.innerU u := rfl
  rw [e]
  cases Urp.innerU u <;> rfl
theorem ofO_op (u : Urp.URL) (id : Int) : (ofO u id).op = (!Urp.netB u.scheme && !(Urp.innerU u).isSome) := by
  unfold ofO ofN
  cases h : Urp.innerU u with
  | none =>
    simp only [Option.getD_none, Option.isSome_none, Bool.not_false, Bool.and_true]
    cases hn : Urp.netB u.scheme <;> simp [opaq]
  | some v =>
    have := inner_net h
    simp [this]
theorem ofO_opaq (u : Urp.URL) (id : Int) (h : (ofO u id).op = true) : ofO u id = opaq id := by
  unfold ofO ofN at h ⊢
  split at h
  · cases h
  · rename_i hn
    rw [if_neg hn]

theorem rest_len (l : List UInt8) (hl : l.length ≤ 4000) : (getU (Urp.parse l)).rest.length ≤ 4000 := by
  cases hp : Urp.parse l with
  | error e => exact Nat.zero_le _
  | ok u =>
    show u.rest.length ≤ 4000
    obtain ⟨s, a, hc, _, hs, ⟨hn, hw⟩ | ⟨_, rfl⟩⟩ := Urp.parse_ok hp
    · rw [(Urp.parse_good hp (by rw [hs]; exact hn)).1.rest]; exact Nat.zero_le _
    · have h1 := Urp.bef_len 35 a
      have h2 := (Urp.cutS_ok hc).2.1
      have h3 := (Urp.cutS_ok hc).2.2.2.2.2
      have h4 := Urp.aft_lt h2
      rw [← h3] at h4
      have h5 := Urp.trimU_len l
      show (Urp.bef 35 a).length ≤ 4000
      omega

/-- The text of a read URL's origin. -/
theorem otext_good {u : Urp.URL} (g : Urp.Good u) (id : Int) : otextL (ofO u id) = u.scheme ++ [58, 47, 47] ++ (textL u.host ++ portT u.port) := by
  rw [ofO_net g.net]
  unfold otextL otail dport
  simp only [Bool.false_eq_true, if_false, g.net, Bool.true_and, if_true]
  unfold portT
  rcases g.port with h | ⟨h0, h1, h2⟩
  · rw [h]; simp
  · rw [if_neg (by omega : ¬ u.port < 0), if_pos h0, if_neg (by rw [beq_iff_eq]; exact fun e => h2 e.symm)]
    simp
theorem parse_orig {u : Urp.URL} (g : Urp.Good u) (hl : (u.scheme ++ [58, 47, 47] ++ (textL u.host ++ portT u.port)).length ≤ 2000) :
    Urp.parse (u.scheme ++ [58, 47, 47] ++ (textL u.host ++ portT u.port)) = .ok ⟨u.scheme, u.host, u.port, [47], false, [], []⟩ := by
  obtain ⟨hp1, hp2, hp3⟩ := Urp.portOf_own u.scheme u.port g.port
  have hs := Urp.net_cases g.net
  have hc1 : ∀ b ∈ textL u.host, Urp.plainC b ∧ b ≠ 63 ∧ b ≠ 47 ∧ b ≠ 64 ∧ b ≠ 58 := fun b hb => Urp.host_plain (g.hch b hb)
  have hc2 : ∀ b ∈ portT u.port, Urp.plainC b ∧ b ≠ 63 ∧ b ≠ 47 ∧ b ≠ 64 := by
    intro b hb
    rcases hp3 with ⟨e, _⟩ | e
    · rw [e] at hb; cases hb
    · rw [e] at hb
      rcases List.mem_cons.1 hb with rfl | hb
      · unfold Urp.plainC; decide
      · have := Urp.host_plain (hp2 b hb); exact ⟨this.1, this.2.1, this.2.2.1, this.2.2.2.1⟩
  have hc : ∀ b ∈ textL u.host ++ portT u.port, Urp.plainC b ∧ b ≠ 63 ∧ b ≠ 47 ∧ b ≠ 64 := by
    intro b hb
    rcases List.mem_append.1 hb with hb | hb
    · have := hc1 b hb; exact ⟨this.1, this.2.1, this.2.2.1, this.2.2.2.1⟩
    · exact hc2 b hb
  have hS : ∀ b ∈ u.scheme, Urp.outerB b = false ∧ b ≠ 58 := by rcases hs with h | h <;> (rw [h]; decide)
  have hlow : Oct.lower u.scheme = u.scheme := by rcases hs with h | h <;> (rw [h]; decide)
  have hpu := Urp.parse_url u.scheme u.scheme (textL u.host ++ portT u.port) [] hS hlow hs (fun b hb => ⟨Urp.plain_out (hc b hb).1, (hc b hb).1.2, (hc b hb).2.2.1, (hc b hb).2.1⟩) (by simpa using hl)
  rw [List.append_nil] at hpu
  rw [hpu]
  have e1 : Urp.bef 35 (Urp.endU []) = [] := rfl
  rw [e1, Urp.vis_all (fun b hb => (hc b hb).1)]
  have e2 : Urp.visB [] = true := rfl
  rw [e2]
  simp only [Bool.and_self, if_true]
  rw [Urp.web_tail u.scheme _ [] (fun b hb => (hc b hb).2.2.1) (fun b hb => (hc b hb).2.1) (.inl rfl)]
  rw [Urp.no_has (fun b hb => (hc b hb).2.2.2)]
  have n58 : Urp.No 58 (textL u.host) := fun b hb => (hc1 b hb).2.2.2.2
  have eb : Urp.bef 58 (textL u.host ++ portT u.port) = textL u.host := by
    rw [Urp.bef_app n58]
    rcases hp3 with ⟨e, _⟩ | e
    · rw [e]; simp [Urp.bef]
    · rw [e, Urp.bef_hit, List.append_nil]
  have ea : Urp.aft 58 (textL u.host ++ portT u.port) = Urp.aft 58 (portT u.port) := Urp.aft_app n58 _
  rw [eb, ea, g.host, hp1]
  rfl
/-- .. it is read as a URL of that origin. -/
theorem back_good {u : Urp.URL} (g : Urp.Good u) (id k : Int) (hl : (otextL (ofO u id)).length ≤ 2000) : ∃ v, Urp.parse (otextL (ofO u id)) = .ok v ∧ ofO v k = ofO u id ∧ v.rest = [] := by
  rw [otext_good g] at hl ⊢
  refine ⟨_, parse_orig g hl, ?_, rfl⟩
  rw [ofO_net (u := ⟨u.scheme, u.host, u.port, [47], false, [], []⟩) g.net, ofO_net g.net]
theorem texts_good {u v : Urp.URL} (g : Urp.Good u) (h : Urp.Good v) (i k : Int) (hl : (otextL (ofO u i)).length ≤ 2000) : sameO (ofO u i) (ofO v k) = (otextL (ofO u i) == otextL (ofO v k)) := by
  rw [Bool.eq_iff_iff, beq_iff_eq]
  constructor
  · intro hs
    have hb := sameO_iff.1 hs
    rw [ofO_net g.net, ofO_net h.net] at hb ⊢
    simp only [bareO, Bool.false_eq_true, if_false] at hb
    rw [hb]
  · intro he
    obtain ⟨x, hx, ex, _⟩ := back_good g i 0 hl
    obtain ⟨y, hy, ey, _⟩ := back_good h k 0 (by rw [← he]; exact hl)
    rw [he, hy] at hx
    cases hx
    rw [← ex, ey]
    exact sameO_refl _
end Go.Proofs.YtehjnidggnfbfaaGreatDoor
