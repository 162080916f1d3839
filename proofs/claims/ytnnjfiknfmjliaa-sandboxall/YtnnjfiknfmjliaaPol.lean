/- Policies in memory: what lies somewhere; a box that holds one. -/
import Derived.Test.YtnnjfiknfmjliaaCsMath
import Derived.Test.YtnnjfiknfmjliaaTxIn
namespace Go.Proofs.Ytnnjfiknfmjliaa
open Go.RowKit

def polC (p : Cs.Pol) (A : Option Addr) (c : Nat) (B : Option Addr) (d : Nat) : Array Value := #[.bool p.hasAnc, .slice A p.anc.length c, .bool p.hasBox, .slice B p.box.length d]
/-- A value that is a policy. -/
def PolAt (w : World) (p : Cs.Pol) (v : Value) : Prop := ∃ A c B d, v = .agg (polC p A c B d) ∧ SeenT w A p.anc ∧ SeenT w B p.box
theorem PolAt.below {w w' : World} {p : Cs.Pol} {v : Value} (h : PolAt w p v) (hb : Below w.heap.size w w') : PolAt w' p v := by
  obtain ⟨A, c, B, d, e, h1, h2⟩ := h
  exact ⟨A, c, B, d, e, h1.below hb, h2.below hb⟩
/-- A value that is a policy whose words lie in blocks of texts. -/
def PolIn (w : World) (p : Cs.Pol) (v : Value) : Prop := ∃ A c B d, v = .agg (polC p A c B d) ∧ TextsIn w A p.anc ∧ TextsIn w B p.box
theorem PolIn.kept {w w' : World} {p : Cs.Pol} {v : Value} (h : PolIn w p v) (hk : KeptT 9 w w') : PolIn w' p v := by
  obtain ⟨A, c, B, d, e, h1, h2⟩ := h
  exact ⟨A, c, B, d, e, h1.kept hk, h2.kept hk⟩
theorem PolIn.below {w w' : World} {p : Cs.Pol} {v : Value} (h : PolIn w p v) (hb : Below w.heap.size w w') : PolIn w' p v := h.kept (.below hb)
theorem PolIn.at {w : World} {p : Cs.Pol} {v : Value} (h : PolIn w p v) : PolAt w p v := by
  obtain ⟨A, c, B, d, e, h1, h2⟩ := h
  exact ⟨A, c, B, d, e, h1.seen, h2.seen⟩
/-- A policy that is not too great. -/
structure FitP (p : Cs.Pol) : Prop where
  anc : p.anc.length ≤ 100000000
  box : p.box.length ≤ 100000000
def polV (p : Cs.Pol) (A : Option Addr) (c : Nat) (B : Option Addr) (d : Nat) : Value := .agg (polC p A c B d)
set_option maxHeartbeats 1000000 in
theorem load_pol {w : World} {B : Nat} {b1 b2 : Bool} {v1 v2 : Value} (h1 : ∃ A n c, v1 = .slice A n c) (h2 : ∃ A n c, v2 = .slice A n c) (h : CBox w B 32 #[.bool b1, v1, .bool b2, v2]) : (loadVar 32 ⟨B, 0, none⟩).run Try.prog w = .ok (.agg #[.bool b1, v1, .bool b2, v2]) w := by
  obtain ⟨A1, n1, c1, rfl⟩ := h1
  obtain ⟨A2, n2, c2, rfl⟩ := h2
  have c0 := h.c 0; have c1 := h.c 1; have c2 := h.c 2; have c3 := h.c 3
  simp at c0 c1 c2 c3
  simp [go_sem, c0, c1, c2, c3]
theorem results_pol {fn : Func} {t : Tmp} (h : fn.results = #[.cell t 32]) (tmps : Array Value) (w : World) {B : Nat} {p : Cs.Pol} {A1 : Option Addr} {c1 : Nat} {A2 : Option Addr} {c2 : Nat} (hp : tmps[t]?.getD undef = .pointer (some ⟨B, 0, none⟩)) (hb : CBox w B 32 (polC p A1 c1 A2 c2)) :
    (results fn tmps).run Try.prog w = .ok (.agg (polC p A1 c1 A2 c2)) w := by
  have hl := load_pol ⟨_, _, _, rfl⟩ ⟨_, _, _, rfl⟩ hb
  unfold polC
  simp [results, h, hp, hl, asAddr]
theorem kept_set4 {w : World} {B : Nat} {cs : Array Value} (hx : CBox w B 32 cs) (a b c d : Value) : KeptT 9 w (set4 w B a b c d) :=
  KeptT.box (by decide) hx (g_set4 (g_refl w (some B)) a b c d (.inr rfl))
end Go.Proofs.Ytnnjfiknfmjliaa
