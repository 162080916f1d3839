/- Lists of texts in memory, some of them left off in front. -/
import Derived.Test.YtnnjfiknfmjliaaEmText
import Derived.Test.YtnnjfiknfmjliaaBox
namespace Go.Proofs.Ytnnjfiknfmjliaa
open Go.RowKit

/-! ### lists of texts -/
theorem SeenT.nil (w : World) (A : Option Addr) : SeenT w A [] := fun h => absurd h (by simp)
/-- A list of texts that lies in a block of texts. -/
def TextsIn (w : World) (A : Option Addr) (l : List (List UInt8)) : Prop := 0 < l.length → ∃ g o cur, A = some ⟨g, o, none⟩ ∧ w.heap[g]? = some (.cells cur 9 (0, 0)) ∧ ∀ i (h : i < l.length), cur[o + i]? = some (Oct.strV l[i])
theorem TextsIn.nil (w : World) (A : Option Addr) : TextsIn w A [] := fun h => absurd h (by simp)
theorem TextsIn.kept {w w' : World} {A : Option Addr} {l : List (List UInt8)} (h : TextsIn w A l) (hk : KeptT 9 w w') : TextsIn w' A l := fun hn => by
  obtain ⟨g, o, cur, e, hg, hc⟩ := h hn
  exact ⟨g, o, cur, e, hk g cur hg, hc⟩
theorem TextsIn.below {w w' : World} {A : Option Addr} {l : List (List UInt8)} (h : TextsIn w A l) (hb : Below w.heap.size w w') : TextsIn w' A l := h.kept (.below hb)
theorem TextsIn.seen {w : World} {A : Option Addr} {l : List (List UInt8)} (h : TextsIn w A l) : SeenT w A l := fun hn => by
  obtain ⟨g, o, cur, e, hg, hc⟩ := h hn
  refine ⟨g, o, e, (Array.getElem?_eq_some_iff.1 hg).1, fun i hi => ?_⟩
  rw [← hc i hi]
  simp [World.cell?, hg]
theorem own_texts {w : World} {b n c : Nat} {A : Option Addr} {l : List (List UInt8)} (h : w.ownsRow b 9 1 (.slice A n c) l.length (l.map Oct.strV)) : TextsIn w A l := fun hn => by
  have hrow := h
  obtain ⟨_, ⟨h1, h2⟩ | ⟨g, cap, cur, h1, hb, hg, h3, h4, h5, h6⟩⟩ := h
  · omega
  · cases h1
    refine ⟨g, 0, cur, rfl, hg, fun i hi => ?_⟩
    have hc := World.ownsRow.cells hrow (g := g) rfl i (Oct.strV l[i]) (by simp [hi])
    rw [Nat.zero_add]
    have ea : ((⟨g, 0, none⟩ : Addr).add i) = ⟨g, i, none⟩ := by simp [Addr.add]; omega
    rw [ea] at hc
    simpa [World.cell?, hg] using hc
theorem TextsIn.drop {w : World} {g o : Nat} {l : List (List UInt8)} (h : TextsIn w (some ⟨g, o, none⟩) l) (k : Nat) : TextsIn w (some ⟨g, o + k, none⟩) (l.drop k) := fun hn => by
  rw [List.length_drop] at hn
  obtain ⟨g', o', cur, e, hg, hc⟩ := h (by omega)
  cases e
  refine ⟨g, o + k, cur, rfl, hg, fun i hi => ?_⟩
  rw [List.length_drop] at hi
  have := hc (k + i) (by omega)
  rw [List.getElem_drop, show o + k + i = o + (k + i) by omega]
  exact this
theorem own_cap {w : World} {b : Nat} {v : Value} {l : List (List UInt8)} (h : w.ownsRow b 9 1 v l.length (l.map Oct.strV)) : ∃ A c, v = .slice A l.length c ∧ l.length ≤ c := by
  obtain ⟨_, ⟨h1, h2⟩ | ⟨g, cap, cur, rfl, hb, hg, h3, h4, h5, h6⟩⟩ := h
  · exact ⟨none, 0, by rw [h1, h2], by omega⟩
  · exact ⟨_, _, rfl, h3⟩
set_option maxHeartbeats 1000000 in
/-- 'l[k:]' of texts. -/
theorem texts_from (A : Option Addr) (n c k : Nat) (hk : k ≤ n) (hc : n ≤ c) : ∃ A2, (∀ W : World, (Instr.slice 23 (.slice A n c) (some (.int .i64 (k : Int))) none none).run Try.prog W = .ok (.slice A2 (n - k) (c - k)) W) ∧ (∀ (W : World) (l : List (List UInt8)), l.length = n → TextsIn W A l → TextsIn W A2 (l.drop k)) := by
  have hk2 : (k : Int) ≤ (n : Int) := by omega
  refine ⟨if c = k then A else A.map (·.add (k * 1)), fun W => ?_, fun W l hl hs hn => ?_⟩
  · simp [go_sem, hk2, Try.underlying23]
  · rw [List.length_drop] at hn
    obtain ⟨g, o, cur, rfl, hg, hcs⟩ := hs (by omega)
    have hd := TextsIn.drop (fun _ => ⟨g, o, cur, rfl, hg, hcs⟩) k
    rw [if_neg (by omega)]
    have e : Option.map (fun x : Addr => x.add (k * 1)) (some ⟨g, o, none⟩) = some ⟨g, o + k, none⟩ := by simp [Addr.add]
    rw [e]
    exact hd (by rw [List.length_drop]; omega)
/-- A row of one text, just made. -/
theorem seen_fresh1 (w : World) (t : List UInt8) : SeenT (w.alloc (.cells #[.string (bA t)] 9)) (some ⟨w.heap.size, 0, none⟩) [t] := fun _ =>
  ⟨w.heap.size, 0, rfl, by simp, fun i hi => by
    have h0 : i = 0 := by simpa using hi
    subst h0
    exact (CBox.new w 9 #[.string (bA t)]).c 0⟩
end Go.Proofs.Ytnnjfiknfmjliaa
