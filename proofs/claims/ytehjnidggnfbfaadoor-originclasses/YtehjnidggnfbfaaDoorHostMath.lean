/- Hosts, as plain functions on lists of bytes (what package host says); no program is named here. -/
import Derived.Test.YtehjnidggnfbfaaDoorOctMath5
import Derived.Test.YtehjnidggnfbfaaDoorOctMath6
namespace Go.Proofs.YtehjnidggnfbfaaDoor
namespace Hst
open Oct

def labI (c : Int) : Bool := (digitI c || (decide (97 ≤ c) && decide (c ≤ 122))) || (c == 45 || c == 95)
/-- Is a text a label? -/
def labelB (l : List UInt8) : Bool := allB labI l && !l.isEmpty && decide (l.length ≤ 63)
/-- The labels of a name, the empty ones too. -/
def parts (l : List UInt8) : List (List UInt8) := split (fun x => x == 46) l
def domB (l : List UInt8) : Bool := decide (l.length ≤ 253) && (parts l).all labelB
def digB (l : List UInt8) : Bool := allB digitI l
def last (l : List UInt8) : List UInt8 := (parts l).getLastD []
def numsB (ps : List (List UInt8)) : Bool := decide (ps.length = 4) && ps.all fun p => numOk p 255
def addrOf (ps : List (List UInt8)) : Int := ps.foldl (fun a p => 256 * a + val p) 0

structure Host where
  name : List UInt8
  v4 : Bool
  addr : Int
def none_ : Host := ⟨[], false, 0⟩
/-- The host that a text in small letters is; none: it is none. -/
def read (n : List UInt8) : Option Host :=
  if domB n then
    if digB (last n) then
      if numsB (parts n) then some ⟨[], true, addrOf (parts n)⟩ else none
    else some ⟨n, false, 0⟩
  else none
def parse (l : List UInt8) : Option Host := read (lower l)

theorem split_ne (p : Int → Bool) (l : List UInt8) : split p l ≠ [] := by
  intro h; have := split_pos p l; rw [h] at this; simp at this
theorem parts_ne (l : List UInt8) : parts l ≠ [] := split_ne _ l
theorem join_parts (l : List UInt8) : join 46 (parts l) = l := join_split 46 l
theorem parts_none (l : List UInt8) : ∀ q ∈ parts l, ∀ b ∈ q, ((b.toNat : Int) == 46) = false := split_none (fun x => x == 46) l
theorem parts_len (l : List UInt8) : (parts l).length ≤ l.length + 1 := split_len _ l
theorem parts_pos (l : List UInt8) : 0 < (parts l).length := split_pos _ l

theorem split_one (p : Int → Bool) (l : List UInt8) (h : ∀ b ∈ l, p b.toNat = false) : split p l = [l] := by
  have : ∀ (l c : List UInt8), (∀ b ∈ l, p b.toNat = false) → l.foldl (stp p) ([], c) = ([], c ++ l) := by
    intro l
    induction l with
    | nil => intro c _; simp
    | cons b l ih =>
      intro c h
      rw [List.foldl_cons]
      have hb := h b (by simp)
      have : stp p ([], c) b = ([], c ++ [b]) := by unfold stp; simp [hb]
      rw [this, ih _ (fun x hx => h x (by simp [hx]))]
      simp
  have e := this l [] h
  unfold split st
  rw [e]; simp
/-- Texts without the byte, laid with the byte between, are the parts of what comes. -/
theorem split_join (c : UInt8) : ∀ ps : List (List UInt8), ps ≠ [] → (∀ q ∈ ps, ∀ b ∈ q, ((b.toNat : Int) == (c.toNat : Int)) = false) → split (fun x => x == (c.toNat : Int)) (join c ps) = ps
  | [], h, _ => absurd rfl h
  | [p], _, h => split_one _ p (h p (by simp))
  | p :: q :: r, _, h => by
    have ih := split_join c (q :: r) (by simp) (fun x hx => h x (List.mem_cons_of_mem _ hx))
    have e : join c (p :: q :: r) = p ++ [c] ++ join c (q :: r) := by simp [join]
    rw [e, split_glue _ _ _ c (by simp), ih, split_one _ p (h p (by simp))]
    rfl
theorem parts_join (ps : List (List UInt8)) (h0 : ps ≠ []) (h : ∀ q ∈ ps, ∀ b ∈ q, ((b.toNat : Int) == 46) = false) : parts (join 46 ps) = ps := split_join 46 ps h0 h
end Hst
end Go.Proofs.YtehjnidggnfbfaaDoor
