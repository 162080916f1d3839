/- The contract of urlp.Text. -/
import Derived.Test.YtehjnidggnfbfaaGreatDoorUrlpParse
import Derived.Deep.RegionHeld3
import Derived.Lib.ItoaLen
namespace Go.Proofs.YtehjnidggnfbfaaGreatDoor
open Go.RowKit

def portT (p : Int) : List UInt8 := if 0 ≤ p then 58 :: Lib.itoa p else []
def queryT (u : Urp.URL) : List UInt8 := if u.hasq then 63 :: u.query else []
/-- A URL as it is written. -/
def utextL (u : Urp.URL) : List UInt8 :=
  if Urp.netB u.scheme then u.scheme ++ [58, 47, 47] ++ textL u.host ++ portT u.port ++ u.path ++ queryT u
  else u.scheme ++ [58] ++ u.rest
theorem bA_app (a b : List UInt8) : bA a ++ bA b = bA (a ++ b) := by
  apply ByteArray.ext
  simp
theorem itoa_all (n : Int) (w : World) (h0 : -9223372036854775808 ≤ n) (h1 : n ≤ 9223372036854775807) (hT : Tab w) : Calls Tryz.prog 25 #[.int .i64 n] w fun e w' => e = .returned (.string (bA (Lib.itoa n))) ∧ Below w.heap.size w w' :=
  (Tryz.strconv_Itoa n h0 h1 w hT).mono (by rintro e w' ⟨rfl, k, os, rfl⟩; exact ⟨rfl, below_grow w k os⟩)
/-- The parts of a URL are small enough. -/
structure SmallU (u : Urp.URL) : Prop where
  sc : u.scheme.length ≤ 4000
  hn : u.host.name.length ≤ 4000
  a0 : 0 ≤ u.host.addr
  a1 : u.host.addr ≤ 4294967295
  p0 : -9223372036854775808 ≤ u.port
  p1 : u.port ≤ 9223372036854775807
  pa : u.path.length ≤ 4000
  qu : u.query.length ≤ 4000
  re : u.rest.length ≤ 4000

/-- What the calls of Text ask of the world. -/
structure TxReady (w0 : World) (B : Nat) (u : Urp.URL) (W : World) : Prop where
  bel : Below w0.heap.size w0 W
  tab : Tab W
  box : UBox W B u
theorem TxReady.below {w0 : World} {B : Nat} {u : Urp.URL} {W W' : World} (hb : Below W.heap.size W W') (h : TxReady w0 B u W) : TxReady w0 B u W' := ⟨below_on h.bel hb, h.tab.below hb, h.box.keep hb⟩
theorem TxReady.drew {w0 : World} {B : Nat} {u : Urp.URL} {W : World} (h : TxReady w0 B u W) : TxReady w0 B u W.drew := ⟨h.bel.drew, h.tab, h.box⟩
theorem TxReady.all {w0 : World} {B : Nat} {u : Urp.URL} {W : World} (h : TxReady w0 B u W) :
    W.cell? ⟨B, 0, none⟩ = some (.string (bA u.scheme)) ∧ W.cell? ⟨B, 1, none⟩ = some (.string (bA u.host.name)) ∧ W.cell? ⟨B, 2, none⟩ = some (.bool u.host.v4) ∧ W.cell? ⟨B, 3, none⟩ = some (.int .u32 u.host.addr) ∧ TxReady w0 B u W := ⟨h.box.c0, h.box.c1, h.box.c2, h.box.c3, h⟩
theorem textL_len (h : Hst.Host) (hn : h.name.length ≤ 4000) (a0 : 0 ≤ h.addr) (a1 : h.addr ≤ 4294967295) : (textL h).length ≤ 4000 := by
  unfold textL
  split
  · have := quad_join h.addr a0 a1; omega
  · exact hn

end Go.Proofs.YtehjnidggnfbfaaGreatDoor
