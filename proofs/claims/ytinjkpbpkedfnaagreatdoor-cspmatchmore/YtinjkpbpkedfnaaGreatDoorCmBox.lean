/- Source expressions as values and in memory. -/
import Derived.Test.YtinjkpbpkedfnaaGreatDoorCmMathAll
import Derived.Test.YtinjkpbpkedfnaaGreatDoorBox
namespace Go.Proofs.YtinjkpbpkedfnaaGreatDoor
open Go.RowKit

def srcC (x : Cm.Src) : Array Value := #[.int .i64 x.kind, .string (bA x.scheme), .string (bA x.host), .int .i64 x.port]
def srcV (x : Cm.Src) : Value := .agg (srcC x)
theorem load_src {w : World} {B : Nat} {x : Cm.Src} (h : CBox w B 24 (srcC x)) : (loadVar 24 ⟨B, 0, none⟩).run Tryz.prog w = .ok (srcV x) w := by
  have c0 := h.c 0; have c1 := h.c 1; have c2 := h.c 2; have c3 := h.c 3
  simp [srcC] at c0 c1 c2 c3
  simp [go_sem, c0, c1, c2, c3, srcV, srcC]
theorem results_src {fn : Func} {t : Tmp} (h : fn.results = #[.cell t 24]) (tmps : Array Value) (w : World) {B : Nat} {x : Cm.Src} (hp : tmps[t]?.getD undef = .pointer (some ⟨B, 0, none⟩)) (hb : CBox w B 24 (srcC x)) :
    (results fn tmps).run Tryz.prog w = .ok (srcV x) w := by
  have hl := load_src hb
  simp [results, h, hp, hl, asAddr]
def zeroC : Array Value := srcC Cm.none_
/-- A function that answers with a source expression: its block is written anew, then told. -/
theorem src_done {fn : Func} {t : Tmp} {w W : World} {a : Act} {B : Nat} {y : Cm.Src} {x : Cm.Src} {x0 x1 x2 x3 : Value} (h : fn.results = #[.cell t 24]) (hp : a.tmps[t]?.getD undef = .pointer (some ⟨B, 0, none⟩)) (hd : a.defers = [])
    (hb : CBox W B 24 #[x0, x1, x2, x3]) (hw : Below w.heap.size w W) (hB : w.heap.size ≤ B) (hx : x = y) :
    bodyPost Tryz.prog fn (fun e w' => e = .returned (srcV y) ∧ Below w.heap.size w w') Exit.ret a (set4 W B (.int .i64 x.kind) (.string (bA x.scheme)) (.string (bA x.host)) (.int .i64 x.port)) := by
  subst hx
  exact bodyPost_ret (results_src h _ _ hp (hb.set4 _ _ _ _)) hd ⟨rfl, of_grow (g_set4 (grow_of hw none) _ _ _ _ (.inl hB))⟩
end Go.Proofs.YtinjkpbpkedfnaaGreatDoor
