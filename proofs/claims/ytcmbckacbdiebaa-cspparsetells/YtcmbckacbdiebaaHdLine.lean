/- A line that is made in a cell and handed back; lists of one and of two lines, just laid. -/
import Derived.Test.YtcmbckacbdiebaaLowFew
namespace Go.Proofs.Ytcmbckacbdiebaa
open Go.RowKit

set_option maxHeartbeats 1000000 in
theorem load_line (w : World) (a b : ByteArray) : (loadVar 38 ⟨w.heap.size, 0, none⟩).run Try.prog (w.alloc (.cells #[.string a, .string b] 38)) = .ok (.agg #[.string a, .string b]) (w.alloc (.cells #[.string a, .string b] 38)) := by
  have hg := World.alloc_heap_new w (.cells #[.string a, .string b] 38)
  generalize w.alloc (.cells #[.string a, .string b] 38) = W at hg ⊢
  have c0 : W.cell? ⟨w.heap.size, 0, none⟩ = some (.string a) := by simp [World.cell?, hg]
  have c1 : W.cell? ⟨w.heap.size, 1, none⟩ = some (.string b) := by simp [World.cell?, hg]
  simp [go_sem, c0, c1]
theorem results_line {fn : Func} {t : Tmp} (h : fn.results = #[.cell t 38]) (tmps : Array Value) (w : World) (a b : ByteArray) (hp : tmps[t]?.getD undef = .pointer (some ⟨w.heap.size, 0, none⟩)) :
    (results fn tmps).run Try.prog (w.alloc (.cells #[.string a, .string b] 38)) = .ok (.agg #[.string a, .string b]) (w.alloc (.cells #[.string a, .string b] 38)) := by
  have hl := load_line w a b
  simp [results, h, hp, hl, asAddr]
/-- A list of one line, just laid. -/
theorem one_line (w : World) (a b : List UInt8) : SeenH (w.alloc (.cells #[.string (bA a), .string (bA b)] 38)) (some ⟨w.heap.size, 0, none⟩) [⟨a, b⟩] := seen_block (World.alloc_heap_new _ _) rfl
theorem two_line (w : World) (a b c d : List UInt8) : SeenH (w.alloc (.cells #[.string (bA a), .string (bA b), .string (bA c), .string (bA d)] 38)) (some ⟨w.heap.size, 0, none⟩) [⟨a, b⟩, ⟨c, d⟩] := seen_block (World.alloc_heap_new _ _) rfl
theorem small_one {a b : List UInt8} (ha : a.length ≤ 10000) (hb : b.length ≤ 5000) : SmallH [⟨a, b⟩] := ⟨by simp, fun x hx => by rw [List.mem_singleton.1 hx]; exact ⟨ha, hb⟩⟩
theorem small_two {a b c d : List UInt8} (ha : a.length ≤ 10000) (hb : b.length ≤ 5000) (hc : c.length ≤ 10000) (hd : d.length ≤ 5000) : SmallH [⟨a, b⟩, ⟨c, d⟩] := ⟨by simp, fun x hx => by
  rcases List.mem_cons.1 hx with rfl | hx
  · exact ⟨ha, hb⟩
  · rw [List.mem_singleton.1 hx]; exact ⟨hc, hd⟩⟩
theorem small_nil : SmallH [] := ⟨by simp, fun x hx => by simp at hx⟩
theorem seen_nil (w : World) (A : Option Addr) : SeenH w A [] := fun h => absurd h (by simp)
end Go.Proofs.Ytcmbckacbdiebaa
