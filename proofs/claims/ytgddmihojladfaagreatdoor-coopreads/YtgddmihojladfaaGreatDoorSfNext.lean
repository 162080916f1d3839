/- The contracts of sfitem.Next, Params, Key and Parse. -/
import Derived.Test.YtgddmihojladfaaGreatDoorSfGuardAll
namespace Go.Proofs.YtgddmihojladfaaGreatDoor
open Go.RowKit Go.Shelf Go.Maps Go.Deep

def RetI (w : World) (o : Option (Sf.Itm × List UInt8)) (e : Ending) (w' : World) : Prop :=
  Below w.heap.size w w' ∧ ((∃ x r v, o = some (x, r) ∧ e = .returned (.tuple #[itmV x.kind x.n x.text v, .string (bA r), .int .i64 0]) ∧ w'.ownsRow w.heap.size 72 4 v x.params.length (parsRow x.params)) ∨ (o = none ∧ e = .returned (.tuple #[itmV 0 0 [] (.slice none 0 0), .string ⟨#[]⟩, .int .i64 50])))
def RetL (w : World) (o : Option (List Sf.Par × List UInt8)) (e : Ending) (w' : World) : Prop :=
  Below w.heap.size w w' ∧ ((∃ l r v, o = some (l, r) ∧ e = .returned (.tuple #[v, .string (bA r), .int .i64 0]) ∧ w'.ownsRow w.heap.size 72 4 v l.length (parsRow l)) ∨ (o = none ∧ e = .returned (.tuple #[.slice none 0 0, .string ⟨#[]⟩, .int .i64 50])))
def RetK (w : World) (o : Option (List UInt8 × List UInt8)) (e : Ending) (w' : World) : Prop :=
  Below w.heap.size w w' ∧ ((∃ k r, o = some (k, r) ∧ e = .returned (.tuple #[.string (bA k), .string (bA r), .int .i64 0])) ∨ (o = none ∧ e = .returned (.tuple #[.string ⟨#[]⟩, .string ⟨#[]⟩, .int .i64 50])))
theorem results_ret3 {fn : Func} (h : fn.results = #[.cell 2 66, .tmp 3, .tmp 4]) (tmps : Array Value) (w : World) {B : Nat} {k n : Int} {t : List UInt8} {l : Value} (hp : tmps[2]?.getD undef = .pointer (some ⟨B, 0, none⟩)) (hb : CBox w B 66 (iC k n t l)) :
    (results fn tmps).run Tryz.prog w = .ok (.tuple #[itmV k n t l, tmps.getD 3 undef, tmps.getD 4 undef]) w := by
  have hl := load_itm hb
  simp [results, h, hp, hl, asAddr]
theorem below_of_g {w W w' : World} {B : Nat} (h0 : w.grownBy W none) (hg : W.grownBy w' (some B)) (hB : w.heap.size ≤ B) : Below w.heap.size w w' :=
  ⟨hg.os.trans h0.os, hg.tape.trans h0.tape, hg.output.trans h0.output, Nat.le_trans h0.size hg.size, fun k hk => by
    rw [hg.block k (Nat.lt_of_lt_of_le hk h0.size) (by simp; omega)]; exact h0.block k hk (by simp)⟩

set_option maxHeartbeats 1000000 in
set_option maxRecDepth 20000 in
theorem next_any (s : List UInt8) (w : World) (hs : s.length ≤ 1000000) : Calls Tryz.prog 50 #[.string (bA s)] w (RetI w (Sf.next s)) := by
  have hmf : ∀ (fn : Fn) (first cap : Array Value) (w : World), (Instr.makeFunc fn first cap).run Tryz.prog w = .ok (.func fn first cap) w := fun _ _ _ _ => rfl
  have hsz : (w.alloc (.cells zI 66)).heap.size = w.heap.size + 1 := by simp
  have hR : Rd (w.heap.size + 1) s ((w.alloc (.cells zI 66)).alloc (.cells #[.string (bA s)] 91)) := by rw [← hsz]; exact Boxed.new _ _ _
  have hb := Lib.hid ((CBox.new w 66 zI).alloc (.cells #[.string (bA s)] 91))
  have H := Lib.hid (guardI_any (w.heap.size + 1) s (Sf.next s) _ hR 62 (enters_of Tryz.func62 (by kernel_rfl) rfl) (fun W h => item_any _ s W h (by omega)))
  clear hR hsz
  go_enter Tryz.func50, Tryz.ntmps50
  go_wp2_with fail
  refine H.out.mono ?_
  rintro e w1 ⟨hg, ⟨x, r, v, ho, rfl, hw⟩ | ⟨ho, rfl⟩⟩
  · have hB := Lib.hid (below_of_g (w := w) (g_alloc (World.grownBy_alloc w _ none) _) hg (by omega))
    have hw' := owns_base4 hw (show w.heap.size + 1 ≤ _ by simp)
    have hb1 := hb.out.kept hg (by simp)
    obtain ⟨va, vc, rfl⟩ := slice4 hw'
    obtain ⟨c0, c1, c2, c3, f0, f1, f2, f3⟩ := hb1.all4
    have HO := Lib.hid ho; have HW := Lib.hid hw'; have HB1 := Lib.hid hb1
    clear ho hg hw hw' hb1
    unfold itmV iC
    go_wp2_with fail
    have hgA : w1.grownBy (set4 w1 w.heap.size (.int .i64 x.kind) (.int .i64 x.n) (.string (bA x.text)) (.slice va x.params.length vc)) (some w.heap.size) := g_set4 (g_refl _ _) _ _ _ _ (.inr rfl)
    refine bodyPost_ret (results_ret3 rfl _ _ rfl (HB1.out.set4 _ _ _ _)) rfl ?_
    rw [HO.out]
    exact ⟨hB.out.grown hgA hB.out.size (fun k hk => by cases hk; exact Nat.le_refl _), .inl ⟨x, r, _, rfl, rfl, owns_base4 (HW.out.kept hgA (not_own4 HW.out (by omega))) (by omega)⟩⟩
  · have hB := Lib.hid (below_of_g (w := w) (g_alloc (World.grownBy_alloc w _ none) _) hg (by omega))
    have hb1 := hb.out.kept hg (by simp)
    obtain ⟨c0, c1, c2, c3, f0, f1, f2, f3⟩ := hb1.all4
    have HO := Lib.hid ho; have HB1 := Lib.hid hb1
    clear ho hg hb1
    unfold itmV iC
    go_wp2_with fail
    have hgA : w1.grownBy (set4 w1 w.heap.size (.int .i64 0) (.int .i64 0) (.string (bA [])) (.slice none 0 0)) (some w.heap.size) := g_set4 (g_refl _ _) _ _ _ _ (.inr rfl)
    refine bodyPost_ret (results_ret3 (k := 0) (n := 0) (t := []) rfl _ _ rfl (HB1.out.set4 _ _ _ _)) rfl ?_
    rw [HO.out]
    exact ⟨hB.out.grown hgA hB.out.size (fun k hk => by cases hk; exact Nat.le_refl _), .inr ⟨rfl, rfl⟩⟩
end Go.Proofs.YtgddmihojladfaaGreatDoor
