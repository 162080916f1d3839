/- The contracts of the closure of sandbox.Words, and of its sort. -/
import Derived.Test.YtnnjfiknfmjliaaSbCode2
import Derived.Shelf.SlSortCmp.NoneTotal
import Derived.Shelf.SlSortCmp.Small
import Derived.Shelf.SlicesG.Cmp
import Derived.Shelf.Small.Bits
import Derived.Shelf.Lay
import Derived.Ground.SlsfProg
import Derived.Ground.SlgcProg
import Derived.Ground.NamesProg
import Derived.Sort.Grow
namespace Go.Proofs
open Go.Shelf
shelf_lay_g SlLaysF.n6 Slsf 6 at Try 22 as Try.sortW
shelf_lay_g SlLaysC2.n5 Slgc 5 at Try 24 as Try.cmpI
shelf_lay Lays.n125 Nm 125 at Try as Try.bitsLen
end Go.Proofs
namespace Go.Proofs.Ytnnjfiknfmjliaa
open Go.Shelf Go.RowKit Go.Lib Go.Sort

/-- A word's place, as the value that lies in a list of words. -/
def encW (i : Nat) : Value := .string (bA (Sb.nm i))
def cfW (i j : Nat) : Int := Lib.compareInt (Sb.kv (Sb.at (Sb.nm i))) (Sb.kv (Sb.at (Sb.nm j)))
theorem nm_len (i : Nat) : (Sb.nm i).length ≤ maxLen := by
  match i with
  | 0 => decide
  | 1 => decide
  | 2 => decide
  | 3 => decide
  | 4 => decide
  | 5 => decide
  | n + 6 => exact Nat.zero_le _
theorem ltW (i j : Nat) : ltOf cfW i j = decide (Sb.kv (Sb.at (Sb.nm i)) < Sb.kv (Sb.at (Sb.nm j))) := by
  unfold ltOf cfW Lib.compareInt
  by_cases h1 : Sb.kv (Sb.at (Sb.nm i)) < Sb.kv (Sb.at (Sb.nm j))
  · simp [h1]
  · by_cases h2 : Sb.kv (Sb.at (Sb.nm i)) > Sb.kv (Sb.at (Sb.nm j)) <;> simp [h1, h2]
theorem swoW : SWO (ltOf cfW) where
  irrefl x := by rw [ltW]; simp
  trans x y z h1 h2 := by rw [ltW] at *; simp at *; omega
  ntrans x y z h1 h2 := by rw [ltW] at *; simp at *; omega
theorem kv_lt {i j : Nat} (hi : i < 6) (hj : j < 6) : (Sb.kv (Sb.at (Sb.nm i)) < Sb.kv (Sb.at (Sb.nm j))) ↔ i < j := by
  rw [at_nm hi, at_nm hj]
  have key : ∀ a b : Fin 6, (Sb.kv a.val < Sb.kv b.val) ↔ a.val < b.val := by decide
  exact key ⟨i, hi⟩ ⟨j, hj⟩

set_option maxHeartbeats 1000000 in
/-- The closure by which words are sorted. -/
theorem cmpW_any (B2 B3 : Nat) (i j : Nat) (W : World) (h2 : CBox W B2 38 #[.map (some B3)]) (h3 : KwAt W B3) :
    Calls Try.prog 23 #[encW i, encW j, .pointer (some ⟨B2, 0, none⟩)] W fun e w' => e = .returned (.int .i64 (cfW i j)) ∧ ∃ q, w' = W.drewN q := by
  have c2 : W.cell? ⟨B2, 0, none⟩ = some (.map (some B3)) := h2.c 0
  have r1 := h3.run (Sb.nm i) (nm_len i)
  have r2 := h3.run (Sb.nm j) (nm_len j)
  have hcon := fun a b W => AnyG.cmp_Compare_int Try.cmpI a b W
  change ∀ a b W, Calls Try.prog 24 _ _ _ at hcon
  unfold encW cfW
  have hc := hcon (Sb.kv (Sb.at (Sb.nm i))) (Sb.kv (Sb.at (Sb.nm j))) W
  generalize Lib.compareInt (Sb.kv (Sb.at (Sb.nm i))) (Sb.kv (Sb.at (Sb.nm j))) = r at hc ⊢
  generalize Sb.kv (Sb.at (Sb.nm i)) = v1 at hc r1 ⊢
  generalize Sb.kv (Sb.at (Sb.nm j)) = v2 at hc r2 ⊢
  generalize bA (Sb.nm i) = s1 at r1 ⊢
  generalize bA (Sb.nm j) = s2 at r2 ⊢
  clear hcon h2 h3
  go_enter Try.func23, Try.ntmps23
  go_wp2_with fail
  refine hc.mono ?_
  rintro e w1 ⟨rfl, rfl⟩
  go_wp2_with fail
  go_ret
  exact ⟨rfl, 0, rfl⟩

/-- What lies in other blocks is the same in every world that the sort passes through. -/
theorem sort_heap {α : Type} [Inhabited α] (enc : α → Value) (w : World) (blk off m : Nat) (dk : Array α) (os : Array Obj) (k : Nat) (hk : k < w.heap.size) (hne : k ≠ blk) : (sortWorld enc w blk off m dk os).heap[k]? = w.heap[k]? := by
  unfold sortWorld
  have hs : (putRow enc (Sort.ahead w m) blk off dk).heap.size = w.heap.size := by unfold putRow mapBlock Sort.ahead; simp
  rw [heap_grow_old _ _ (by rw [hs]; exact hk)]
  unfold putRow mapBlock Sort.ahead
  simp only [Array.getElem?_modify]
  rw [if_neg (fun e => hne e.symm)]
theorem cmpReadsW (B2 B3 blk off size : Nat) (w : World) (h2 : CBox w B2 38 #[.map (some B3)]) (h3 : KwAt w B3) (n2 : B2 ≠ blk) (n3 : B3 ≠ blk) : CmpReads Try.prog 23 #[.pointer (some ⟨B2, 0, none⟩)] encW cfW blk off size w := by
  intro m os dk _ x y
  refine cmpW_any B2 B3 x y _ ?_ ?_
  · exact (sort_heap encW w blk off m dk os B2 h2.lt n2).trans h2
  · have hlt := h3.lt
    obtain ⟨es, clock, hb, F, hs, hD⟩ := h3
    exact ⟨es, clock, (sort_heap encW w blk off m dk os B3 hlt n3).trans hb, F, hs, hD⟩
theorem hlenW (n : Nat) (W : World) (h : n ≤ 12) : Calls Try.prog 32 #[.int .u64 n] W fun e w' => (∃ l : Int, e = .returned (.int .i64 l)) ∧ w' = W :=
  (Any.bits_Len Try.bitsLen n W (by omega) (by omega)).mono fun _ _ ⟨he, hw⟩ => ⟨⟨_, he⟩, hw⟩

/-! ### what is sorted -/
/-- A list of places without doubles, once sorted, is the flags' own order. -/
theorem sorted_is {d d' : Array Nat} {x : Int} (hn : d.toList.Nodup) (hm : ∀ i, i ∈ d.toList ↔ i < 6 ∧ Sb.bit x i = false) (hp : PermIn 0 d.size d d') (hs : SortedIn (ltOf cfW) 0 d.size d') :
    d'.toList = (List.range 6).filter fun i => !Sb.bit x i := by
  obtain ⟨p1, _, p3⟩ := hp
  have hp' : d'.toList.Perm d.toList := by
    have e1 : d'.extract 0 d.size = d' := by rw [← p1]; exact Array.extract_size
    have e2 : d.extract 0 d.size = d := Array.extract_size
    rw [e1, e2] at p3; exact p3
  have hn' : d'.toList.Nodup := (hp'.nodup_iff).2 hn
  have h6 : ∀ i ∈ d'.toList, i < 6 := fun i hi => ((hm i).1 (hp'.mem_iff.1 hi)).1
  have hr : ((List.range 6).filter fun i => !Sb.bit x i).Nodup := List.Pairwise.filter _ List.nodup_range
  have hq : d'.toList.Perm ((List.range 6).filter fun i => !Sb.bit x i) := by
    refine (List.perm_ext_iff_of_nodup hn' hr).2 fun i => ?_
    rw [hp'.mem_iff, hm i, List.mem_filter, List.mem_range]
    simp
  have s1 : d'.toList.Pairwise (fun a b => a ≤ b) := by
    rw [List.pairwise_iff_getElem]
    intro i j hi hj hij
    have hj' : j < d'.size := by simpa using hj
    have hi' : i < d'.size := by simpa using hi
    have := hs i j (Nat.zero_le _) hij (by omega)
    rw [getElem!_pos d' j hj', getElem!_pos d' i hi', ltW] at this
    have a6 := h6 d'[i] (by simp)
    have b6 := h6 d'[j] (by simp)
    have := of_decide_eq_false this
    rw [kv_lt b6 a6] at this
    simp only [Array.getElem_toList]
    omega
  have s2 : ((List.range 6).filter fun i => !Sb.bit x i).Pairwise (fun a b => a ≤ b) := List.Pairwise.filter _ (by decide)
  exact List.Perm.eq_of_pairwise (fun a b _ _ h1 h2 => Nat.le_antisymm h1 h2) s1 s2 hq

/-! ### the sort -/
theorem row_heap {w : World} {g : Nat} {cur : Array Value} {e : TypeId} (d : Array Nat) (hb : w.heap[g]? = some (.cells cur e (0, 0))) (q : Nat) : ((putRow encW w g 0 d).drewN q).heap[g]? = some (.cells (putCells encW 0 d cur) e (0, 0)) := by
  show (mapBlock w g (putCells encW 0 d)).heap[g]? = _
  unfold mapBlock
  simp only [Array.getElem?_modify, if_true]
  rw [hb]; rfl
theorem row_below {w : World} {g : Nat} (d : Array Nat) (q : Nat) : w.grownBy ((putRow encW w g 0 d).drewN q) (some g) := by
  refine ⟨rfl, rfl, rfl, ?_, fun k _ hk => ?_⟩
  · show w.heap.size ≤ (mapBlock w g (putCells encW 0 d)).heap.size
    unfold mapBlock; simp
  · show (mapBlock w g (putCells encW 0 d)).heap[k]? = _
    unfold mapBlock
    simp only [Array.getElem?_modify]
    rw [if_neg (fun e => hk (by rw [e]))]
theorem own_sorted {w : World} {base : Nat} {e : TypeId} {g n cap : Nat} {xs : List Value} (h : w.ownsRow base e 1 (.slice (some ⟨g, 0, none⟩) n cap) n xs) (d : Array Nat) (hd : d.size = n) (q : Nat) :
    ((putRow encW w g 0 d).drewN q).ownsRow base e 1 (.slice (some ⟨g, 0, none⟩) n cap) n (d.toList.map encW) := by
  rcases h.2 with ⟨h', _⟩ | ⟨g', cap', cur, h', hb, hg, hnc, hcm, hcs, htake⟩
  · simp at h'
  · simp only [Value.slice.injEq, Option.some.injEq, Addr.mk.injEq, and_true, true_and] at h'
    obtain ⟨rfl, rfl⟩ := h'
    refine ⟨by simp [hd], .inr ⟨g, cap, _, rfl, hb, row_heap d hg q, hnc, hcm, by unfold putCells; simpa using hcs, ?_⟩⟩
    apply List.ext_getElem?
    intro j
    by_cases hj : j < n
    · have h1 : j < cur.size := by omega
      have h2 : j < d.size := by omega
      simp [putCells, hj, h1, h2]
    · simp [putCells, hj, List.getElem?_take, hd]
set_option maxHeartbeats 1000000 in
theorem sortW_any {w : World} {base : Nat} {v : Value} {is : List Nat} {B2 B3 : Nat} (h : w.ownsRow base 9 1 v is.length (is.map encW)) (hl : is.length ≤ 12) (h2 : CBox w B2 38 #[.map (some B3)]) (h3 : KwAt w B3) (n2 : B2 < base) (n3 : B3 < base) :
    Calls Try.prog 22 #[v, .func (.func 23) #[] #[.pointer (some ⟨B2, 0, none⟩)]] w fun e w' => e = .returned (.tuple #[]) ∧
      ∃ d : Array Nat, PermIn 0 is.toArray.size is.toArray d ∧ SortedIn (ltOf cfW) 0 is.toArray.size d ∧ w'.ownsRow base 9 1 v is.length (d.toList.map encW) ∧ Below base w w' := by
  by_cases h0 : is = []
  · subst h0
    have hv : ∃ p cap, v = .slice p 0 cap := by
      rcases h.2 with ⟨rfl, _⟩ | ⟨g, cap, cur, rfl, _⟩
      · exact ⟨_, _, rfl⟩
      · exact ⟨_, _, rfl⟩
    obtain ⟨p, cap, rfl⟩ := hv
    have hS := AnyF.slices_SortFunc_none (P := Try.prog) (ρ := Try.sortW_ren) { Try.sortW with } p cap (.func (.func 23) #[] #[.pointer (some ⟨B2, 0, none⟩)]) w
    change Calls Try.prog 22 _ _ _ at hS
    refine hS.mono ?_
    rintro e w' ⟨rfl, rfl⟩
    exact ⟨rfl, #[], ⟨rfl, fun _ _ => rfl, by simp⟩, fun i j _ _ hj => absurd hj (by simp), h, Below.refl _ _⟩
  · have hpos : 0 < is.length := List.length_pos_iff.2 h0
    obtain ⟨g, cap, rfl, hg⟩ : ∃ g cap, v = .slice (some ⟨g, 0, none⟩) is.length cap ∧ base ≤ g := by
      rcases h.2 with ⟨_, h'⟩ | ⟨g, cap, cur, rfl, hb, _⟩
      · omega
      · exact ⟨g, cap, rfl, hb⟩
    have eg : ∀ args w, (callFunc 23 args).run Try.prog w = .ok (.enter 23 args) w := enters_of Try.func23 (by kernel_rfl) rfl
    have hH : Holds encW w g 0 is.toArray := by
      intro j hj
      have hj' : j < is.length := by simpa using hj
      refine ⟨?_, ?_⟩
      · have := World.ownsRow.cellAt h j (by omega)
        rw [Nat.zero_add, this, List.getElem?_map, List.getElem?_eq_getElem hj', getElem!_pos is.toArray j hj]
        simp
      · rw [Nat.zero_add]; exact World.ownsRow.frozenAt h j
    have hS := Any.slices_SortFunc_small_sorted Try.sortW encW (fun _ => rfl) cfW swoW 23 #[.pointer (some ⟨B2, 0, none⟩)] g 0 cap is.toArray w eg (cmpReadsW B2 B3 g 0 is.toArray.size w h2 h3 (by omega) (by omega)) hH (by simpa using hl) hlenW
    change Calls Try.prog 22 _ _ _ at hS
    rw [List.size_toArray] at hS
    refine hS.mono ?_
    rintro e w' ⟨rfl, d, q, hp, hs, rfl⟩
    have hd : d.size = is.length := by simpa using hp.1
    refine ⟨rfl, d, by simpa using hp, by simpa using hs, own_sorted h d hd q, ?_⟩
    exact (Below.refl base w).grown (row_below d q) (Nat.le_trans (Nat.le_of_lt_succ (Nat.lt_succ_of_le hg)) (Nat.le_of_lt (h.lt g rfl).2)) (fun k hk => by cases hk; exact hg)
end Go.Proofs.Ytnnjfiknfmjliaa
