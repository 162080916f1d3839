/- Lists of headers laid one behind the other: at an operation, and as steps of a region that draws its order. (CoApp, without coop.) -/
import Derived.Deep.AppendLies
import Derived.Deep.RegionHeldLaw
import Derived.Laws.AppendOwnNone
import Derived.Test.YtcmbckacbdiebaaLowFew
import Derived.Test.YtcmbckacbdiebaaHdOpen
namespace Go.Proofs.Ytcmbckacbdiebaa
open Go.RowKit Go.Deep

theorem info_hdr : (Try.prog.info? 38).map (fun i => (i.zero, i.size, i.bytes)) = some (some (.agg #[.string ⟨#[]⟩, .string ⟨#[]⟩]), 2, 32) := by kernel_rfl
/-- 'append(s, x...)', s a row of one's own, x nil or lying somewhere, as one step of a region that draws its order. -/
theorem step_append_own {P : Program} {ops : Array Oper} {o : Oper} {a : Act} {w : World} {K : Act → World → Prop} {Q : Exit → Act → World → Prop} {E : Prop} (hgd : o.guard = none) (s x : Operand) (t : TypeId)
    (ho : o.op = .call { callee := .builtin .append, args := #[s, x], argTypes := #[t, t] })
    (base : Nat) (e : TypeId) (i : TypeInfo) (z : Value) (size bytes : Nat) (ht : P.underlying t = some (.slice e)) (hi : P.info? e = some i) (hz : i.zero = some z)
    (hsize : i.size = size) (hby : i.bytes = bytes) (hzs : z.cells.size = size) (hsz : 0 < size)
    (v : Value) (n : Nat) (xs : List Value) (hs : a.eval s = v) (hown : w.ownsRow base e size v n xs)
    (vx : Value) (hx : a.eval x = vx) (m : Nat) (news : List Value) (hv : (vx = .slice none 0 0 ∧ m = 0 ∧ news = []) ∨ ∃ ad c, vx = .slice (some ad) m c ∧ ∀ j u, news[j]? = some u → w.cell? (ad.add j) = some u)
    (hl : news.length = m * size) (h1 : ∀ u ∈ news, u.oneCell' = true) (h63 : n + m ≤ maxLen) (hbytes : (n + m) * bytes ≤ 140737488355328) (hbase : base ≤ w.heap.size)
    (h : ∀ v' w', w'.ownsRow base e size v' (n + m) (xs ++ news) → w.grownBy w' v.ownBlock → K (a.put o.dst v') w') :
    if Region.wanted o (yielded ops a.tmps) = true then Oper.wp P o a w K Q else E := by
  have hw : Region.wanted o (yielded ops a.tmps) = true := by simp [Region.wanted, hgd]
  rw [if_pos hw]
  rcases hv with ⟨rfl, rfl, rfl⟩ | ⟨ad, c, rfl, hc⟩
  · have hrun := run_append_owned_none (P := P) (w := w) base t o.type e i size ht hi v n xs hown
    unfold Oper.wp
    simp [execOp, ho, resolve, invoke, builtin, hs, hx, hrun, Result.andThen]
    exact h v w (by simpa using hown) ⟨rfl, rfl, rfl, Nat.le_refl _, fun _ _ _ => rfl⟩
  · obtain ⟨v', w', hrun, r1, r2, _⟩ := run_append_own (P := P) w base t o.type e i z size bytes ht hi hz hsize hby hzs hsz v n xs hown ad m c news hl hc h1 h63 hbytes hbase
    unfold Oper.wp
    simp [execOp, ho, resolve, invoke, builtin, hs, hx, hrun, Result.andThen]
    exact h v' w' r1 r2
theorem rowH_app (a b : List Hd.Hdr) : rowH a ++ rowH b = rowH (a ++ b) := by unfold rowH; simp
/-- The cells of a list of headers that lies somewhere, as a row. -/
theorem rowH_cells {w : World} {g o : Nat} : ∀ (l : List Hd.Hdr) (k : Nat), (∀ i (h : i < l.length), Cells2 w g (o + (k + i) * 2) l[i]) → ∀ (j : Nat) (u : Value), (rowH l)[j]? = some u → w.cell? ⟨g, o + k * 2 + j, none⟩ = some u
  | [], k, _, j, u, hu => by simp [rowH] at hu
  | x :: l, k, h, j, u, hu => by
    have h0 := h 0 (by simp)
    have ih := rowH_cells l (k + 1) (fun i hi => by
      have := h (i + 1) (by simpa using hi)
      rw [show k + (i + 1) = k + 1 + i by omega] at this
      exact this)
    have e : rowH (x :: l) = hdC x ++ rowH l := rfl
    rw [e] at hu
    simp only [List.getElem_cons_zero, Nat.add_zero] at h0
    match j with
    | 0 => simp only [hdC, List.cons_append, List.getElem?_cons_zero, Option.some.injEq] at hu; subst hu; exact h0.1
    | 1 => simp only [hdC, List.cons_append, List.getElem?_cons_succ, List.getElem?_cons_zero, Option.some.injEq] at hu; subst hu; exact h0.2
    | j + 2 =>
      have hu' : (rowH l)[j]? = some u := by simpa [hdC] using hu
      have := ih j u hu'
      rw [show o + k * 2 + (j + 2) = o + (k + 1) * 2 + j by omega]
      exact this
/-- What an append wants of a list that lies somewhere. -/
theorem news_heads {w : World} {A : Option Addr} {n c : Nat} {l : List Hd.Hdr} (hn : l.length = n) (hnl : A = none → n = 0 ∧ c = 0) (h : SeenH w A l) : (Value.slice A n c = .slice none 0 0 ∧ n = 0 ∧ rowH l = []) ∨ ∃ ad d, Value.slice A n c = .slice (some ad) n d ∧ ∀ j u, (rowH l)[j]? = some u → w.cell? (ad.add j) = some u := by
  subst hn
  cases A with
  | none =>
    obtain ⟨h0, rfl⟩ := hnl rfl
    have e0 : l = [] := List.length_eq_zero_iff.1 h0
    subst e0
    exact .inl ⟨rfl, rfl, rfl⟩
  | some a =>
    refine .inr ⟨a, c, rfl, fun j u hu => ?_⟩
    by_cases hl : 0 < l.length
    · obtain ⟨g, o, e, hg, hc⟩ := h hl
      cases e
      have := rowH_cells (w := w) (g := g) (o := o) l 0 (fun i hi => by rw [Nat.zero_add]; exact hc i hi) j u hu
      rw [Nat.zero_mul, Nat.add_zero] at this
      have ad : (⟨g, o, none⟩ : Addr).add j = ⟨g, o + j, none⟩ := by simp [Addr.add]
      rw [ad]; exact this
    · have e0 : l = [] := List.length_eq_zero_iff.1 (by omega)
      subst e0
      simp [rowH] at hu
theorem own_none {w : World} {base B : Nat} (hB : w.heap[B]? = some (.cells #[] 38 (0, 0))) (hb : base ≤ B) : OwnH w base (.slice (some ⟨B, 0, none⟩) 0 0) [] :=
  ⟨by simp [rowH], .inr ⟨B, 0, #[], rfl, hb, hB, Nat.le_refl _, by simp [maxLen], by simp, by simp [rowH]⟩⟩
/-- 'append(a, b...)' of lists of headers, a one's own, b lying somewhere or nil. -/
theorem step_app {ops : Array Oper} {o : Oper} {a : Act} {w : World} {K : Act → World → Prop} {Q : Exit → Act → World → Prop} {E : Prop} (hgd : o.guard = none) (s x : Operand)
    (ho : o.op = .call { callee := .builtin .append, args := #[s, x], argTypes := #[29, 29] }) (base : Nat) (v : Value) (la lb : List Hd.Hdr) (hs : a.eval s = v) (hown : OwnH w base v la)
    (A : Option Addr) (n c m : Nat) (hx : a.eval x = .slice A n c) (hn : lb.length = n) (hnl : A = none → n = 0 ∧ c = 0) (hA : SeenH w A lb) (hm : la.length + n = m) (h63 : m ≤ maxLen) (hbytes : m * 32 ≤ 140737488355328) (hb : base ≤ w.heap.size)
    (h : ∀ A' c' w', OwnH w' base (.slice A' m c') (la ++ lb) → w.grownBy w' v.ownBlock → SeenH w' A' (la ++ lb) → Below base w w' → K (a.put o.dst (.slice A' m c')) w') :
    if Region.wanted o (yielded ops a.tmps) = true then Oper.wp Try.prog o a w K Q else E := by
  obtain ⟨i0, hi, hz0, hz1, hz2⟩ := info_parts info_hdr
  subst hn; subst hm
  refine step_append_own hgd s x 29 ho base 38 i0 _ 2 32 Try.underlying29 hi hz0 hz1 hz2 rfl (by decide) v la.length (rowH la) hs hown _ hx lb.length (rowH lb) (news_heads rfl hnl hA) (rowH_len lb) (rowH_one lb) h63 hbytes hb ?_
  intro v' w' r1 r2
  have hown' : OwnH w' base v' (la ++ lb) := by
    unfold OwnH
    rw [rowH_app, ← List.length_append] at r1
    exact r1
  obtain ⟨A', c', rfl, hs', _⟩ := hown'.slice
  rw [List.length_append] at hown' ⊢
  refine h A' c' w' hown' r2 hs' ((Below.refl base w).grown r2 hb (fun k hk => (hown.lt k hk).1))
theorem below_one (w : World) (o : Obj) : Below w.heap.size w (w.alloc o) := (Below.refl _ _).alloc (Nat.le_refl _) _
theorem heap_first (w : World) (a b : Obj) : ((w.alloc a).alloc b).drew.heap[w.heap.size]? = some a := ((below_one (w.alloc a) b).block w.heap.size (by simp)).trans (World.alloc_heap_new w a)
theorem heap_second (w : World) (a b : Obj) : ((w.alloc a).alloc b).drew.heap[w.heap.size + 1]? = some b := by
  have h : ((w.alloc a).alloc b).heap[(w.alloc a).heap.size]? = some b := World.alloc_heap_new (w.alloc a) b
  rw [show (w.alloc a).heap.size = w.heap.size + 1 by simp] at h
  exact h
theorem heap_lt1 (w : World) (a b : Obj) : w.heap.size + 1 < ((w.alloc a).alloc b).drew.heap.size := by
  have h : ((w.alloc a).alloc b).drew.heap.size = ((w.alloc a).alloc b).heap.size := rfl
  rw [h]; simp
theorem heap_lt0 (w : World) (a b : Obj) : w.heap.size < ((w.alloc a).alloc b).drew.heap.size := Nat.lt_of_lt_of_le (Nat.lt_succ_self _) (Nat.le_of_lt (heap_lt1 w a b))
theorem rdy_h {w1 W : World} {B : Nat} {h : Hd.Hdr} (hx : HBox w1 B h) (hb : Below w1.heap.size w1 W) : W.cell? ⟨B, 0, none⟩ = some (.string (bA h.name)) ∧ W.cell? ⟨B, 1, none⟩ = some (.string (bA h.value)) ∧ Below w1.heap.size w1 W :=
  ⟨(hb.cell hx.lt).trans hx.c0, (hb.cell hx.lt).trans hx.c1, hb⟩
/-- The one header that is laid behind: its block, wherever the order has put it. -/
theorem one_kept {w w4 : World} {B : Nat} {h : Hd.Hdr} {row : Option Nat} (hB : w.heap[B]? = some (.cells #[.string (bA h.name), .string (bA h.value)] 38 (0, 0))) (hg : w.grownBy w4 row) (hne : some B ≠ row) : SeenH w4 (some ⟨B, 0, none⟩) [h] :=
  seen_block ((hg.block B (Array.getElem?_eq_some_iff.1 hB).1 hne).trans hB) rfl
theorem emod_nat (b : Int) (n : Nat) : ∃ k : Nat, b % ((n : Int) + 1) = (k : Int) ∧ k ≤ n := by
  have h1 := Int.emod_nonneg b (show ((n : Int) + 1) ≠ 0 by omega)
  have h2 := Int.emod_lt_of_pos b (show (0 : Int) < (n : Int) + 1 by omega)
  exact ⟨(b % ((n : Int) + 1)).toNat, by omega, by omega⟩
theorem tmod_neg (a : Int) (n : Nat) (h0 : -9223372036854775808 ≤ a) (h : a < 0) : ∃ k : Nat, (wrap64 (-wrap64 (a + 1))).tmod ((n : Int) + 1) = (k : Int) ∧ k ≤ n := by
  rw [IntWalk.wrap64_in (a + 1) (by omega), IntWalk.wrap64_in (-(a + 1)) (by omega), Int.tmod_eq_emod_of_nonneg (by omega)]
  exact emod_nat _ n
theorem SeenH.take {w : World} {A : Option Addr} {l : List Hd.Hdr} (h : SeenH w A l) (k : Nat) : SeenH w A (l.take k) := fun hn => by
  rw [List.length_take] at hn
  obtain ⟨g, o, e, hg, hc⟩ := h (by omega)
  refine ⟨g, o, e, hg, fun i hi => ?_⟩
  rw [List.length_take] at hi
  rw [List.getElem_take]
  exact hc i (by omega)
theorem SeenH.drop {w : World} {g o : Nat} {l : List Hd.Hdr} (h : SeenH w (some ⟨g, o, none⟩) l) (k : Nat) : SeenH w (some ⟨g, o + k * 2, none⟩) (l.drop k) := fun hn => by
  rw [List.length_drop] at hn
  obtain ⟨g', o', e, hg, hc⟩ := h (by omega)
  cases e
  refine ⟨g, o + k * 2, rfl, hg, fun i hi => ?_⟩
  rw [List.length_drop] at hi
  have := hc (k + i) (by omega)
  rw [List.getElem_drop, show o + k * 2 + i * 2 = o + (k + i) * 2 by omega]
  exact this
set_option maxHeartbeats 1000000 in
/-- 'l[:k]'. -/
theorem slice_to (A : Option Addr) (n c k : Nat) (hk : k ≤ n) (hc : n ≤ c) : ∃ A1, (∀ W : World, (Instr.slice 29 (.slice A n c) none (some (.int .i64 (k : Int))) none).run Try.prog W = .ok (.slice A1 k c) W) ∧ ((A = none → n = 0 ∧ c = 0) → A1 = none → k = 0 ∧ c = 0) ∧ (∀ (W : World) (l : List Hd.Hdr), SeenH W A l → SeenH W A1 (l.take k)) := by
  have hk2 : (k : Int) ≤ (c : Int) := by omega
  refine ⟨if c = 0 then A else A.map (·.add (0 * 2)), fun W => ?_, fun h e => ?_, fun W l hs hn => ?_⟩
  · simp [go_sem, hk2, Try.underlying29]
  · cases A with
    | none => have := h rfl; omega
    | some a => split at e <;> cases e
  · obtain ⟨g, o, rfl, hg, hcs⟩ := (hs.take k) hn
    refine ⟨g, o, ?_, hg, hcs⟩
    split <;> simp [Addr.add]
set_option maxHeartbeats 1000000 in
/-- 'l[k:]'. -/
theorem slice_from (A : Option Addr) (n c k : Nat) (hk : k ≤ n) (hc : n ≤ c) : ∃ A2, (∀ W : World, (Instr.slice 29 (.slice A n c) (some (.int .i64 (k : Int))) none none).run Try.prog W = .ok (.slice A2 (n - k) (c - k)) W) ∧ ((A = none → n = 0 ∧ c = 0) → A2 = none → n - k = 0 ∧ c - k = 0) ∧ (∀ (W : World) (l : List Hd.Hdr), l.length = n → SeenH W A l → SeenH W A2 (l.drop k)) := by
  have hk2 : (k : Int) ≤ (n : Int) := by omega
  refine ⟨if c = k then A else A.map (·.add (k * 2)), fun W => ?_, fun h e => ?_, fun W l hl hs hn => ?_⟩
  · simp [go_sem, hk2, Try.underlying29]
  · cases A with
    | none => have := h rfl; omega
    | some a => split at e <;> cases e
  · rw [List.length_drop] at hn
    obtain ⟨g, o, rfl, hg, hcs⟩ := hs (by omega)
    have hd := SeenH.drop (fun _ => ⟨g, o, rfl, hg, hcs⟩) k
    rw [if_neg (by omega)]
    have e : Option.map (fun x : Addr => x.add (k * 2)) (some ⟨g, o, none⟩) = some ⟨g, o + k * 2, none⟩ := by simp [Addr.add]
    rw [e]
    exact hd (by rw [List.length_drop]; omega)
/-- 'append(a, b...)' of lists of headers, a one's own, b lying somewhere or nil. -/
theorem wp_app {ops : Array Oper} {rest : List Oper} {o : Oper} {a : Act} {w : World} {Q : Exit → Act → World → Prop} (hgd : o.guard = none) (s x : Operand)
    (ho : o.op = .call { callee := .builtin .append, args := #[s, x], argTypes := #[29, 29] }) (base : Nat) (v : Value) (la lb : List Hd.Hdr) (hs : a.eval s = v) (hown : OwnH w base v la)
    (A : Option Addr) (n c m : Nat) (hx : a.eval x = .slice A n c) (hn : lb.length = n) (hnl : A = none → n = 0 ∧ c = 0) (hA : SeenH w A lb) (hm : la.length + n = m) (h63 : m ≤ maxLen) (hbytes : m * 32 ≤ 140737488355328) (hb : base ≤ w.heap.size)
    (h : ∀ A' c' w', OwnH w' base (.slice A' m c') (la ++ lb) → SeenH w' A' (la ++ lb) → Below base w w' → wpList Try.prog ops Q rest (a.put o.dst (.slice A' m c')) w') :
    wpList Try.prog ops Q (o :: rest) a w := by
  obtain ⟨i0, hi, hz0, hz1, hz2⟩ := info_parts info_hdr
  subst hn; subst hm
  have key : ∀ v' w', w'.ownsRow base 38 2 v' (la.length + lb.length) (rowH la ++ rowH lb) → w.grownBy w' v.ownBlock → wpList Try.prog ops Q rest (a.put o.dst v') w' := by
    intro v' w' r1 r2
    have hown' : OwnH w' base v' (la ++ lb) := by
      unfold OwnH
      rw [rowH_app, ← List.length_append] at r1
      exact r1
    obtain ⟨A', c', rfl, hs', _⟩ := hown'.slice
    rw [List.length_append] at hown' ⊢
    exact h A' c' w' hown' hs' ((Below.refl base w).grown r2 hb (fun k hk => (hown.lt k hk).1))
  rcases news_heads (l := lb) (c := c) rfl hnl hA with ⟨e, h0, h1⟩ | ⟨ad, c', e, hc⟩
  · refine wpList_append_own_none hgd s x 29 ho base 38 i0 2 Try.underlying29 hi v _ _ hs hown (hx.trans e) ?_
    exact key v w (by rw [h0, h1, Nat.add_zero, List.append_nil]; exact hown) ⟨rfl, rfl, rfl, Nat.le_refl _, fun _ _ _ => rfl⟩
  · refine wpList_append_own _ hgd s x 29 ho base 38 i0 _ 2 32 Try.underlying29 hi hz0 hz1 hz2 rfl (by decide) v _ _ hs hown ad lb.length c' (rowH lb) (hx.trans e) (rowH_len lb) hc (rowH_one lb) h63 hbytes hb ?_
    intro v' w' r1 r2 _
    exact key v' w' r1 r2
/-- 'append(a, b...)' of lists of headers, a one's own, b lying somewhere or nil. What has turned is told. -/
theorem wp_appg {ops : Array Oper} {rest : List Oper} {o : Oper} {a : Act} {w : World} {Q : Exit → Act → World → Prop} (hgd : o.guard = none) (s x : Operand)
    (ho : o.op = .call { callee := .builtin .append, args := #[s, x], argTypes := #[29, 29] }) (base : Nat) (v : Value) (la lb : List Hd.Hdr) (hs : a.eval s = v) (hown : OwnH w base v la)
    (A : Option Addr) (n c m : Nat) (hx : a.eval x = .slice A n c) (hn : lb.length = n) (hnl : A = none → n = 0 ∧ c = 0) (hA : SeenH w A lb) (hm : la.length + n = m) (h63 : m ≤ maxLen) (hbytes : m * 32 ≤ 140737488355328) (hb : base ≤ w.heap.size)
    (h : ∀ A' c' w', OwnH w' base (.slice A' m c') (la ++ lb) → SeenH w' A' (la ++ lb) → Below base w w' → w.grownBy w' v.ownBlock → wpList Try.prog ops Q rest (a.put o.dst (.slice A' m c')) w') :
    wpList Try.prog ops Q (o :: rest) a w := by
  obtain ⟨i0, hi, hz0, hz1, hz2⟩ := info_parts info_hdr
  subst hn; subst hm
  have key : ∀ v' w', w'.ownsRow base 38 2 v' (la.length + lb.length) (rowH la ++ rowH lb) → w.grownBy w' v.ownBlock → wpList Try.prog ops Q rest (a.put o.dst v') w' := by
    intro v' w' r1 r2
    have hown' : OwnH w' base v' (la ++ lb) := by
      unfold OwnH
      rw [rowH_app, ← List.length_append] at r1
      exact r1
    obtain ⟨A', c', rfl, hs', _⟩ := hown'.slice
    rw [List.length_append] at hown' ⊢
    exact h A' c' w' hown' hs' ((Below.refl base w).grown r2 hb (fun k hk => (hown.lt k hk).1)) r2
  rcases news_heads (l := lb) (c := c) rfl hnl hA with ⟨e, h0, h1⟩ | ⟨ad, c', e, hc⟩
  · refine wpList_append_own_none hgd s x 29 ho base 38 i0 2 Try.underlying29 hi v _ _ hs hown (hx.trans e) ?_
    exact key v w (by rw [h0, h1, Nat.add_zero, List.append_nil]; exact hown) ⟨rfl, rfl, rfl, Nat.le_refl _, fun _ _ _ => rfl⟩
  · refine wpList_append_own _ hgd s x 29 ho base 38 i0 _ 2 32 Try.underlying29 hi hz0 hz1 hz2 rfl (by decide) v _ _ hs hown ad lb.length c' (rowH lb) (hx.trans e) (rowH_len lb) hc (rowH_one lb) h63 hbytes hb ?_
    intro v' w' r1 r2 _
    exact key v' w' r1 r2
/-- A list of one header, just laid, as one's own. -/
theorem own_one {w : World} {base B : Nat} {h : Hd.Hdr} (hB : w.heap[B]? = some (.cells #[.string (bA h.name), .string (bA h.value)] 38 (0, 0))) (hb : base ≤ B) : OwnH w base (.slice (some ⟨B, 0, none⟩) 1 1) [h] :=
  ⟨by simp [rowH, hdC], .inr ⟨B, 1, #[.string (bA h.name), .string (bA h.value)], rfl, hb, hB, Nat.le_refl _, by simp [maxLen], by simp, by simp [rowH, hdC]⟩⟩
theorem own_nl {w : World} {base n c : Nat} {A : Option Addr} {l : List Hd.Hdr} (h : OwnH w base (.slice A n c) l) : A = none → l.length = 0 ∧ c = 0 := by
  rintro rfl
  obtain ⟨_, ⟨h1, h2⟩ | ⟨g, cap, cur, h1, _⟩⟩ := h
  · cases h1; exact ⟨h2, rfl⟩
  · cases h1
end Go.Proofs.Ytcmbckacbdiebaa
