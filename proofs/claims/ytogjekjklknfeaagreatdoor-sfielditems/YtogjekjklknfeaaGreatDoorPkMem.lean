/- Texts of one layer, joined. -/
import Derived.Test.YtogjekjklknfeaaGreatDoorPkNext
import Derived.Test.YtogjekjklknfeaaGreatDoorPkTail
import Derived.Test.YtogjekjklknfeaaGreatDoorPkSdm
import Derived.RangeFuncNested
import Derived.RangeFuncBound
import Derived.RangeFuncCalls
import Derived.RangeFuncLeaves
import Derived.Shelf.Strings.SlTrimAscii
import Derived.Test.YtogjekjklknfeaaGreatDoorPkSame
import Derived.Test.YtogjekjklknfeaaGreatDoorPkRa

/- Lists of items and of members in memory: laws of worlds. -/

namespace Go.Proofs.YtogjekjklknfeaaGreatDoor
open Go.RowKit Go.Shelf Go.Maps Go.Deep

/-- Blocks whose elements are of that type stay as they are. -/
def KeptT (e : TypeId) (w w' : World) : Prop := ∀ (g : Nat) (cur : Array Value), w.heap[g]? = some (.cells cur e (0, 0)) → w'.heap[g]? = some (.cells cur e (0, 0))
theorem KeptT.refl (e : TypeId) (w : World) : KeptT e w w := fun _ _ h => h
theorem KeptT.trans {e : TypeId} {a b c : World} (h : KeptT e a b) (k : KeptT e b c) : KeptT e a c := fun g cur x => k g cur (h g cur x)
theorem KeptT.below {e : TypeId} {w w' : World} (h : Below w.heap.size w w') : KeptT e w w' := fun g _ hg => (h.block g (Array.getElem?_eq_some_iff.1 hg).1).trans hg
theorem KeptT.alloc (e : TypeId) (w : World) (o : Obj) : KeptT e w (w.alloc o) := .below ((Below.refl _ _).alloc (Nat.le_refl _) o)
theorem KeptT.row {e e' : TypeId} (hne : e ≠ e') {w w' : World} {base size n : Nat} {v : Value} {xs : List Value} (h : w.ownsRow base e' size v n xs) (hg : w.grownBy w' v.ownBlock) : KeptT e w w' := fun g cur hc => by
  have hlt := (Array.getElem?_eq_some_iff.1 hc).1
  refine (hg.block g hlt ?_).trans hc
  intro hb
  obtain ⟨_, ⟨rfl, _⟩ | ⟨g', cap, cur', rfl, _, hg', _⟩⟩ := h
  · cases hb
  · cases hb
    rw [hg'] at hc
    cases hc
    exact hne rfl
theorem KeptT.box {e e' : TypeId} (hne : e ≠ e') {w w' : World} {B : Nat} {cs : Array Value} (h : CBox w B e' cs) (hg : w.grownBy w' (some B)) : KeptT e w w' := fun g cur hc => by
  have hlt := (Array.getElem?_eq_some_iff.1 hc).1
  refine (hg.block g hlt ?_).trans hc
  intro hb
  cases hb
  have h' : w.heap[B]? = _ := h
  rw [h'] at hc
  cases hc
  exact hne rfl
theorem owns_keptT {e : TypeId} {w w' : World} {base size n : Nat} {v : Value} {xs : List Value} (h : w.ownsRow base e size v n xs) (hk : KeptT e w w') : w'.ownsRow base e size v n xs := by
  obtain ⟨h1, h2 | ⟨g, cap, cur, a, b, c, r⟩⟩ := h
  · exact ⟨h1, .inl h2⟩
  · exact ⟨h1, .inr ⟨g, cap, cur, a, b, hk g cur c, r⟩⟩

/-- A slice that holds parameters, items. -/
def PV (w : World) (v : Value) (l : List Sf.Par) : Prop := w.ownsRow 0 53 4 v l.length (parsRow l)
theorem PV.kept {w w' : World} {v : Value} {l : List Sf.Par} (h : PV w v l) (hk : KeptT 53 w w') : PV w' v l := owns_keptT h hk
theorem PV.of {w : World} {base : Nat} {v : Value} {l : List Sf.Par} (h : w.ownsRow base 53 4 v l.length (parsRow l)) : PV w v l := owns_base4 h (Nat.zero_le _)
theorem PV.nil (w : World) : PV w (.slice none 0 0) [] := World.ownsRow_nil _ _ _ _
theorem PV.slice {w : World} {v : Value} {l : List Sf.Par} (h : PV w v l) : ∃ A c, v = .slice A l.length c := slice4 h
theorem PV.seen {w : World} {A : Option Addr} {n c : Nat} {l : List Sf.Par} (h : PV w (.slice A n c) l) : SeenP w A l := SeenP.own h
def itC (x : Sf.Itm) (v : Value) : List Value := [.int .i64 x.kind, .int .i64 x.n, .string (bA x.text), v]
def RowI (w : World) : List Sf.Itm → List Value → Prop
  | [], xs => xs = []
  | x :: l, xs => ∃ v ys, xs = itC x v ++ ys ∧ PV w v x.params ∧ RowI w l ys
theorem RowI.kept {w w' : World} (hk : KeptT 53 w w') : ∀ {l : List Sf.Itm} {xs : List Value}, RowI w l xs → RowI w' l xs
  | [], _, h => h
  | _ :: _, _, ⟨v, ys, e, hp, hr⟩ => ⟨v, ys, e, hp.kept hk, RowI.kept hk hr⟩
theorem RowI.snoc {w : World} {x : Sf.Itm} {v : Value} (hp : PV w v x.params) : ∀ {l : List Sf.Itm} {xs : List Value}, RowI w l xs → RowI w (l ++ [x]) (xs ++ itC x v)
  | [], _, h => by
    have h' : _ = [] := h
    subst h'
    exact ⟨v, [], by simp, hp, rfl⟩
  | _ :: _, _, ⟨u, ys, e, hq, hr⟩ => ⟨u, ys ++ itC x v, by rw [e]; simp, hq, RowI.snoc hp hr⟩
def IV (w : World) (v : Value) (l : List Sf.Itm) : Prop := ∃ xs, w.ownsRow 0 35 4 v l.length xs ∧ RowI w l xs
theorem IV.kept {w w' : World} {v : Value} {l : List Sf.Itm} (h : IV w v l) (hp : KeptT 53 w w') (hi : KeptT 35 w w') : IV w' v l := by
  obtain ⟨xs, h1, h2⟩ := h
  exact ⟨xs, owns_keptT h1 hi, h2.kept hp⟩
theorem IV.below {w w' : World} {v : Value} {l : List Sf.Itm} (h : IV w v l) (hb : Below w.heap.size w w') : IV w' v l := h.kept (.below hb) (.below hb)
theorem IV.nil (w : World) : IV w (.slice none 0 0) [] := ⟨[], World.ownsRow_nil _ _ _ _, rfl⟩
theorem IV.slice {w : World} {v : Value} {l : List Sf.Itm} (h : IV w v l) : ∃ A c, v = .slice A l.length c := by obtain ⟨xs, h, _⟩ := h; exact slice4 h
/-- A member's cells. -/
def mC (m : Sf.Mem) (v1 v2 v3 : Value) : Array Value := #[.string (bA m.key), .bool m.inner, .int .i64 m.item.kind, .int .i64 m.item.n, .string (bA m.item.text), v1, v2, v3]
/-- What a member's slices hold. -/
structure MV (w : World) (m : Sf.Mem) (v1 v2 v3 : Value) : Prop where
  item : PV w v1 m.item.params
  items : IV w v2 m.items
  params : PV w v3 m.params
theorem MV.kept {w w' : World} {m : Sf.Mem} {v1 v2 v3 : Value} (h : MV w m v1 v2 v3) (hp : KeptT 53 w w') (hi : KeptT 35 w w') : MV w' m v1 v2 v3 := ⟨h.item.kept hp, h.items.kept hp hi, h.params.kept hp⟩
theorem MV.below {w w' : World} {m : Sf.Mem} {v1 v2 v3 : Value} (h : MV w m v1 v2 v3) (hb : Below w.heap.size w w') : MV w' m v1 v2 v3 := h.kept (.below hb) (.below hb)
def RowM (w : World) : List Sf.Mem → List Value → Prop
  | [], xs => xs = []
  | m :: l, xs => ∃ v1 v2 v3 ys, xs = (mC m v1 v2 v3).toList ++ ys ∧ MV w m v1 v2 v3 ∧ RowM w l ys
theorem RowM.kept {w w' : World} (hp : KeptT 53 w w') (hi : KeptT 35 w w') : ∀ {l : List Sf.Mem} {xs : List Value}, RowM w l xs → RowM w' l xs
  | [], _, h => h
  | _ :: _, _, ⟨v1, v2, v3, ys, e, hm, hr⟩ => ⟨v1, v2, v3, ys, e, hm.kept hp hi, RowM.kept hp hi hr⟩
theorem RowM.snoc {w : World} {m : Sf.Mem} {v1 v2 v3 : Value} (hm : MV w m v1 v2 v3) : ∀ {l : List Sf.Mem} {xs : List Value}, RowM w l xs → RowM w (l ++ [m]) (xs ++ (mC m v1 v2 v3).toList)
  | [], _, h => by
    have h' : _ = [] := h
    subst h'
    exact ⟨v1, v2, v3, [], by simp, hm, rfl⟩
  | _ :: _, _, ⟨u1, u2, u3, ys, e, hq, hr⟩ => ⟨u1, u2, u3, ys ++ (mC m v1 v2 v3).toList, by rw [e]; simp, hq, RowM.snoc hm hr⟩
theorem RowM.at {w : World} : ∀ {l : List Sf.Mem} {xs : List Value}, RowM w l xs → ∀ i (h : i < l.length), ∃ v1 v2 v3, MV w l[i] v1 v2 v3 ∧ ∀ j, j < 8 → xs[i * 8 + j]? = (mC l[i] v1 v2 v3).toList[j]?
  | [], _, _, i, h => by simp at h
  | m :: l, _, ⟨v1, v2, v3, ys, e, hm, hr⟩, 0, _ => ⟨v1, v2, v3, hm, fun j hj => by
    rw [e, Nat.zero_mul, Nat.zero_add, List.getElem?_append_left (by simpa [mC] using hj)]; rfl⟩
  | m :: l, _, ⟨v1, v2, v3, ys, e, hm, hr⟩, i + 1, h => by
    obtain ⟨u1, u2, u3, h1, h2⟩ := hr.at i (by simpa using h)
    refine ⟨u1, u2, u3, h1, fun j hj => ?_⟩
    rw [e, show (i + 1) * 8 + j = (mC m v1 v2 v3).toList.length + (i * 8 + j) by simp [mC]; omega, List.getElem?_append_right (by omega)]
    have := h2 j hj
    simpa using this
/-- A list of members of one's own. -/
def LV (w : World) (base : Nat) (v : Value) (l : List Sf.Mem) : Prop := ∃ xs, w.ownsRow base 40 8 v l.length xs ∧ RowM w l xs
theorem LV.nil (w : World) (base : Nat) : LV w base (.slice none 0 0) [] := ⟨[], World.ownsRow_nil _ _ _ _, rfl⟩
theorem LV.kept {w w' : World} {base : Nat} {v : Value} {l : List Sf.Mem} (h : LV w base v l) (hp : KeptT 53 w w') (hi : KeptT 35 w w') (hm : KeptT 40 w w') : LV w' base v l := by
  obtain ⟨xs, h1, h2⟩ := h
  exact ⟨xs, owns_keptT h1 hm, h2.kept hp hi⟩
theorem LV.below {w w' : World} {base : Nat} {v : Value} {l : List Sf.Mem} (h : LV w base v l) (hb : Below w.heap.size w w') : LV w' base v l := h.kept (.below hb) (.below hb) (.below hb)
theorem LV.base {w : World} {base base' : Nat} {v : Value} {l : List Sf.Mem} (h : LV w base v l) (hb : base' ≤ base) : LV w base' v l := by
  obtain ⟨xs, h1, h2⟩ := h
  exact ⟨xs, owns_base4 h1 hb, h2⟩
theorem LV.slice {w : World} {base : Nat} {v : Value} {l : List Sf.Mem} (h : LV w base v l) : ∃ A c, v = .slice A l.length c := by
  obtain ⟨xs, ⟨_, ⟨h1, h2⟩ | ⟨g, cap, _, hv, _⟩⟩, _⟩ := h
  · exact ⟨none, 0, by rw [h1, h2]⟩
  · exact ⟨_, _, hv⟩

def zM : Array Value := #[.string ⟨#[]⟩, .bool false, .int .i64 0, .int .i64 0, .string ⟨#[]⟩, .slice none 0 0, .slice none 0 0, .slice none 0 0]
theorem info_itm : (Tryz.prog.info? 35).map (fun i => (i.zero, i.size, i.bytes)) = some (some (.agg #[.int .i64 0, .int .i64 0, .string ⟨#[]⟩, .slice none 0 0]), 4, 56) := by kernel_rfl
theorem info_mem : (Tryz.prog.info? 40).map (fun i => (i.zero, i.size, i.bytes)) = some (some (.agg #[.string ⟨#[]⟩, .bool false, .int .i64 0, .int .i64 0, .string ⟨#[]⟩, .slice none 0 0, .slice none 0 0, .slice none 0 0]), 8, 128) := by kernel_rfl
set_option maxHeartbeats 1000000 in
theorem load_mem {w : World} {B : Nat} {m : Sf.Mem} {v1 v2 v3 : Value} (h : CBox w B 40 (mC m v1 v2 v3)) : (loadVar 40 ⟨B, 0, none⟩).run Tryz.prog w = .ok (.agg (mC m v1 v2 v3)) w := by
  have c0 := h.c 0; have c1 := h.c 1; have c2 := h.c 2; have c3 := h.c 3; have c4 := h.c 4; have c5 := h.c 5; have c6 := h.c 6; have c7 := h.c 7
  simp [mC] at c0 c1 c2 c3 c4 c5 c6 c7
  simp [go_sem, c0, c1, c2, c3, c4, c5, c6, c7, mC]
end Go.Proofs.YtogjekjklknfeaaGreatDoor

/- Lists of items and of members that lie somewhere (nil let in): laws of worlds. -/

namespace Go.Proofs.YtogjekjklknfeaaGreatDoor
open Go.RowKit Go.Shelf Go.Maps Go.Deep

/-- A slice of parameters that lies somewhere. -/
structure SV (w : World) (v : Value) (l : List Sf.Par) : Prop where
  is : ∃ A c, v = .slice A l.length c ∧ SeenP w A l
  len : l.length ≤ maxLen
theorem SV.below {w w' : World} {v : Value} {l : List Sf.Par} (h : SV w v l) (hb : Below w.heap.size w w') : SV w' v l := by
  obtain ⟨A, c, rfl, hs⟩ := h.is
  exact ⟨⟨A, c, rfl, hs.below hb⟩, h.len⟩
theorem own_lenE {w : World} {base size : Nat} {e : TypeId} {v : Value} {n : Nat} {xs : List Value} (h : w.ownsRow base e size v n xs) : n ≤ maxLen := by
  obtain ⟨_, ⟨h1, h2⟩ | ⟨g, cap, cur, _, hb, hg, h3, h4, h5, h6⟩⟩ := h
  · unfold maxLen; omega
  · omega
theorem PV.sv {w : World} {v : Value} {l : List Sf.Par} (h : PV w v l) : SV w v l := by
  obtain ⟨A, c, rfl⟩ := h.slice
  exact ⟨⟨A, c, rfl, h.seen⟩, own_lenE h⟩
theorem SV.nil (w : World) : SV w (.slice none 0 0) [] := ⟨⟨none, 0, rfl, fun h => by simp at h⟩, by simp [maxLen]⟩
/-- A member's four cells of an item, its eight cells. -/
def Cells4 (w : World) (g o : Nat) (x : Sf.Itm) (v : Value) : Prop := w.cell? ⟨g, o, none⟩ = some (.int .i64 x.kind) ∧ w.cell? ⟨g, o + 1, none⟩ = some (.int .i64 x.n) ∧ w.cell? ⟨g, o + 2, none⟩ = some (.string (bA x.text)) ∧ w.cell? ⟨g, o + 3, none⟩ = some v
theorem Cells4.below {w w' : World} {g o : Nat} {x : Sf.Itm} {v : Value} (h : Cells4 w g o x v) (hg : g < w.heap.size) (hb : Below w.heap.size w w') : Cells4 w' g o x v := by
  obtain ⟨a, b, c, d⟩ := h
  exact ⟨(hb.cell hg).trans a, (hb.cell hg).trans b, (hb.cell hg).trans c, (hb.cell hg).trans d⟩
def SeenI (w : World) (A : Option Addr) (l : List Sf.Itm) : Prop := 0 < l.length → ∃ g o, A = some ⟨g, o, none⟩ ∧ g < w.heap.size ∧ ∀ i (h : i < l.length), ∃ v, SV w v l[i].params ∧ Cells4 w g (o + i * 4) l[i] v
theorem SeenI.below {w w' : World} {A : Option Addr} {l : List Sf.Itm} (h : SeenI w A l) (hb : Below w.heap.size w w') : SeenI w' A l := fun hn => by
  obtain ⟨g, o, rfl, hlt, hc⟩ := h hn
  refine ⟨g, o, rfl, Nat.lt_of_lt_of_le hlt hb.size, fun i hi => ?_⟩
  obtain ⟨v, h1, h2⟩ := hc i hi
  exact ⟨v, h1.below hb, h2.below hlt hb⟩
structure SI (w : World) (v : Value) (l : List Sf.Itm) : Prop where
  is : ∃ A c, v = .slice A l.length c ∧ SeenI w A l
  len : l.length ≤ maxLen
  nl : ∀ n c, v = .slice none n c → n = 0 ∧ c = 0
theorem SI.below {w w' : World} {v : Value} {l : List Sf.Itm} (h : SI w v l) (hb : Below w.heap.size w w') : SI w' v l := by
  obtain ⟨A, c, rfl, hs⟩ := h.is
  exact ⟨⟨A, c, rfl, hs.below hb⟩, h.len, h.nl⟩
theorem SI.nil (w : World) : SI w (.slice none 0 0) [] := ⟨⟨none, 0, rfl, fun h => by simp at h⟩, by simp [maxLen], fun n c e => by cases e; exact ⟨rfl, rfl⟩⟩
theorem RowI.at {w : World} : ∀ {l : List Sf.Itm} {xs : List Value}, RowI w l xs → ∀ i (h : i < l.length), ∃ v, PV w v l[i].params ∧ ∀ j, j < 4 → xs[i * 4 + j]? = (itC l[i] v)[j]?
  | [], _, _, i, h => by simp at h
  | m :: l, _, ⟨v, ys, e, hm, hr⟩, 0, _ => ⟨v, hm, fun j hj => by
    rw [e, Nat.zero_mul, Nat.zero_add, List.getElem?_append_left (by simpa [itC] using hj)]; rfl⟩
  | m :: l, _, ⟨v, ys, e, hm, hr⟩, i + 1, h => by
    obtain ⟨u, h1, h2⟩ := hr.at i (by simpa using h)
    refine ⟨u, h1, fun j hj => ?_⟩
    rw [e, show (i + 1) * 4 + j = (itC m v).length + (i * 4 + j) by simp [itC]; omega, List.getElem?_append_right (by omega)]
    have := h2 j hj
    simpa using this
theorem IV.si {w : World} {v : Value} {l : List Sf.Itm} (h : IV w v l) : SI w v l := by
  obtain ⟨A, c, rfl⟩ := h.slice
  obtain ⟨xs, ho, hr⟩ := h
  have hnl : ∀ n d, Value.slice A l.length c = .slice none n d → n = 0 ∧ d = 0 := fun n d e => by
    obtain ⟨_, ⟨h1, h2⟩ | ⟨g, cap, cur, h1, _⟩⟩ := ho
    · rw [h1] at e; cases e; exact ⟨rfl, rfl⟩
    · rw [h1] at e; cases e
  refine ⟨⟨A, c, rfl, fun hn => ?_⟩, own_lenE ho, hnl⟩
  have hc := ho
  obtain ⟨_, ⟨h1, h2⟩ | ⟨g, cap, cur, h1, hb, hg, _⟩⟩ := ho
  · omega
  · cases h1
    refine ⟨g, 0, rfl, (Array.getElem?_eq_some_iff.1 hg).1, fun i hi => ?_⟩
    obtain ⟨v, hp, hx⟩ := hr.at i hi
    simp only [Nat.zero_add]
    exact ⟨v, hp.sv, (own_cell hc (hx 0 (by omega))).1, (own_cell hc (hx 1 (by omega))).1, (own_cell hc (hx 2 (by omega))).1, (own_cell hc (hx 3 (by omega))).1⟩
/-- What a member's slices hold, wherever they lie. -/
structure SM (w : World) (m : Sf.Mem) (v1 v2 v3 : Value) : Prop where
  item : SV w v1 m.item.params
  items : SI w v2 m.items
  params : SV w v3 m.params
theorem SM.below {w w' : World} {m : Sf.Mem} {v1 v2 v3 : Value} (h : SM w m v1 v2 v3) (hb : Below w.heap.size w w') : SM w' m v1 v2 v3 := ⟨h.item.below hb, h.items.below hb, h.params.below hb⟩
theorem MV.sm {w : World} {m : Sf.Mem} {v1 v2 v3 : Value} (h : MV w m v1 v2 v3) : SM w m v1 v2 v3 := ⟨h.item.sv, h.items.si, h.params.sv⟩
def Cells8 (w : World) (g o : Nat) (m : Sf.Mem) (v1 v2 v3 : Value) : Prop :=
  w.cell? ⟨g, o, none⟩ = some (.string (bA m.key)) ∧ w.cell? ⟨g, o + 1, none⟩ = some (.bool m.inner) ∧ w.cell? ⟨g, o + 2, none⟩ = some (.int .i64 m.item.kind) ∧ w.cell? ⟨g, o + 3, none⟩ = some (.int .i64 m.item.n) ∧
  w.cell? ⟨g, o + 4, none⟩ = some (.string (bA m.item.text)) ∧ w.cell? ⟨g, o + 5, none⟩ = some v1 ∧ w.cell? ⟨g, o + 6, none⟩ = some v2 ∧ w.cell? ⟨g, o + 7, none⟩ = some v3
theorem Cells8.below {w w' : World} {g o : Nat} {m : Sf.Mem} {v1 v2 v3 : Value} (h : Cells8 w g o m v1 v2 v3) (hg : g < w.heap.size) (hb : Below w.heap.size w w') : Cells8 w' g o m v1 v2 v3 := by
  obtain ⟨a, b, c, d, e, f, k, l⟩ := h
  exact ⟨(hb.cell hg).trans a, (hb.cell hg).trans b, (hb.cell hg).trans c, (hb.cell hg).trans d, (hb.cell hg).trans e, (hb.cell hg).trans f, (hb.cell hg).trans k, (hb.cell hg).trans l⟩
def SeenM (w : World) (A : Option Addr) (l : List Sf.Mem) : Prop := 0 < l.length → ∃ g o, A = some ⟨g, o, none⟩ ∧ g < w.heap.size ∧ ∀ i (h : i < l.length), ∃ v1 v2 v3, SM w l[i] v1 v2 v3 ∧ Cells8 w g (o + i * 8) l[i] v1 v2 v3
theorem SeenM.below {w w' : World} {A : Option Addr} {l : List Sf.Mem} (h : SeenM w A l) (hb : Below w.heap.size w w') : SeenM w' A l := fun hn => by
  obtain ⟨g, o, rfl, hlt, hc⟩ := h hn
  refine ⟨g, o, rfl, Nat.lt_of_lt_of_le hlt hb.size, fun i hi => ?_⟩
  obtain ⟨v1, v2, v3, h1, h2⟩ := hc i hi
  exact ⟨v1, v2, v3, h1.below hb, h2.below hlt hb⟩
structure SL (w : World) (v : Value) (l : List Sf.Mem) : Prop where
  is : ∃ A c, v = .slice A l.length c ∧ SeenM w A l
  len : l.length ≤ maxLen
theorem SL.below {w w' : World} {v : Value} {l : List Sf.Mem} (h : SL w v l) (hb : Below w.heap.size w w') : SL w' v l := by
  obtain ⟨A, c, rfl, hs⟩ := h.is
  exact ⟨⟨A, c, rfl, hs.below hb⟩, h.len⟩
theorem SL.nil (w : World) : SL w (.slice none 0 0) [] := ⟨⟨none, 0, rfl, fun h => by simp at h⟩, by simp [maxLen]⟩
theorem LV.sl {w : World} {base : Nat} {v : Value} {l : List Sf.Mem} (h : LV w base v l) : SL w v l := by
  obtain ⟨A, c, rfl⟩ := h.slice
  obtain ⟨xs, ho, hr⟩ := h
  refine ⟨⟨A, c, rfl, fun hn => ?_⟩, own_lenE ho⟩
  have hc := ho
  obtain ⟨_, ⟨h1, h2⟩ | ⟨g, cap, cur, h1, hb, hg, _⟩⟩ := ho
  · omega
  · cases h1
    refine ⟨g, 0, rfl, (Array.getElem?_eq_some_iff.1 hg).1, fun i hi => ?_⟩
    obtain ⟨v1, v2, v3, hp, hx⟩ := hr.at i hi
    simp only [Nat.zero_add]
    exact ⟨v1, v2, v3, hp.sm, (own_cell hc (hx 0 (by omega))).1, (own_cell hc (hx 1 (by omega))).1, (own_cell hc (hx 2 (by omega))).1, (own_cell hc (hx 3 (by omega))).1, (own_cell hc (hx 4 (by omega))).1, (own_cell hc (hx 5 (by omega))).1, (own_cell hc (hx 6 (by omega))).1, (own_cell hc (hx 7 (by omega))).1⟩
end Go.Proofs.YtogjekjklknfeaaGreatDoor

/- A loop over a function that gives members and, at the last, perhaps a fault: what the function owes, and what the loop comes to. -/


namespace Go.Proofs.YtogjekjklknfeaaGreatDoor
open Go.RowKit Go.Shelf Go.Maps Go.Deep

/-- Whatever is cells, and whatever lies below B, lies as it lay. -/
structure Grow (B : Nat) (W W' : World) : Prop where
  os : W'.os = W.os
  tape : W'.tape = W.tape
  output : W'.output = W.output
  size : W.heap.size ≤ W'.heap.size
  same : ∀ (k : Nat) (o : Obj), W.heap[k]? = some o → (k < B ∨ o.isCells = true) → W'.heap[k]? = some o
theorem Grow.refl (B : Nat) (W : World) : Grow B W W := ⟨rfl, rfl, rfl, Nat.le_refl _, fun _ _ h _ => h⟩
theorem Grow.trans {B : Nat} {X Y Z : World} (h : Grow B X Y) (k : Grow B Y Z) : Grow B X Z := ⟨k.os.trans h.os, k.tape.trans h.tape, k.output.trans h.output, Nat.le_trans h.size k.size, fun i o hi ho => k.same i o (h.same i o hi ho) ho⟩
theorem Grow.of_below {B : Nat} {W W' : World} (h : Below W.heap.size W W') : Grow B W W' := ⟨h.os, h.tape, h.output, h.size, fun k _ hk _ => (h.block k (Array.getElem?_eq_some_iff.1 hk).1).trans hk⟩
theorem Grow.put {B l : Nat} {W : World} {o : Obj} (o' : Obj) (hB : B ≤ l) (hl : W.heap[l]? = some o) (ho : o.isCells = false) : Grow B W (W.putObj l o') := by
  have hg := grownBy_putObj' W l o'
  refine ⟨hg.os, hg.tape, hg.output, hg.size, fun k x hk hx => ?_⟩
  have hne : k ≠ l := by
    rintro rfl
    rw [hl] at hk; cases hk
    rcases hx with h | h
    · omega
    · rw [ho] at h; cases h
  exact (hg.block k (Array.getElem?_eq_some_iff.1 hk).1 (by simpa using hne)).trans hk
theorem Grow.keptT {B : Nat} {W W' : World} (h : Grow B W W') (e : TypeId) : KeptT e W W' := fun g _ hc => h.same g _ hc (.inr rfl)
theorem Grow.below {B n : Nat} {W W' : World} (h : Grow B W W') (hn : n ≤ B) (hs : n ≤ W.heap.size) : Below n W W' := ⟨h.os, h.tape, h.output, h.size, fun k hk => by
  have hlt : k < W.heap.size := by omega
  obtain ⟨o, ho⟩ : ∃ o, W.heap[k]? = some o := ⟨_, Array.getElem?_eq_getElem hlt⟩
  rw [ho]; exact h.same k o ho (.inl (by omega))⟩
theorem Grow.boxed {B b : Nat} {t : TypeId} {v : Value} {W W' : World} (h : Grow B W W') (hb : Boxed W b t v) : Boxed W' b t v := h.same b _ hb (.inr rfl)
theorem Grow.mv {B : Nat} {W W' : World} {m : Sf.Mem} {v1 v2 v3 : Value} (h : Grow B W W') (hm : MV W m v1 v2 v3) : MV W' m v1 v2 v3 := hm.kept (h.keptT _) (h.keptT _)

/-- What a function that is ranged over owes, which gives the members of a text. -/
def GivesM (F : Fence) (n : Nat) (P : Program) (gf : Nat) (lb : Array Value) (Kp : World → World → Prop) (d : Bool) (o : Option (List Sf.Mem)) (w : World) : Prop :=
  ∀ (l : Nat) (J : List Sf.Mem → World → Prop) (Jx : World → Prop) (W : World), Below w.heap.size w W →
    (∀ s A A', J s A → Below A.heap.size A A' → J s A') → (∀ A A', Jx A → Below A.heap.size A A' → Jx A') →
    (∀ s m r t v1 v2 v3 W1, J s W1 → Sf.eith d t = some (m, r) → s.length + t.length ≤ 1000000 → MV W1 m v1 v2 v3 → YieldAt F (n - 1) P l #[.agg (mC m v1 v2 v3), .int .i64 0] W1 fun e W' => e = .returned (.bool true) ∧ J (Sf.addM d s m) W' ∧ Kp W1 W') →
    (∀ s W1, J s W1 → YieldAt F (n - 1) P l #[.agg zM, .int .i64 50] W1 fun e W' => e = .returned (.bool false) ∧ Jx W') →
    J [] W →
    CallsIn F n P gf (#[.func (.yield l) #[] #[]] ++ lb) W fun e W' => (∃ v, e = .returned v) ∧ ((∃ s, o = some s ∧ J s W') ∨ (o = none ∧ Jx W'))

/-- What a round is handed: a member, and an error. -/
structure MX where
  m : Sf.Mem
  s1 : Option Addr × Nat × Nat
  s2 : Option Addr × Nat × Nat
  s3 : Option Addr × Nat × Nat
  e : Int
def sl (p : Option Addr × Nat × Nat) : Value := .slice p.1 p.2.1 p.2.2
def MX.cs (x : MX) : Array Value := mC x.m (sl x.s1) (sl x.s2) (sl x.s3)
def zX : MX := ⟨⟨[], false, Sf.zItm, [], []⟩, (none, 0, 0), (none, 0, 0), (none, 0, 0), 50⟩
/-- How a round is left. -/
def roundM (B : Nat) (W : World) (id : Option Nat) (K : World → Prop) : Exit → Act → World → Prop
  | .normal, _, W' => id = none ∧ KeepsFrom B W W' ∧ K W'
  | .exit j, _, W' => id = some j ∧ KeepsFrom B W W' ∧ K W'
  | _, _, _ => False

variable {F : Fence} {n : Nat} {P : Program}
set_option maxHeartbeats 1000000 in
theorem range_mem {d : Bool} {g : Operand} {p1 p2 : Tmp} {assign body : Code} {Q : Exit → Act → World → Prop} {a : Act} {w : World} {o : Option (List Sf.Mem)} {Kp : World → World → Prop}
    (hro : F.round = none) (h1 : 1 ≤ n) {gf : Nat} {lb : Array Value} (hg : a.eval g = .func (.func gf) #[] lb) (hFg : F.fn gf) (eg : ∀ args w, (callFunc gf args).run P w = .ok (.enter gf args) w)
    {w0 : World} (hb0 : Below w0.heap.size w0 w) (hseq : GivesM F (n - 1) P gf lb Kp d o w0)
    (hKt : ∀ {A B C : World}, Kp A B → Kp B C → Kp A C) (hKg : ∀ A B, Grow w.heap.size A B → w.heap.size ≤ A.heap.size → Kp A B)
    (I : List Sf.Mem → World → Prop) (Ix : World → Prop) (Ax : MX → Act → World → Prop) (id : Nat)
    (hI : ∀ s A B, I s A → Grow w.heap.size A B → I s B) (hIx : ∀ A B, Ix A → Grow w.heap.size A B → Ix B) (hAx : ∀ x a' A B, Ax x a' A → Grow w.heap.size A B → Ax x a' B) (h0 : I [] w)
    (hassign : ∀ (l : Nat) (x : MX) (W : World) (K : Act → World → Prop), w.heap.size ≤ W.heap.size → (∀ a' W', Below W.heap.size W W' → Ax x a' W' → K a' W') →
      assign.wpIn (F.inRound l) (n - 1 - 1) P (Exit.then K (fun _ _ _ => False)) { tmps := (a.tmps.setIfInBounds p1 (.agg x.cs)).setIfInBounds p2 (.int .i64 x.e), defers := [] } W)
    (hbody : ∀ (l : Nat) s (x : MX) r t a' W, x.e = 0 → I s W → Sf.eith d t = some (x.m, r) → s.length + t.length ≤ 1000000 → MV W x.m (sl x.s1) (sl x.s2) (sl x.s3) → Ax x a' W → w.heap.size ≤ W.heap.size →
      body.wpIn (F.inRound l) (n - 1 - 1) P (roundM w.heap.size W none fun W' => Kp W W' ∧ I (Sf.addM d s x.m) W') a' W)
    (hfault : ∀ (l : Nat) s a' W, I s W → Ax zX a' W → w.heap.size ≤ W.heap.size → body.wpIn (F.inRound l) (n - 1 - 1) P (roundM w.heap.size W (some id) Ix) a' W)
    (hdone : ∀ (D : Nat) s W, w.heap.size ≤ D → o = some s → I s W → W.heap[D]? = some (.deferred (some [])) → Q .normal { a with defers := { target := .collected D, args := #[] } :: a.defers } W)
    (hstop : ∀ (D : Nat) W, w.heap.size ≤ D → o = none → Ix W → W.heap[D]? = some (.deferred (some [])) → (Code.exit id).wpIn F n P Q { a with defers := { target := .collected D, args := #[] } :: a.defers } W) :
    (Code.rangeFunc g #[p1, p2] assign body).wpIn F n P Q a w := by
  refine wpIn_rangeFunc fun fn hfn => ?_
  rw [hro]
  -- the record of the loop, in each of its states
  obtain ⟨rc, hrc⟩ : ∃ rc : LoopState → Option Code → Loop, rc = fun st pe => { state := st, pending := pe, fn, tmps := a.tmps, params := #[p1, p2], assign, body, defers := w.heap.size } := ⟨_, rfl⟩
  obtain ⟨V, hV⟩ : ∃ V, (w.alloc (.deferred (some []))).alloc (.loop (rc .ready none)) = V := ⟨_, rfl⟩
  have hbV : Below w.heap.size w V := by rw [← hV]; exact ((Below.refl _ w).alloc (Nat.le_refl _) _).alloc (by simp) _
  have hLV : V.heap[w.heap.size + 1]? = some (.loop (rc .ready none)) := by
    rw [← hV, ← World.size_alloc w (.deferred (some []))]; exact World.alloc_heap_new _ _
  have hDV : V.heap[w.heap.size]? = some (.deferred (some [])) := by
    rw [← hV]; exact (Below.heap_alloc _ _ _ (by simp)).trans (World.alloc_heap_new w _)
  -- what goes from round to round
  let Bk : LoopState → Option Code → World → Prop := fun st pe W => W.heap[w.heap.size + 1]? = some (.loop (rc st pe)) ∧ W.heap[w.heap.size]? = some (.deferred (some []))
  have bkB : ∀ st pe A B, Bk st pe A → Below A.heap.size A B → Bk st pe B := fun st pe A B h hb => ⟨(hb.block _ (Array.getElem?_eq_some_iff.1 h.1).1).trans h.1, (hb.block _ (Array.getElem?_eq_some_iff.1 h.2).1).trans h.2⟩
  have bkP : ∀ st pe st' pe' A, Bk st pe A → Bk st' pe' (A.putObj (w.heap.size + 1) (.loop (rc st' pe'))) ∧ Grow w.heap.size A (A.putObj (w.heap.size + 1) (.loop (rc st' pe'))) := fun st pe st' pe' A h =>
    ⟨⟨World.putObj_heap_same (Array.getElem?_eq_some_iff.1 h.1).1, (World.putObj_heap_other (by omega)).trans h.2⟩, Grow.put _ (by omega) h.1 rfl⟩
  have bkK : ∀ st pe A B, Bk st pe A → KeepsFrom w.heap.size A B → Bk st pe B := fun st pe A B h hk => ⟨hk.same _ _ (by omega) h.1 rfl, hk.same _ _ (Nat.le_refl _) h.2 rfl⟩
  have hbusy : ∀ W, Bk .ready none W → (Instr.beginRound (w.heap.size + 1)).run P W = .ok () (W.putObj (w.heap.size + 1) (.loop (rc .busy none))) := fun W h => by
    have := run_beginRound (P := P) h.1 (by rw [hrc])
    rw [this, hrc]
  have hend : ∀ (j : Option Code) W, Bk .busy none W → (Instr.endRound (w.heap.size + 1) j).run P W = .ok (.bool j.isNone) (W.putObj (w.heap.size + 1) (.loop (rc (if j.isNone then .ready else .done) j))) := fun j W h => by
    have := run_endRound (P := P) j h.1
    rw [this, hrc]
  have hyld : ∀ x y W, Bk .ready none W → (Instr.yield (w.heap.size + 1) #[x, y]).run P W = .ok (.round (w.heap.size + 1) fn ((a.tmps.setIfInBounds p1 x).setIfInBounds p2 y) assign body) W := fun x y W h => by
    have := run_yield (P := P) (args := #[x, y]) h.1 (by rw [hrc]; rfl)
    rw [this, hrc]; simp
  refine ⟨w.heap.size + 1, [{ target := .collected w.heap.size, args := #[] }], V, { target := .fn (.func gf) lb, args := #[.func (.yield (w.heap.size + 1)) #[] #[]] }, V, gf,
    #[.func (.yield (w.heap.size + 1)) #[] #[]] ++ lb, V, by rw [← hV, hrc]; exact run_enterLoop_outer _ _ _ _ _, ?_, fun f' hf' => ?_, by simp [invoke, go_sem, eg], fun _ => h1, ?_⟩
  · simp only [resolve, hg]; simp [go_sem]
  · simp [Target.leads] at hf'; subst hf'; exact hFg
  refine (hseq (w.heap.size + 1) (fun s W => I s W ∧ Bk .ready none W) (fun W => Ix W ∧ Bk .done (some (.exit id)) W) V (hb0.trans (hbV.mono hb0.size))
    (fun s A B h hb => ⟨hI s A B h.1 (.of_below hb), bkB _ _ A B h.2 hb⟩) (fun A B h hb => ⟨hIx A B h.1 (.of_below hb), bkB _ _ A B h.2 hb⟩) ?_ ?_ ⟨hI [] w V h0 (.of_below hbV), hLV, hDV⟩).mono ?_
  · -- a round with a member
    rintro s m r t v1 v2 v3 W1 ⟨hi, hb⟩ he ht hm
    obtain ⟨a1, p1, rfl⟩ := hm.item.slice
    obtain ⟨a2, p2, rfl⟩ := hm.items.slice
    obtain ⟨a3, p3, rfl⟩ := hm.params.slice
    refine ⟨fn, _, assign, body, hyld _ _ W1 hb, roundIn_of_wpIn hfn (hassign _ ⟨m, (a1, m.item.params.length, p1), (a2, m.items.length, p2), (a3, m.params.length, p3), 0⟩ W1 _ (Nat.le_of_lt (Array.getElem?_eq_some_iff.1 hb.2).1) fun a' W2 hb2 hax => ?_)⟩
    have hk2 := bkB _ _ W1 W2 hb hb2
    obtain ⟨hk3, hg3⟩ := bkP .ready none .busy none W2 hk2
    have hsz1 := (Array.getElem?_eq_some_iff.1 hb.2).1
    refine ⟨_, hbusy W2 hk2, wpIn_mono (hbody _ s ⟨m, (a1, m.item.params.length, p1), (a2, m.items.length, p2), (a3, m.params.length, p3), 0⟩ r t a' _ rfl (hI _ _ _ (hI _ _ _ hi (.of_below hb2)) hg3) he ht (hg3.mv (hm.below hb2)) (hAx _ _ _ _ hax hg3) (by have := hb2.size; have := hg3.size; omega)) ?_⟩
    intro e a3 W3 hp
    cases e with
    | normal =>
      obtain ⟨_, hkf, hkp, hi3⟩ := hp
      have hk4 := bkK _ _ _ _ hk3 hkf
      obtain ⟨hk5, hg5⟩ := bkP .busy none .ready none W3 hk4
      have hsz3 := (Array.getElem?_eq_some_iff.1 hk4.2).1
      exact ⟨_, _, hend none W3 hk4, rfl, ⟨hI _ _ _ hi3 hg5, hk5⟩, hKt (hKg _ _ ((Grow.of_below hb2).trans hg3) (by omega)) (hKt hkp (hKg _ _ hg5 (by omega)))⟩
    | exit j => cases hp.1
    | ret => exact hp.elim
    | goto t => exact hp.elim
    | panic c => exact hp.elim
    | outgrown => exact hp.elim
  · -- the round with the fault
    rintro s W1 ⟨hi, hb⟩
    refine ⟨fn, _, assign, body, hyld _ _ W1 hb, roundIn_of_wpIn hfn (hassign _ zX W1 _ (Nat.le_of_lt (Array.getElem?_eq_some_iff.1 hb.2).1) fun a' W2 hb2 hax => ?_)⟩
    have hk2 := bkB _ _ W1 W2 hb hb2
    obtain ⟨hk3, hg3⟩ := bkP .ready none .busy none W2 hk2
    have hsz1 := (Array.getElem?_eq_some_iff.1 hb.2).1
    refine ⟨_, hbusy W2 hk2, wpIn_mono (hfault _ s a' _ (hI _ _ _ (hI _ _ _ hi (.of_below hb2)) hg3) (hAx _ _ _ _ hax hg3) (by have := hb2.size; have := hg3.size; omega)) ?_⟩
    intro e a3 W3 hp
    cases e with
    | exit j =>
      obtain ⟨hj, hkf, hi3⟩ := hp
      cases hj
      have hk4 := bkK _ _ _ _ hk3 hkf
      obtain ⟨hk5, hg5⟩ := bkP .busy none .done (some (.exit id)) W3 hk4
      exact ⟨_, _, hend (some (.exit id)) W3 hk4, rfl, hIx _ _ hi3 hg5, hk5⟩
    | normal => cases hp.1
    | ret => exact hp.elim
    | goto t => exact hp.elim
    | panic c => exact hp.elim
    | outgrown => exact hp.elim
  · -- behind the loop
    rintro e W2 ⟨⟨v, rfl⟩, ⟨s, hs, hi, hk⟩ | ⟨hs, hi, hk⟩⟩
    · have hr := run_endLoop (P := P) hk.1 (by rw [hrc]; simp)
      obtain ⟨hk5, hg5⟩ := bkP .ready none .exhausted none W2 hk
      rw [hrc] at hr hk5 hg5
      exact ⟨none, _, hr, hdone _ s _ (Nat.le_refl _) hs (hI _ _ _ hi hg5) hk5.2⟩
    · have hr := run_endLoop (P := P) hk.1 (by rw [hrc]; simp)
      obtain ⟨hk5, hg5⟩ := bkP .done (some (.exit id)) .exhausted (some (.exit id)) W2 hk
      rw [hrc] at hr hk5 hg5
      exact ⟨some (.exit id), _, hr, hstop _ _ (Nat.le_refl _) hs (hIx _ _ hi hg5) hk5.2⟩
end Go.Proofs.YtogjekjklknfeaaGreatDoor

/- The library's functions as sfield asks them: blanks and tabs off a text, one byte off a text. -/

namespace Go.Proofs.YtogjekjklknfeaaGreatDoor
open Go.RowKit Go.Shelf Go.Maps Go.Deep

theorem blkL_any (s : List UInt8) (w : World) : Calls Tryz.prog 74 #[.string (bA s), .string ⟨#[32]⟩] w fun e w' => e = .returned (.string (bA (Sf.blk s))) ∧ w = w' := by
  refine (Tryz.strings_TrimLeft_one (bA s) 32 (by decide) w).mono ?_
  rintro e w' ⟨rfl, rfl⟩
  exact ⟨rfl, rfl⟩
theorem tabsL_is (s : List UInt8) : Lib.trimLeftS s [32, 9] = Sf.tabs s := by
  unfold Lib.trimLeftS Sf.tabs
  congr 1
  funext b
  simp
  rfl
theorem tabsL_any (s : List UInt8) (w : World) : Calls Tryz.prog 74 #[.string (bA s), .string ⟨#[32, 9]⟩] w fun e w' => e = .returned (.string (bA (Sf.tabs s))) ∧ Below w.heap.size w w' := by
  refine (Any.strings_TrimLeft_laid Tryz.lays161 (by kernel_rfl) (bA s) ⟨#[32, 9]⟩ w (by decide) (ascii_of_all (by decide))).mono ?_
  rintro e w' ⟨rfl, hb⟩
  exact ⟨by rw [show (bA s).data.toList = s from rfl, show (⟨#[32, 9]⟩ : ByteArray).data.toList = [32, 9] from rfl, tabsL_is], hb⟩
theorem pre_one (s : List UInt8) (c : UInt8) : Lib.hasPrefix s [c] = (s.head? == some c) := by
  cases s with
  | nil => rfl
  | cons d s =>
    simp only [Lib.hasPrefix, List.isPrefixOf, Bool.and_true, List.head?_cons]
    rw [Bool.eq_iff_iff, beq_iff_eq, beq_iff_eq, Option.some.injEq]
    exact ⟨Eq.symm, Eq.symm⟩
theorem pre_any (s : List UInt8) (c : UInt8) (w : World) : Calls Tryz.prog 75 #[.string (bA s), .string ⟨#[c]⟩] w fun e w' => e = .returned (.bool (s.head? == some c)) ∧ w = w' := by
  refine (Tryz.strings_HasPrefix (bA s) ⟨#[c]⟩ w).mono ?_
  rintro e w' ⟨rfl, rfl⟩
  exact ⟨by rw [show (bA s).data.toList = s from rfl, show (⟨#[c]⟩ : ByteArray).data.toList = [c] from rfl, pre_one], rfl⟩
theorem cut_yes (c : UInt8) (r : List UInt8) (w : World) : Calls Tryz.prog 43 #[.string (bA (c :: r)), .string ⟨#[c]⟩] w fun e w' => e = .returned (.tuple #[.string (bA r), .bool true]) ∧ w = w' := by
  refine (Tryz.strings_CutPrefix (bA (c :: r)) ⟨#[c]⟩ w).mono ?_
  rintro e w' ⟨rfl, rfl⟩
  refine ⟨?_, rfl⟩
  show Ending.returned (.tuple #[.string (bA (Lib.trimPrefix (c :: r) [c])), .bool (Lib.hasPrefix (c :: r) [c])]) = _
  have h := pre_one (c :: r) c
  rw [show ((c :: r).head? == some c) = true by simp] at h
  rw [Lib.trimPrefix, h]; rfl
theorem cut_no (c : UInt8) (s : List UInt8) (hs : s.head? ≠ some c) (w : World) : Calls Tryz.prog 43 #[.string (bA s), .string ⟨#[c]⟩] w fun e w' => e = .returned (.tuple #[.string (bA s), .bool false]) ∧ w = w' := by
  refine (Tryz.strings_CutPrefix (bA s) ⟨#[c]⟩ w).mono ?_
  rintro e w' ⟨rfl, rfl⟩
  refine ⟨?_, rfl⟩
  show Ending.returned (.tuple #[.string (bA (Lib.trimPrefix s [c])), .bool (Lib.hasPrefix s [c])]) = _
  have h := pre_one s c
  rw [show (s.head? == some c) = false by simpa using hs] at h
  rw [Lib.trimPrefix, h]; rfl

/-! ### how the program goes on within brackets -/
namespace Sf
/-- Where the program stands within brackets: the items that have come, and what is left, blanks off. -/
structure InnAt (s : List UInt8) (acc : List Itm) (rest : List UInt8) : Prop where
  at_ : ∃ s0, blk s0 = rest ∧ innF (s0.length + 1) acc s0 = inn s ∧ (acc = [] ∨ rest.length ≠ s0.length ∨ rest.head? = some 41)
  len : acc.length + rest.length ≤ s.length
theorem InnAt.begin (s : List UInt8) : InnAt s [] (blk s) := ⟨⟨s, rfl, rfl, .inl rfl⟩, by simpa using blk_short s⟩
theorem InnAt.shut {s : List UInt8} {acc : List Itm} {t : List UInt8} (h : InnAt s acc (41 :: t)) : inn s = match pars t with | none => none | some (l, r) => some (⟨[], true, zItm, acc, l⟩, r) := by
  obtain ⟨⟨s0, hb, he, _⟩, _⟩ := h
  rw [← he, inn_shut hb]
  cases pars t <;> rfl
theorem InnAt.none {s : List UInt8} {acc : List Itm} {rest : List UInt8} (h : InnAt s acc rest) (hc : rest.head? ≠ some 41) (hn : next rest = none) : inn s = none := by
  obtain ⟨⟨s0, hb, he, _⟩, _⟩ := h
  rw [← he]
  cases rest with
  | nil => exact inn_end hb
  | cons c t => exact inn_none hb (by simpa using hc) hn
theorem InnAt.step {s : List UInt8} {acc : List Itm} {rest r : List UInt8} {x : Itm} (h : InnAt s acc rest) (hc : rest.head? ≠ some 41) (hn : next rest = some (x, r)) (hp : blk r ≠ r ∨ (blk r).head? = some 41) : InnAt s (acc ++ [x]) (blk r) := by
  obtain ⟨⟨s0, hb, he, ha⟩, hl⟩ := h
  have h1 := next_short hn
  have h2 := blk_short r
  cases rest with
  | nil => rw [next_nil] at hn; cases hn
  | cons c t =>
    refine ⟨⟨r, rfl, ?_, .inr ?_⟩, by rw [List.length_append]; simp only [List.length_singleton]; omega⟩
    · rw [← he, inn_step hb (by simpa using hc) ?_ hn]
      rcases ha with ha | ha | ha
      · exact .inl ha
      · exact .inr ha
      · exact absurd ha hc
    · rcases hp with hp | hp
      · refine .inl fun e => hp ?_
        exact (List.dropWhile_suffix _).eq_of_length e
      · exact .inr hp
theorem InnAt.tight {s : List UInt8} {acc : List Itm} {rest r : List UInt8} {x : Itm} (h : InnAt s acc rest) (hc : rest.head? ≠ some 41) (hn : next rest = some (x, r)) (h1 : blk r = r) (h2 : r.head? ≠ some 41) : inn s = .none := by
  obtain ⟨⟨s0, hb, he, ha⟩, hl⟩ := h
  cases rest with
  | nil => rw [next_nil] at hn; cases hn
  | cons c t =>
    rw [← he, inn_step hb (by simpa using hc) ?_ hn]
    · cases r with
      | nil => exact inn_end h1
      | cons c' t' => exact inn_tight h1 (by simpa using h2) (by simp) rfl
    · rcases ha with ha | ha | ha
      · exact .inl ha
      · exact .inr ha
      · exact absurd ha hc
theorem memb_open (t : List UInt8) : memb (40 :: t) = inn t := by rw [memb, if_pos (by rfl)]; rfl
theorem memb_item {s : List UInt8} (h : s.head? ≠ some 40) : memb s = match next s with | none => none | some (x, r) => some (⟨[], false, x, [], []⟩, r) := by
  cases s with
  | nil => rfl
  | cons c s =>
    rw [memb, if_neg (by simpa using h)]
    cases next (c :: s) <;> rfl
theorem keyd_none {s : List UInt8} (h : keyOf s = none) : keyd s = none := by unfold keyd; rw [h]
theorem keyd_val {s k t : List UInt8} (h : keyOf s = some (k, 61 :: t)) : keyd s = match memb t with | none => none | some (m, b) => some (⟨k, m.inner, m.item, m.items, m.params⟩, b) := by
  unfold keyd; rw [h]; rfl
theorem keyd_bare {s k r : List UInt8} (h : keyOf s = some (k, r)) (hr : r.head? ≠ some 61) : keyd s = match pars r with | none => none | some (l, b) => some (⟨k, false, ⟨6, 1, [], l⟩, [], []⟩, b) := by
  have hr' : r.headD 0 ≠ 61 := by
    cases r with
    | nil => show ¬ ((0 : UInt8) = 61); decide
    | cons c r => intro e; exact hr (by rw [show c = 61 from e]; rfl)
  unfold keyd; rw [h]; simp only
  rw [if_neg hr']
  cases pars r <;> rfl
theorem keyOf_ne {s k r : List UInt8} (h : keyOf s = some (k, r)) : k ≠ [] := by
  obtain ⟨_, h2, _⟩ := keyOf_ways h
  intro e; subst e; cases h2
theorem inn_key {m : Mem} {r : List UInt8} : ∀ (f : Nat) (acc : List Itm) (s : List UInt8), innF f acc s = some (m, r) → m.key = []
  | 0, _, _, h => by cases h
  | f + 1, acc, s, h => by
    rw [innF] at h
    split at h
    · cases hp : pars ((blk s).drop 1) with
      | none => rw [hp] at h; cases h
      | some y => rw [hp] at h; cases h; rfl
    · split at h
      · cases h
      · cases hn : next (blk s) with
        | none => rw [hn] at h; cases h
        | some y => rw [hn] at h; exact inn_key f _ _ h
theorem memb_key {s : List UInt8} {m : Mem} {r : List UInt8} (h : memb s = some (m, r)) : m.key = [] := by
  unfold memb at h
  split at h
  · exact inn_key _ _ _ h
  · cases hn : next s with
    | none => rw [hn] at h; cases h
    | some y => rw [hn] at h; cases h; rfl
theorem keyd_key {s : List UInt8} {m : Mem} {r : List UInt8} (h : keyd s = some (m, r)) : m.key ≠ [] := by
  unfold keyd at h
  cases hk : keyOf s with
  | none => rw [hk] at h; cases h
  | some y =>
    obtain ⟨k, b⟩ := y
    have hne := keyOf_ne hk
    rw [hk] at h
    simp only at h
    split at h
    · cases hm : memb (b.drop 1) with
      | none => rw [hm] at h; cases h
      | some y => rw [hm] at h; cases h; exact hne
    · cases hm : pars b with
      | none => rw [hm] at h; cases h
      | some y => rw [hm] at h; cases h; exact hne
end Sf
end Go.Proofs.YtogjekjklknfeaaGreatDoor

/- The contracts of sfield's cutComma, readInner, readMember, readEntry. -/

namespace Go.Proofs.YtogjekjklknfeaaGreatDoor
open Go.RowKit Go.Shelf Go.Maps Go.Deep

def IsSl (v : Value) : Prop := ∃ a n c, v = .slice a n c
theorem IsSl.mk (a : Option Addr) (n c : Nat) : IsSl (.slice a n c) := ⟨a, n, c, rfl⟩
/-- What readers of members answer. -/
def RetM (ok no : Value) (w : World) (o : Option (Sf.Mem × List UInt8)) (e : Ending) (w' : World) : Prop :=
  Below w.heap.size w w' ∧ ((∃ m r v1 v2 v3, o = some (m, r) ∧ e = .returned (.tuple #[.agg (mC m v1 v2 v3), .string (bA r), ok]) ∧ MV w' m v1 v2 v3) ∨ (o = none ∧ ∃ m v1 v2 v3 x, IsSl v1 ∧ IsSl v2 ∧ IsSl v3 ∧ e = .returned (.tuple #[.agg (mC m v1 v2 v3), .string x, no])))
abbrev set8 (W : World) (B : Nat) (a b c d e f g h : Value) : World := (((((((W.setCell ⟨B, 0, none⟩ a).setCell ⟨B, 1, none⟩ b).setCell ⟨B, 2, none⟩ c).setCell ⟨B, 3, none⟩ d).setCell ⟨B, 4, none⟩ e).setCell ⟨B, 5, none⟩ f).setCell ⟨B, 6, none⟩ g).setCell ⟨B, 7, none⟩ h
theorem CBox.set8 {W : World} {B : Nat} {t : TypeId} {x0 x1 x2 x3 x4 x5 x6 x7 : Value} (h : CBox W B t #[x0, x1, x2, x3, x4, x5, x6, x7]) (a b c d e f g i : Value) : CBox (set8 W B a b c d e f g i) B t #[a, b, c, d, e, f, g, i] := by
  have h0 : CBox (W.setCell ⟨B, 0, none⟩ a) B t #[a, x1, x2, x3, x4, x5, x6, x7] := h.set a
  have h1 : CBox ((W.setCell ⟨B, 0, none⟩ a).setCell ⟨B, 1, none⟩ b) B t #[a, b, x2, x3, x4, x5, x6, x7] := h0.set b
  have h2 : CBox (((W.setCell ⟨B, 0, none⟩ a).setCell ⟨B, 1, none⟩ b).setCell ⟨B, 2, none⟩ c) B t #[a, b, c, x3, x4, x5, x6, x7] := h1.set c
  have h3 : CBox ((((W.setCell ⟨B, 0, none⟩ a).setCell ⟨B, 1, none⟩ b).setCell ⟨B, 2, none⟩ c).setCell ⟨B, 3, none⟩ d) B t #[a, b, c, d, x4, x5, x6, x7] := h2.set d
  have h4 : CBox (((((W.setCell ⟨B, 0, none⟩ a).setCell ⟨B, 1, none⟩ b).setCell ⟨B, 2, none⟩ c).setCell ⟨B, 3, none⟩ d).setCell ⟨B, 4, none⟩ e) B t #[a, b, c, d, e, x5, x6, x7] := h3.set e
  have h5 : CBox ((((((W.setCell ⟨B, 0, none⟩ a).setCell ⟨B, 1, none⟩ b).setCell ⟨B, 2, none⟩ c).setCell ⟨B, 3, none⟩ d).setCell ⟨B, 4, none⟩ e).setCell ⟨B, 5, none⟩ f) B t #[a, b, c, d, e, f, x6, x7] := h4.set f
  have h6 : CBox (((((((W.setCell ⟨B, 0, none⟩ a).setCell ⟨B, 1, none⟩ b).setCell ⟨B, 2, none⟩ c).setCell ⟨B, 3, none⟩ d).setCell ⟨B, 4, none⟩ e).setCell ⟨B, 5, none⟩ f).setCell ⟨B, 6, none⟩ g) B t #[a, b, c, d, e, f, g, x7] := h5.set g
  have h7 : CBox ((((((((W.setCell ⟨B, 0, none⟩ a).setCell ⟨B, 1, none⟩ b).setCell ⟨B, 2, none⟩ c).setCell ⟨B, 3, none⟩ d).setCell ⟨B, 4, none⟩ e).setCell ⟨B, 5, none⟩ f).setCell ⟨B, 6, none⟩ g).setCell ⟨B, 7, none⟩ i) B t #[a, b, c, d, e, f, g, i] := h6.set i
  exact h7
theorem g_set8 {a b : World} {row : Option Nat} (h : a.grownBy b row) {B : Nat} (x0 x1 x2 x3 x4 x5 x6 x7 : Value) (hB : a.heap.size ≤ B ∨ row = some B) : a.grownBy (set8 b B x0 x1 x2 x3 x4 x5 x6 x7) row := g_set (g_set (g_set (g_set (g_set4 h x0 x1 x2 x3 hB) x4 hB) x5 hB) x6 hB) x7 hB
theorem CBox.all8 {W : World} {B : Nat} {t : TypeId} {x0 x1 x2 x3 x4 x5 x6 x7 : Value} (h : CBox W B t #[x0, x1, x2, x3, x4, x5, x6, x7]) : (W.cell? ⟨B, 0, none⟩ = some x0 ∧ W.cell? ⟨B, 1, none⟩ = some x1 ∧ W.cell? ⟨B, 2, none⟩ = some x2 ∧ W.cell? ⟨B, 3, none⟩ = some x3 ∧ W.cell? ⟨B, 4, none⟩ = some x4 ∧ W.cell? ⟨B, 5, none⟩ = some x5 ∧ W.cell? ⟨B, 6, none⟩ = some x6 ∧ W.cell? ⟨B, 7, none⟩ = some x7) ∧ W.frozen? ⟨B, 0, none⟩ = false ∧ W.frozen? ⟨B, 1, none⟩ = false ∧ W.frozen? ⟨B, 2, none⟩ = false ∧ W.frozen? ⟨B, 3, none⟩ = false ∧ W.frozen? ⟨B, 4, none⟩ = false ∧ W.frozen? ⟨B, 5, none⟩ = false ∧ W.frozen? ⟨B, 6, none⟩ = false ∧ W.frozen? ⟨B, 7, none⟩ = false := ⟨⟨h.c 0, h.c 1, h.c 2, h.c 3, h.c 4, h.c 5, h.c 6, h.c 7⟩, h.fr 0, h.fr 1, h.fr 2, h.fr 3, h.fr 4, h.fr 5, h.fr 6, h.fr 7⟩
theorem results_mem {fn : Func} (h : fn.results = #[.cell 2 40, .tmp 3, .tmp 4]) (tmps : Array Value) (w : World) {B : Nat} {m : Sf.Mem} {v1 v2 v3 : Value} (hp : tmps[2]?.getD undef = .pointer (some ⟨B, 0, none⟩)) (hb : CBox w B 40 (mC m v1 v2 v3)) :
    (results fn tmps).run Tryz.prog w = .ok (.tuple #[.agg (mC m v1 v2 v3), tmps.getD 3 undef, tmps.getD 4 undef]) w := by
  have hl := load_mem hb
  simp [results, h, hp, hl, asAddr]
theorem MV.boxed {w w' : World} {m : Sf.Mem} {v1 v2 v3 : Value} (h : MV w m v1 v2 v3) {B : Nat} {cs : Array Value} (hb : CBox w B 40 cs) (hg : w.grownBy w' (some B)) : MV w' m v1 v2 v3 := h.kept (.box (by decide) hb hg) (.box (by decide) hb hg)
theorem MV.al {w : World} {m : Sf.Mem} {v1 v2 v3 : Value} (h : MV w m v1 v2 v3) (o : Obj) : MV (w.alloc o) m v1 v2 v3 := h.kept (KeptT.alloc _ _ _) (KeptT.alloc _ _ _)
theorem PV.boxed {w w' : World} {v : Value} {l : List Sf.Par} (h : PV w v l) {B : Nat} {cs : Array Value} (hb : CBox w B 40 cs) (hg : w.grownBy w' (some B)) : PV w' v l := h.kept (.box (by decide) hb hg)
theorem below_box {w w1 w2 : World} (hb : Below w.heap.size w w1) {B : Nat} (hg : w1.grownBy w2 (some B)) (hB : w.heap.size ≤ B) : Below w.heap.size w w2 := hb.grown hg hb.size (fun k hk => by cases hk; exact hB)

set_option maxHeartbeats 1000000 in
theorem cutComma_end {s : List UInt8} (h : Sf.tabs s = []) (w : World) : Calls Tryz.prog 72 #[.string (bA s)] w fun e w' => e = .returned (.tuple #[.string ⟨#[]⟩, .bool false, .int .i64 0]) ∧ Below w.heap.size w w' := by
  have h1 := tabsL_any s w
  rw [h] at h1
  have H1 := Lib.hid h1
  clear h1 h
  go_enter Tryz.func72, Tryz.ntmps72
  go_wp2_with fail
  refine H1.out.mono ?_
  rintro e w1 ⟨rfl, hb⟩
  have HB := Lib.hid hb
  clear hb H1
  go_wp2_with fail
  go_ret3
  exact ⟨rfl, HB.out⟩
set_option maxHeartbeats 1000000 in
theorem cutComma_off {s t : List UInt8} {c : UInt8} (h : Sf.tabs s = c :: t) (hc : c ≠ 44) (w : World) : Calls Tryz.prog 72 #[.string (bA s)] w fun e w' => e = .returned (.tuple #[.string ⟨#[]⟩, .bool false, .int .i64 50]) ∧ Below w.heap.size w w' := by
  have h1 := tabsL_any s w
  rw [h] at h1
  have H1 := Lib.hid h1
  have H2 := Lib.hid (fun W => cut_no 44 (c :: t) (by simpa using hc) W)
  clear h1 h
  go_enter Tryz.func72, Tryz.ntmps72
  go_wp2_with fail
  refine H1.out.mono ?_
  rintro e w1 ⟨rfl, hb⟩
  have HB := Lib.hid hb
  clear hb H1
  go_wp2_with fail
  refine (H2.out w1).mono ?_
  rintro e w2 ⟨rfl, rfl⟩
  clear H2
  go_wp2_with fail
  go_ret3
  exact ⟨rfl, HB.out⟩
set_option maxHeartbeats 1000000 in
theorem cutComma_more {s t : List UInt8} (h : Sf.tabs s = 44 :: t) (w : World) : Calls Tryz.prog 72 #[.string (bA s)] w fun e w' => e = .returned (.tuple #[.string (bA (Sf.tabs t)), .bool true, .int .i64 0]) ∧ Below w.heap.size w w' := by
  have h1 := tabsL_any s w
  rw [h] at h1
  have H1 := Lib.hid h1
  have H2 := Lib.hid (fun W => cut_yes 44 t W)
  have H3 := Lib.hid (fun W => tabsL_any t W)
  clear h1 h
  go_enter Tryz.func72, Tryz.ntmps72
  go_wp2_with fail
  refine H1.out.mono ?_
  rintro e w1 ⟨rfl, hb⟩
  have HB := Lib.hid hb
  clear hb H1
  go_wp2_with fail
  refine (H2.out w1).mono ?_
  rintro e w2 ⟨rfl, rfl⟩
  clear H2
  go_wp2_with fail
  refine (H3.out w1).mono ?_
  rintro e w2 ⟨rfl, hb2⟩
  have HB2 := Lib.hid (onto HB.out hb2)
  clear hb2 H3
  go_wp2_with fail
  go_ret3
  exact ⟨rfl, HB2.out⟩

structure InnP (w : World) (s : List UInt8) (k : Nat) (wr : World) (acc : List Sf.Itm) (rest : List UInt8) (v : Value) (xs : List Value) : Prop where
  k : rest.length = k
  pos : Sf.InnAt s acc rest
  res : CBox wr w.heap.size 40 zM
  row : wr.ownsRow (w.heap.size + 1) 35 4 v acc.length xs
  rowI : RowI wr acc xs
  below : Below w.heap.size w wr
  sz : w.heap.size + 1 ≤ wr.heap.size
theorem RowI.below {w w' : World} {l : List Sf.Itm} {xs : List Value} (h : RowI w l xs) (hb : Below w.heap.size w w') : RowI w' l xs := h.kept (.below hb)
theorem InnP.snoc {w w5 w7 : World} {s : List UInt8} {acc : List Sf.Itm} {rest : List UInt8} {va : Value} {xs : List Value} {x : Sf.Itm} {v v7 : Value} {o : Obj} (hp : Sf.InnAt s (acc ++ [x]) rest) (hres : CBox w5 w.heap.size 40 zM) (hrow : w5.ownsRow (w.heap.size + 1) 35 4 va acc.length xs) (hI : RowI w5 acc xs) (hb : Below w.heap.size w w5) (hsz : w.heap.size + 1 ≤ w5.heap.size) (hv : PV w5 v x.params)
    (hown : w7.ownsRow (w.heap.size + 1) 35 4 v7 (acc.length + 1) (xs ++ itC x v)) (hg : (w5.alloc o).grownBy w7 va.ownBlock) : InnP w s rest.length w7 (acc ++ [x]) rest v7 (xs ++ itC x v) := by
  have hs7 := hg.size
  simp at hs7
  have hk : KeptT 53 w5 w7 := (KeptT.alloc _ _ o).trans (.row (by decide) (hrow.alloc o) hg)
  exact ⟨rfl, hp, (hres.alloc o).kept hg (own_ne4 hrow (by omega)), by simpa using hown, (hI.kept hk).snoc (hv.kept hk), (below_al hb o).grown hg (by simp; omega) (fun k hk => by have := (hrow.lt k hk).1; omega), by omega⟩
set_option maxHeartbeats 4000000 in
set_option maxRecDepth 100000 in
theorem readInner_any (s : List UInt8) (w : World) (hs : s.length ≤ 1000000) : Calls Tryz.prog 44 #[.string (bA s)] w (RetM (.int .i64 0) (.int .i64 50) w (Sf.inn s)) := by
  obtain ⟨i0, hi, hz0, hz1, hz2⟩ := info_parts info_itm
  have HI := Lib.hid hi; have HZ0 := Lib.hid hz0; have HZ1 := Lib.hid hz1; have HZ2 := Lib.hid hz2
  obtain ⟨o, ho⟩ : ∃ o, Sf.inn s = o := ⟨_, rfl⟩
  have hst : InnP w s (Sf.blk s).length (w.alloc (.cells zM 40)) [] (Sf.blk s) (.slice none 0 0) [] :=
    ⟨rfl, Sf.InnAt.begin s, CBox.new w _ _, World.ownsRow_nil _ _ _ _, rfl, (Below.refl _ _).alloc (Nat.le_refl _) _, by simp⟩
  have H0 := Lib.hid (blkL_any s (w.alloc (.cells zM 40)))
  rw [ho]
  have HO := Lib.hid ho
  have HS := Lib.hid hst
  clear hi hz0 hz1 hz2 ho hst
  go_enter Tryz.func44, Tryz.ntmps44
  go_wp2_with fail
  refine H0.out.mono ?_
  rintro e w1 ⟨rfl, rfl⟩
  clear H0
  go_wp2_with fail
  go_loopg [5, 6] (Sf.blk s).length (fun k v rv wr => ∃ acc rest xs, rv = .string (bA rest) ∧ InnP w s k wr acc rest v xs)
  case atStart => exact ⟨_, _, _, rfl, HS.out⟩
  case round =>
    obtain ⟨acc, rest, xs, rfl, hI⟩ := hrel
    obtain ⟨va, vc, rfl⟩ := slice4 hI.row
    have hlen := hI.pos.len
    have hsz := hI.sz
    have HV := Lib.hid hI
    clear hI HS
    have H1 := Lib.hid (pre_any rest 41 wr)
    by_cases h41 : rest.head? = some 41
    · obtain ⟨t, rfl⟩ : ∃ t, rest = 41 :: t := by
        cases rest with
        | nil => cases h41
        | cons c t => simp at h41; exact ⟨t, by rw [h41]⟩
      rw [show ((41 :: t : List UInt8).head? == some 41) = true by simp] at H1
      have HX := Lib.hid (tail_bA 41 t)
      have H2 := Lib.hid (params_is_any t wr (by simp at hlen; omega))
      have HSH : Hid ((match Sf.pars t with | none => none | some (l, r) => some (⟨[], true, Sf.zItm, acc, l⟩, r)) = o) := by rw [Hid, ← HO.out, HV.out.pos.shut]; first | done | rfl
      clear h41
      go_wp2_with fail
      refine H1.out.mono ?_
      rintro e w2 ⟨rfl, rfl⟩
      clear H1
      go_wp2_with fail
      rw [HX.out]
      refine H2.out.mono ?_
      rintro e w3 ⟨hb3, ⟨l, r, v, hl, rfl, hw⟩ | ⟨hl, rfl⟩⟩
      · obtain ⟨pa, pc, rfl⟩ := slice4 hw
        have hO : o = some (⟨[], true, Sf.zItm, acc, l⟩, r) := by rw [← HSH.out, hl]
        subst hO
        have hres := HV.out.res.keep hb3
        have HRES := Lib.hid hres
        have HB3 := Lib.hid (onto HV.out.below hb3)
        have HIV : Hid (IV w3 (.slice va acc.length vc) acc) := Lib.hid ((show IV wr (.slice va acc.length vc) acc from ⟨xs, owns_base4 HV.out.row (by omega), HV.out.rowI⟩).below hb3)
        have HPV : Hid (PV w3 (.slice pa l.length pc) l) := Lib.hid (PV.of hw)
        obtain ⟨⟨c0, c1, c2, c3, c4, c5, c6, c7⟩, f0, f1, f2, f3, f4, f5, f6, f7⟩ := hres.all8
        clear hl hw hb3 hres H2 HSH
        go_wp2_with fail
        have hgA : w3.grownBy (set8 w3 w.heap.size (.string (bA [])) (.bool true) (.int .i64 0) (.int .i64 0) (.string (bA [])) (.slice none 0 0) (.slice va acc.length vc) (.slice pa l.length pc)) (some w.heap.size) := g_set8 (g_refl _ _) _ _ _ _ _ _ _ _ (.inr rfl)
        refine bodyPost_ret (results_mem (m := ⟨[], true, Sf.zItm, acc, l⟩) rfl _ _ rfl (HRES.out.set8 _ _ _ _ _ _ _ _)) rfl ?_
        exact ⟨below_box HB3.out hgA (Nat.le_refl _), .inl ⟨_, r, _, _, _, rfl, rfl, MV.boxed ⟨PV.nil _, HIV.out, HPV.out⟩ HRES.out hgA⟩⟩
      · have hO : o = none := by rw [← HSH.out, hl]
        subst hO
        have hres := HV.out.res.keep hb3
        have HRES := Lib.hid hres
        have HB3 := Lib.hid (onto HV.out.below hb3)
        obtain ⟨⟨c0, c1, c2, c3, c4, c5, c6, c7⟩, f0, f1, f2, f3, f4, f5, f6, f7⟩ := hres.all8
        clear hl hb3 hres H2 HSH
        go_wp2_with fail
        have hgA : w3.grownBy (set8 w3 w.heap.size (.string (bA [])) (.bool true) (.int .i64 0) (.int .i64 0) (.string (bA [])) (.slice none 0 0) (.slice va acc.length vc) (.slice none 0 0)) (some w.heap.size) := g_set8 (g_refl _ _) _ _ _ _ _ _ _ _ (.inr rfl)
        refine bodyPost_ret (results_mem (m := ⟨[], true, Sf.zItm, acc, []⟩) rfl _ _ rfl (HRES.out.set8 _ _ _ _ _ _ _ _)) rfl ?_
        exact ⟨below_box HB3.out hgA (Nat.le_refl _), .inr ⟨rfl, _, _, _, _, _, .mk _ _ _, .mk _ _ _, .mk _ _ _, rfl⟩⟩
    · rw [show (rest.head? == some 41) = false by simpa using h41] at H1
      have H41 := Lib.hid h41
      have H2 := Lib.hid (next_any rest wr (by omega))
      clear h41
      go_wp2_with fail
      refine H1.out.mono ?_
      rintro e w2 ⟨rfl, rfl⟩
      clear H1
      go_wp2_with fail
      refine H2.out.mono ?_
      rintro e w3 ⟨hb3, ⟨x, r, v, hx, rfl, hw⟩ | ⟨hx, rfl⟩⟩
      · obtain ⟨pa, pc, rfl⟩ := slice4 hw
        have hrl := Sf.next_short hx
        have hbl := Sf.blk_short r
        have hs3 := hb3.size
        have HX := Lib.hid hx
        obtain ⟨w5, hw5⟩ : ∃ w5, w3.alloc (.cells (iC x.kind x.n x.text (.slice pa x.params.length pc)) 35) = w5 := ⟨_, rfl⟩
        have hb5 : Below wr.heap.size wr w5 := by rw [← hw5]; exact below_al hb3 _
        have hbx : CBox w5 w3.heap.size 35 (iC x.kind x.n x.text (.slice pa x.params.length pc)) := by rw [← hw5]; exact CBox.new _ _ _
        have HPV : Hid (PV w5 (.slice pa x.params.length pc) x.params) := by rw [Hid, ← hw5]; exact (PV.of hw).kept (KeptT.alloc _ _ _)
        have HRES := Lib.hid (HV.out.res.keep hb5)
        have HB5 := Lib.hid (onto HV.out.below hb5)
        have HROW := Lib.hid (owns_keptT HV.out.row (.below hb5))
        have HROWI := Lib.hid (HV.out.rowI.below hb5)
        have hsz5 := Nat.le_trans hsz hb5.size
        have hlt5 := hbx.lt
        obtain ⟨c0, c1, c2, c3, _, _, _, _⟩ := hbx.all4
        have HW5 : Hid (w3.alloc (.cells #[.int .i64 x.kind, .int .i64 x.n, .string (bA x.text), .slice pa x.params.length pc] 35) = w5) := Lib.hid hw5
        have H3 := Lib.hid (blkL_any r w5)
        clear hx hw hb3 hb5 hbx hw5 H2
        unfold itmV iC
        go_wp2_with fail
        rw [HW5.out]
        refine H3.out.mono ?_
        rintro e w6 ⟨rfl, rfl⟩
        clear H3 HW5
        obtain ⟨⟨e0, e1, e2, e3, e4, e5, e6, e7⟩, f0, f1, f2, f3, f4, f5, f6, f7⟩ := HRES.out.all8
        have hn0 : ¬ w3.heap.size = w.heap.size := by have := HV.out.res.lt; omega
        by_cases hne : Sf.blk r = r
        · have H4 := Lib.hid (pre_any r 41 w5)
          by_cases hh : r.head? = some 41
          · have HST := Lib.hid (HV.out.pos.step H41.out HX.out (.inr (by rw [hne]; exact hh)))
            rw [show (r.head? == some 41) = true by simpa using hh] at H4
            have HNE := Lib.hid hne
            rw [hne]
            clear hne hh
            go_wp2_with fail
            refine H4.out.mono ?_
            rintro e w6 ⟨rfl, rfl⟩
            clear H4
            go_wp2_with (at_builtin; refine wpList_append_own _ rfl _ _ 38 rfl (w.heap.size + 1) 35 i0 (.agg zI) 4 56 Tryz.underlying38 HI.out HZ0.out HZ1.out HZ2.out rfl (by decide) _ _ _ rfl (HROW.out.alloc _) ⟨w5.heap.size, 0, none⟩ 1 1 (itC x (.slice pa x.params.length pc)) rfl rfl (cells_new _ #[.int .i64 x.kind, .int .i64 x.n, .string (bA x.text), .slice pa x.params.length pc] _) ?_ ?_ ?_ ?_ ?_)
            · intro u hu; simp [itC] at hu; rcases hu with rfl | rfl | rfl | rfl <;> rfl
            · unfold maxLen; omega
            · omega
            · simp; omega
            intro v' w7 hown7 hg7 _
            obtain ⟨va7, vc7, rfl⟩ := slice4 hown7
            have HN : Hid (InnP w s (Sf.blk r).length w7 (acc ++ [x]) (Sf.blk r) (.slice va7 (acc.length + 1) vc7) (xs ++ itC x (.slice pa x.params.length pc))) := Lib.hid (InnP.snoc HST.out HRES.out HROW.out HROWI.out HB5.out hsz5 HPV.out hown7 hg7)
            have hkk := HV.out.k
            clear hown7 hg7
            go_wp2_with fail
            go_roundg (Sf.blk r).length
            case measure => omega
            case rel => exact ⟨acc ++ [x], Sf.blk r, _, by rw [HNE.out], by simpa using HN.out⟩
          · have hn : o = none := by rw [← HO.out]; exact HV.out.pos.tight H41.out HX.out hne hh
            subst hn
            rw [show (r.head? == some 41) = false by simpa using hh] at H4
            rw [hne]
            clear hne hh
            go_wp2_with fail
            refine H4.out.mono ?_
            rintro e w6 ⟨rfl, rfl⟩
            clear H4
            go_wp2_with fail
            have hgA : w5.grownBy (set8 w5 w.heap.size (.string (bA [])) (.bool false) (.int .i64 0) (.int .i64 0) (.string (bA [])) (.slice none 0 0) (.slice none 0 0) (.slice none 0 0)) (some w.heap.size) := g_set8 (g_refl _ _) _ _ _ _ _ _ _ _ (.inr rfl)
            refine bodyPost_ret (results_mem (m := ⟨[], false, Sf.zItm, [], []⟩) rfl _ _ rfl (HRES.out.set8 _ _ _ _ _ _ _ _)) rfl ?_
            exact ⟨below_box HB5.out hgA (Nat.le_refl _), .inr ⟨rfl, _, _, _, _, _, .mk _ _ _, .mk _ _ _, .mk _ _ _, rfl⟩⟩
        · have HST := Lib.hid (HV.out.pos.step H41.out HX.out (.inl hne))
          obtain ⟨q, hq⟩ : ∃ q, Sf.blk r = q := ⟨_, rfl⟩
          have HQ := Lib.hid hq
          have hqb : (q == r) = false := by rw [← hq]; simpa using hne
          have hqn : (q != r) = true := by rw [bne, hqb]; rfl
          rw [hq]
          clear hq hne
          · skip
            go_wp2_with (at_builtin; refine wpList_append_own _ rfl _ _ 38 rfl (w.heap.size + 1) 35 i0 (.agg zI) 4 56 Tryz.underlying38 HI.out HZ0.out HZ1.out HZ2.out rfl (by decide) _ _ _ rfl (HROW.out.alloc _) ⟨w5.heap.size, 0, none⟩ 1 1 (itC x (.slice pa x.params.length pc)) rfl rfl (cells_new _ #[.int .i64 x.kind, .int .i64 x.n, .string (bA x.text), .slice pa x.params.length pc] _) ?_ ?_ ?_ ?_ ?_)
            · intro u hu; simp [itC] at hu; rcases hu with rfl | rfl | rfl | rfl <;> rfl
            · unfold maxLen; omega
            · omega
            · simp; omega
            intro v' w7 hown7 hg7 _
            obtain ⟨va7, vc7, rfl⟩ := slice4 hown7
            have HN : Hid (InnP w s (Sf.blk r).length w7 (acc ++ [x]) (Sf.blk r) (.slice va7 (acc.length + 1) vc7) (xs ++ itC x (.slice pa x.params.length pc))) := Lib.hid (InnP.snoc HST.out HRES.out HROW.out HROWI.out HB5.out hsz5 HPV.out hown7 hg7)
            have hkk := HV.out.k
            clear hown7 hg7
            go_wp2_with fail
            go_roundg (Sf.blk r).length
            case measure => omega
            case rel => exact ⟨acc ++ [x], Sf.blk r, _, by rw [HQ.out], by simpa using HN.out⟩
      · have hn : o = none := by rw [← HO.out]; exact HV.out.pos.none H41.out hx
        subst hn
        obtain ⟨w5, hw5⟩ : ∃ w5, w3.alloc (.cells #[.int .i64 0, .int .i64 0, .string ⟨#[]⟩, .slice none 0 0] 35) = w5 := ⟨_, rfl⟩
        have hb5 : Below wr.heap.size wr w5 := by rw [← hw5]; exact below_al hb3 _
        have HRES := Lib.hid (HV.out.res.keep hb5)
        have HB5 := Lib.hid (onto HV.out.below hb5)
        have HW5 := Lib.hid hw5
        have H3 := Lib.hid (blkL_any [] w5)
        have H4 := Lib.hid (pre_any [] 41 w5)
        obtain ⟨⟨e0, e1, e2, e3, e4, e5, e6, e7⟩, f0, f1, f2, f3, f4, f5, f6, f7⟩ := HRES.out.all8
        clear hx hb3 hb5 hw5 H2
        unfold itmV iC
        go_wp2_with fail
        rw [HW5.out]
        refine H3.out.mono ?_
        rintro e w6 ⟨rfl, rfl⟩
        clear H3 HW5
        rw [show Sf.blk [] = [] from rfl]
        go_wp2_with fail
        refine H4.out.mono ?_
        rintro e w6 ⟨rfl, rfl⟩
        clear H4
        go_wp2_with fail
        have hgA : w5.grownBy (set8 w5 w.heap.size (.string (bA [])) (.bool false) (.int .i64 0) (.int .i64 0) (.string (bA [])) (.slice none 0 0) (.slice none 0 0) (.slice none 0 0)) (some w.heap.size) := g_set8 (g_refl _ _) _ _ _ _ _ _ _ _ (.inr rfl)
        refine bodyPost_ret (results_mem (m := ⟨[], false, Sf.zItm, [], []⟩) rfl _ _ rfl (HRES.out.set8 _ _ _ _ _ _ _ _)) rfl ?_
        exact ⟨below_box HB5.out hgA (Nat.le_refl _), .inr ⟨rfl, _, _, _, _, _, .mk _ _ _, .mk _ _ _, .mk _ _ _, rfl⟩⟩
theorem head_cut {s : List UInt8} {c : UInt8} (h : s.head? = some c) : ∃ t, s = c :: t := by
  cases s with
  | nil => cases h
  | cons d t => simp at h; exact ⟨t, by rw [h]⟩
set_option maxHeartbeats 2000000 in
set_option maxRecDepth 20000 in
theorem readMember_any (s : List UInt8) (w : World) (hs : s.length ≤ 1000000) : Calls Tryz.prog 24 #[.string (bA s)] w (RetM (.int .i64 0) (.int .i64 50) w (Sf.memb s)) := by
  have HB := Lib.hid (CBox.new w 40 zM)
  have HW := Lib.hid (below_one w (.cells zM 40))
  by_cases h40 : s.head? = some 40
  · obtain ⟨t, rfl⟩ := head_cut h40
    have H1 := Lib.hid (cut_yes 40 t (w.alloc (.cells zM 40)))
    have h2 := readInner_any t (w.alloc (.cells zM 40)) (by simp at hs; omega)
    rw [Sf.memb_open]
    obtain ⟨o, ho⟩ : ∃ o, Sf.inn t = o := ⟨_, rfl⟩
    rw [ho] at h2 ⊢
    have H2 := Lib.hid h2
    clear h2 ho h40
    go_enter Tryz.func24, Tryz.ntmps24
    go_wp2_with fail
    refine H1.out.mono ?_
    rintro e w1 ⟨rfl, rfl⟩
    clear H1
    go_wp2_with fail
    refine H2.out.mono ?_
    rintro e w1 ⟨hb1, ⟨m, r, v1, v2, v3, ho, rfl, hm⟩ | ⟨ho, m, v1, v2, v3, x, ⟨a1, n1, p1, rfl⟩, ⟨a2, n2, p2, rfl⟩, ⟨a3, n3, p3, rfl⟩, rfl⟩⟩
    · obtain ⟨a1, p1, rfl⟩ := hm.item.slice
      obtain ⟨a2, p2, rfl⟩ := hm.items.slice
      obtain ⟨a3, p3, rfl⟩ := hm.params.slice
      have hres := HB.out.keep hb1
      have HRES := Lib.hid hres
      have HB1 := Lib.hid (onto HW.out hb1)
      have HMV := Lib.hid hm
      subst ho
      obtain ⟨⟨c0, c1, c2, c3, c4, c5, c6, c7⟩, f0, f1, f2, f3, f4, f5, f6, f7⟩ := hres.all8
      clear hb1 hres hm H2 HB HW
      unfold mC
      go_wp2_with fail
      have hgA : w1.grownBy (set8 w1 w.heap.size (.string (bA m.key)) (.bool m.inner) (.int .i64 m.item.kind) (.int .i64 m.item.n) (.string (bA m.item.text)) (.slice a1 m.item.params.length p1) (.slice a2 m.items.length p2) (.slice a3 m.params.length p3)) (some w.heap.size) := g_set8 (g_refl _ _) _ _ _ _ _ _ _ _ (.inr rfl)
      refine bodyPost_ret (results_mem (m := m) rfl _ _ rfl (HRES.out.set8 _ _ _ _ _ _ _ _)) rfl ?_
      exact ⟨below_box HB1.out hgA (Nat.le_refl _), .inl ⟨_, r, _, _, _, rfl, rfl, HMV.out.boxed HRES.out hgA⟩⟩
    · have hres := HB.out.keep hb1
      have HRES := Lib.hid hres
      have HB1 := Lib.hid (onto HW.out hb1)
      subst ho
      obtain ⟨⟨c0, c1, c2, c3, c4, c5, c6, c7⟩, f0, f1, f2, f3, f4, f5, f6, f7⟩ := hres.all8
      clear hb1 hres H2 HB HW
      unfold mC
      go_wp2_with fail
      have hgA : w1.grownBy (set8 w1 w.heap.size (.string (bA m.key)) (.bool m.inner) (.int .i64 m.item.kind) (.int .i64 m.item.n) (.string (bA m.item.text)) (.slice a1 n1 p1) (.slice a2 n2 p2) (.slice a3 n3 p3)) (some w.heap.size) := g_set8 (g_refl _ _) _ _ _ _ _ _ _ _ (.inr rfl)
      refine bodyPost_ret (results_mem (m := m) rfl _ _ rfl (HRES.out.set8 _ _ _ _ _ _ _ _)) rfl ?_
      exact ⟨below_box HB1.out hgA (Nat.le_refl _), .inr ⟨rfl, _, _, _, _, _, .mk _ _ _, .mk _ _ _, .mk _ _ _, rfl⟩⟩
  · have H1 := Lib.hid (cut_no 40 s h40 (w.alloc (.cells zM 40)))
    have H2 := Lib.hid (next_any s (w.alloc (.cells zM 40)) hs)
    have HO := Lib.hid (Sf.memb_item h40)
    obtain ⟨o, ho⟩ : ∃ o, Sf.memb s = o := ⟨_, rfl⟩
    rw [ho] at HO ⊢
    clear ho h40
    go_enter Tryz.func24, Tryz.ntmps24
    go_wp2_with fail
    refine H1.out.mono ?_
    rintro e w1 ⟨rfl, rfl⟩
    clear H1
    go_wp2_with fail
    refine H2.out.mono ?_
    rintro e w1 ⟨hb1, ⟨x, r, v, hx, rfl, hw⟩ | ⟨hx, rfl⟩⟩
    · obtain ⟨pa, pc, rfl⟩ := slice4 hw
      have hO : o = some (⟨[], false, x, [], []⟩, r) := by rw [HO.out, hx]
      subst hO
      have hres := HB.out.keep hb1
      have HRES := Lib.hid hres
      have HB1 := Lib.hid (onto HW.out hb1)
      have HPV := Lib.hid (PV.of hw)
      have hlt := hres.lt
      have hne : ¬ w1.heap.size = w.heap.size := by omega
      have hne' : ¬ w.heap.size = w1.heap.size := by omega
      obtain ⟨⟨c0, c1, c2, c3, c4, c5, c6, c7⟩, f0, f1, f2, f3, f4, f5, f6, f7⟩ := hres.all8
      clear hb1 hres hx hw H2 HB HW HO
      unfold itmV iC
      go_wp2_with fail
      have hgA : w1.grownBy (set8 w1 w.heap.size (.string (bA [])) (.bool false) (.int .i64 x.kind) (.int .i64 x.n) (.string (bA x.text)) (.slice pa x.params.length pc) (.slice none 0 0) (.slice none 0 0)) (some w.heap.size) := g_set8 (g_refl _ _) _ _ _ _ _ _ _ _ (.inr rfl)
      refine bodyPost_ret (results_mem (m := ⟨[], false, x, [], []⟩) rfl _ _ rfl ((HRES.out.set8 _ _ _ _ _ _ _ _).alloc _)) rfl ?_
      exact ⟨below_al (below_box HB1.out hgA (Nat.le_refl _)) _, .inl ⟨_, r, _, _, _, rfl, rfl, (MV.boxed ⟨HPV.out, IV.nil _, PV.nil _⟩ HRES.out hgA).al _⟩⟩
    · have hO : o = none := by rw [HO.out, hx]
      subst hO
      have hres := HB.out.keep hb1
      have HRES := Lib.hid hres
      have HB1 := Lib.hid (onto HW.out hb1)
      have hlt := hres.lt
      have hne : ¬ w1.heap.size = w.heap.size := by omega
      have hne' : ¬ w.heap.size = w1.heap.size := by omega
      obtain ⟨⟨c0, c1, c2, c3, c4, c5, c6, c7⟩, f0, f1, f2, f3, f4, f5, f6, f7⟩ := hres.all8
      clear hb1 hres hx H2 HB HW HO
      unfold itmV iC
      go_wp2_with fail
      have hgA : w1.grownBy (set8 w1 w.heap.size (.string (bA [])) (.bool false) (.int .i64 0) (.int .i64 0) (.string (bA [])) (.slice none 0 0) (.slice none 0 0) (.slice none 0 0)) (some w.heap.size) := g_set8 (g_refl _ _) _ _ _ _ _ _ _ _ (.inr rfl)
      refine bodyPost_ret (results_mem (m := ⟨[], false, Sf.zItm, [], []⟩) rfl _ _ rfl ((HRES.out.set8 _ _ _ _ _ _ _ _).alloc _)) rfl ?_
      exact ⟨below_al (below_box HB1.out hgA (Nat.le_refl _)) _, .inr ⟨rfl, _, _, _, _, _, .mk _ _ _, .mk _ _ _, .mk _ _ _, rfl⟩⟩
set_option maxHeartbeats 2000000 in
set_option maxRecDepth 20000 in
theorem readEntry_any (s : List UInt8) (w : World) (hs : s.length ≤ 1000000) : Calls Tryz.prog 26 #[.string (bA s)] w (RetM (.int .i64 0) (.int .i64 50) w (Sf.keyd s)) := by
  have HB := Lib.hid (CBox.new w 40 zM)
  have HW := Lib.hid (below_one w (.cells zM 40))
  have H1 := Lib.hid (key_is_any s (w.alloc (.cells zM 40)) hs)
  obtain ⟨o, ho⟩ : ∃ o, Sf.keyd s = o := ⟨_, rfl⟩
  rw [ho]
  have HO := Lib.hid ho
  clear ho
  go_enter Tryz.func26, Tryz.ntmps26
  go_wp2_with fail
  refine H1.out.mono ?_
  rintro e w1 ⟨hb1, ⟨k, r, hk, rfl⟩ | ⟨hk, rfl⟩⟩
  · have hres := HB.out.keep hb1
    have HB1 := Lib.hid (onto HW.out hb1)
    have HRES1 := Lib.hid hres
    have hkl := keyOf_len hk
    have hlt1 := hres.lt
    clear hres hb1 H1 HB HW
    by_cases h61 : r.head? = some 61
    · obtain ⟨t, rfl⟩ := head_cut h61
      have H2 := Lib.hid (cut_yes 61 t w1)
      have H3 := Lib.hid (readMember_any t w1 (by simp at hkl; omega))
      have HK := Lib.hid (Sf.keyd_val hk)
      rw [HO.out] at HK
      clear hk h61 HO
      go_wp2_with fail
      refine H2.out.mono ?_
      rintro e w2 ⟨rfl, rfl⟩
      clear H2
      go_wp2_with fail
      refine H3.out.mono ?_
      rintro e w3 ⟨hb3, ⟨m, r, v1, v2, v3, hm, rfl, hv⟩ | ⟨hm, m, v1, v2, v3, x, ⟨a1, n1, p1, rfl⟩, ⟨a2, n2, p2, rfl⟩, ⟨a3, n3, p3, rfl⟩, rfl⟩⟩
      · obtain ⟨a1, p1, rfl⟩ := hv.item.slice
        obtain ⟨a2, p2, rfl⟩ := hv.items.slice
        obtain ⟨a3, p3, rfl⟩ := hv.params.slice
        have hO : o = some (⟨k, m.inner, m.item, m.items, m.params⟩, r) := by rw [HK.out, hm]
        subst hO
        have hres := HRES1.out.keep hb3
        have hlt := hres.lt
        have HRES := Lib.hid hres
        have HB3 := Lib.hid (onto HB1.out hb3)
        have HMV : Hid (MV w3 ⟨k, m.inner, m.item, m.items, m.params⟩ (.slice a1 m.item.params.length p1) (.slice a2 m.items.length p2) (.slice a3 m.params.length p3)) := Lib.hid ⟨hv.item, hv.items, hv.params⟩
        obtain ⟨⟨c0, c1, c2, c3, c4, c5, c6, c7⟩, f0, f1, f2, f3, f4, f5, f6, f7⟩ := hres.all8
        have hne : ¬ w3.heap.size = w.heap.size := by omega
        have hne' : ¬ w.heap.size = w3.heap.size := by omega
        clear hm hv hb3 hres H3 HK HB1 HRES1
        unfold mC
        go_wp2_with fail
        have hgA : w3.grownBy (set8 w3 w.heap.size (.string (bA k)) (.bool m.inner) (.int .i64 m.item.kind) (.int .i64 m.item.n) (.string (bA m.item.text)) (.slice a1 m.item.params.length p1) (.slice a2 m.items.length p2) (.slice a3 m.params.length p3)) (some w.heap.size) := g_set8 (g_refl _ _) _ _ _ _ _ _ _ _ (.inr rfl)
        refine bodyPost_ret (results_mem (m := ⟨k, m.inner, m.item, m.items, m.params⟩) rfl _ _ rfl ((HRES.out.set8 _ _ _ _ _ _ _ _).alloc _)) rfl ?_
        exact ⟨below_al (below_box HB3.out hgA (Nat.le_refl _)) _, .inl ⟨_, r, _, _, _, rfl, rfl, (HMV.out.boxed HRES.out hgA).al _⟩⟩
      · have hO : o = none := by rw [HK.out, hm]
        subst hO
        have hres := HRES1.out.keep hb3
        have hlt := hres.lt
        have HRES := Lib.hid hres
        have HB3 := Lib.hid (onto HB1.out hb3)
        obtain ⟨⟨c0, c1, c2, c3, c4, c5, c6, c7⟩, f0, f1, f2, f3, f4, f5, f6, f7⟩ := hres.all8
        have hne : ¬ w3.heap.size = w.heap.size := by omega
        have hne' : ¬ w.heap.size = w3.heap.size := by omega
        clear hm hb3 hres H3 HK HB1 HRES1
        unfold mC
        go_wp2_with fail
        have hgA : w3.grownBy (set8 w3 w.heap.size (.string (bA k)) (.bool m.inner) (.int .i64 m.item.kind) (.int .i64 m.item.n) (.string (bA m.item.text)) (.slice a1 n1 p1) (.slice a2 n2 p2) (.slice a3 n3 p3)) (some w.heap.size) := g_set8 (g_refl _ _) _ _ _ _ _ _ _ _ (.inr rfl)
        refine bodyPost_ret (results_mem (m := ⟨k, m.inner, m.item, m.items, m.params⟩) rfl _ _ rfl ((HRES.out.set8 _ _ _ _ _ _ _ _).alloc _)) rfl ?_
        exact ⟨below_al (below_box HB3.out hgA (Nat.le_refl _)) _, .inr ⟨rfl, _, _, _, _, _, .mk _ _ _, .mk _ _ _, .mk _ _ _, rfl⟩⟩
    · have H2 := Lib.hid (cut_no 61 r h61 w1)
      have H3 := Lib.hid (params_is_any r w1 (by omega))
      have HK := Lib.hid (Sf.keyd_bare hk h61)
      rw [HO.out] at HK
      clear hk h61 HO
      go_wp2_with fail
      refine H2.out.mono ?_
      rintro e w2 ⟨rfl, rfl⟩
      clear H2
      go_wp2_with fail
      refine H3.out.mono ?_
      rintro e w3 ⟨hb3, ⟨l, r', v, hl, rfl, hw⟩ | ⟨hl, rfl⟩⟩
      · obtain ⟨pa, pc, rfl⟩ := slice4 hw
        have hO : o = some (⟨k, false, ⟨6, 1, [], l⟩, [], []⟩, r') := by rw [HK.out, hl]
        subst hO
        have hres := HRES1.out.keep hb3
        have hlt := hres.lt
        have HRES := Lib.hid hres
        have HB3 := Lib.hid (onto HB1.out hb3)
        have HPV := Lib.hid (PV.of hw)
        obtain ⟨⟨c0, c1, c2, c3, c4, c5, c6, c7⟩, f0, f1, f2, f3, f4, f5, f6, f7⟩ := hres.all8
        have hne : ¬ w3.heap.size = w.heap.size := by omega
        have hne' : ¬ w.heap.size = w3.heap.size := by omega
        clear hl hw hb3 hres H3 HK HB1 HRES1
        go_wp2_with fail
        have hgA : w3.grownBy (set8 w3 w.heap.size (.string (bA k)) (.bool false) (.int .i64 6) (.int .i64 1) (.string (bA [])) (.slice pa l.length pc) (.slice none 0 0) (.slice none 0 0)) (some w.heap.size) := g_set8 (g_refl _ _) _ _ _ _ _ _ _ _ (.inr rfl)
        refine bodyPost_ret (results_mem (m := ⟨k, false, ⟨6, 1, [], l⟩, [], []⟩) rfl _ _ rfl ((HRES.out.set8 _ _ _ _ _ _ _ _).alloc _)) rfl ?_
        exact ⟨below_al (below_box HB3.out hgA (Nat.le_refl _)) _, .inl ⟨_, r', _, _, _, rfl, rfl, (MV.boxed ⟨HPV.out, IV.nil _, PV.nil _⟩ HRES.out hgA).al _⟩⟩
      · have hO : o = none := by rw [HK.out, hl]
        subst hO
        have hres := HRES1.out.keep hb3
        have hlt := hres.lt
        have HRES := Lib.hid hres
        have HB3 := Lib.hid (onto HB1.out hb3)
        obtain ⟨⟨c0, c1, c2, c3, c4, c5, c6, c7⟩, f0, f1, f2, f3, f4, f5, f6, f7⟩ := hres.all8
        have hne : ¬ w3.heap.size = w.heap.size := by omega
        have hne' : ¬ w.heap.size = w3.heap.size := by omega
        clear hl hb3 hres H3 HK HB1 HRES1
        go_wp2_with fail
        have hgA : w3.grownBy (set8 w3 w.heap.size (.string (bA k)) (.bool false) (.int .i64 6) (.int .i64 1) (.string (bA [])) (.slice none 0 0) (.slice none 0 0) (.slice none 0 0)) (some w.heap.size) := g_set8 (g_refl _ _) _ _ _ _ _ _ _ _ (.inr rfl)
        refine bodyPost_ret (results_mem (m := ⟨k, false, ⟨6, 1, [], []⟩, [], []⟩) rfl _ _ rfl ((HRES.out.set8 _ _ _ _ _ _ _ _).alloc _)) rfl ?_
        exact ⟨below_al (below_box HB3.out hgA (Nat.le_refl _)) _, .inr ⟨rfl, _, _, _, _, _, .mk _ _ _, .mk _ _ _, .mk _ _ _, rfl⟩⟩
  · have hO : o = none := by rw [← HO.out, Sf.keyd_none hk]
    subst hO
    have hres := HB.out.keep hb1
    have HRES := Lib.hid hres
    have HB1 := Lib.hid (onto HW.out hb1)
    obtain ⟨⟨c0, c1, c2, c3, c4, c5, c6, c7⟩, f0, f1, f2, f3, f4, f5, f6, f7⟩ := hres.all8
    clear hb1 hres hk H1 HB HW HO
    go_wp2_with fail
    have hgA := g_set8 (g_refl w1 (some w.heap.size)) (B := w.heap.size) (.string (bA [])) (.bool false) (.int .i64 0) (.int .i64 0) (.string (bA [])) (.slice none 0 0) (.slice none 0 0) (.slice none 0 0) (.inr rfl)
    refine bodyPost_ret (results_mem (m := ⟨[], false, Sf.zItm, [], []⟩) rfl _ _ rfl (HRES.out.set8 _ _ _ _ _ _ _ _)) rfl ?_
    exact ⟨below_box HB1.out hgA (Nat.le_refl _), .inr ⟨rfl, _, _, _, _, _, .mk _ _ _, .mk _ _ _, .mk _ _ _, rfl⟩⟩
end Go.Proofs.YtogjekjklknfeaaGreatDoor
