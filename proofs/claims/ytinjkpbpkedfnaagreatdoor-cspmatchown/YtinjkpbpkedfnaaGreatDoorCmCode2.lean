/- The contract of the program's Match. -/
import Derived.Test.YtinjkpbpkedfnaaGreatDoorCmCode1
import Derived.Test.YtinjkpbpkedfnaaGreatDoorCmFit
import Derived.Test.YtinjkpbpkedfnaaGreatDoorHostAll
namespace Go.Proofs.YtinjkpbpkedfnaaGreatDoor
open Go.RowKit

/-- The cells that the region of the host's test loads. -/
theorem RdyM.all {w0 : World} {A B C : Nat} {s : Cm.Src} {o me : Orig} {W : World} (h : RdyM w0 A B C s o me W) :
    W.cell? ⟨A, 1, none⟩ = some (.string (bA s.scheme)) ∧ W.cell? ⟨A, 2, none⟩ = some (.string (bA s.host)) ∧ W.cell? ⟨A, 3, none⟩ = some (.int .i64 s.port) ∧
      W.cell? ⟨B, 0, none⟩ = some (.bool o.op) ∧ W.cell? ⟨B, 1, none⟩ = some (.int .i64 o.id) ∧ W.cell? ⟨B, 2, none⟩ = some (.string (bA o.scheme)) ∧ W.cell? ⟨B, 3, none⟩ = some (.string (bA o.host.name)) ∧ W.cell? ⟨B, 4, none⟩ = some (.bool o.host.v4) ∧ W.cell? ⟨B, 5, none⟩ = some (.int .u32 o.host.addr) ∧ W.cell? ⟨B, 6, none⟩ = some (.int .i64 o.port) ∧
      W.cell? ⟨C, 0, none⟩ = some (.bool me.op) ∧ W.cell? ⟨C, 1, none⟩ = some (.int .i64 me.id) ∧ W.cell? ⟨C, 2, none⟩ = some (.string (bA me.scheme)) ∧ W.cell? ⟨C, 3, none⟩ = some (.string (bA me.host.name)) ∧ W.cell? ⟨C, 4, none⟩ = some (.bool me.host.v4) ∧ W.cell? ⟨C, 5, none⟩ = some (.int .u32 me.host.addr) ∧ W.cell? ⟨C, 6, none⟩ = some (.int .i64 me.port) ∧ RdyM w0 A B C s o me W :=
  ⟨h.s.c 1, h.s.c 2, h.s.c 3, h.x.c0, h.x.c1, h.x.c2, h.x.c3, h.x.c4, h.x.c5, h.x.c6, h.y.c0, h.y.c1, h.y.c2, h.y.c3, h.y.c4, h.y.c5, h.y.c6, h⟩
theorem kinds_of (s : Cm.Src) (o : Orig) : o.op = true ∨ (o.op = false ∧ s.kind = 2) ∨ (o.op = false ∧ s.kind = 3) ∨ (o.op = false ∧ s.kind = 1) ∨ (o.op = false ∧ s.kind = 4) ∨ (o.op = false ∧ s.kind ≠ 2 ∧ s.kind ≠ 3 ∧ s.kind ≠ 1 ∧ s.kind ≠ 4) := by
  cases o.op
  · by_cases h2 : s.kind = 2; · simp [h2]
    by_cases h3 : s.kind = 3; · simp [h3]
    by_cases h1 : s.kind = 1; · simp [h1]
    by_cases h4 : s.kind = 4; · simp [h4]
    simp [*]
  · simp
set_option maxHeartbeats 8000000 in
set_option maxRecDepth 20000 in
theorem cmMatch_any (s : Cm.Src) (o me : Orig) (w : World) (hT : Tab w) (_ : Tab8 w) (hs : FitS s) (ho : FitM o) (_ : FitM me) :
    Calls Tryz.prog 15 #[srcV s, origV o, origV me] w fun e w' => e = .returned (.bool (Cm.matchB s o me)) ∧ Below w.heap.size w w' := by
  have HX := Lib.hid (RdyM.mk0 w s o me hT)
  have HT := Lib.hid (fun W => cmTog_any s.scheme o.scheme W)
  have HS := Lib.hid (fun W => same_any o me W)
  have HU := Lib.hid (fun W => cmUp_any o me W)
  have HC := Lib.hid (fun W => cmSchm_any s o me W)
  have HP := Lib.hid (fun W => cmPorts_any s o W)
  have htx : ∀ W : World, Tab W → Calls Tryz.prog 41 #[.agg #[.string (bA o.host.name), .bool o.host.v4, .int .u32 o.host.addr]] W fun e w' => e = .returned (.string (bA (textL o.host))) ∧ Below W.heap.size W w' := fun W hW => text_any (bA o.host.name) o.host.v4 o.host.addr W hW ho.a0 ho.a1
  have hho := fun W => cmHosts_any s.host (textL o.host) W (Nat.le_trans hs.hs (by decide)) ho.fit.len
  have hm : Cm.matchB s o me = if o.op then false else if s.kind = 2 then true else if s.kind = 3 then Cm.tog s.scheme o.scheme else if s.kind = 1 then (sameO o me || Cm.upB o me)
    else if s.kind = 4 then Cm.schemeB s o me && (Cm.hostB s.host (textL o.host) && Cm.portB s o) else false := rfl
  rw [hm]
  obtain ⟨t1, e1⟩ : ∃ b, Cm.tog s.scheme o.scheme = b := ⟨_, rfl⟩
  obtain ⟨t2, e2⟩ : ∃ b, sameO o me = b := ⟨_, rfl⟩
  obtain ⟨t3, e3⟩ : ∃ b, Cm.upB o me = b := ⟨_, rfl⟩
  obtain ⟨bs, e4⟩ : ∃ b, Cm.schemeB s o me = b := ⟨_, rfl⟩
  obtain ⟨bh, e5⟩ : ∃ b, Cm.hostB s.host (textL o.host) = b := ⟨_, rfl⟩
  obtain ⟨bp, e6⟩ : ∃ b, Cm.portB s o = b := ⟨_, rfl⟩
  rw [e1] at HT; rw [e2] at HS; rw [e3] at HU; rw [e4] at HC; rw [e5] at hho; rw [e6] at HP
  rw [e1, e2, e3, e4, e5, e6]
  obtain ⟨tx, e7⟩ : ∃ b, textL o.host = b := ⟨_, rfl⟩
  rw [e7] at hho htx
  have HTX := Lib.hid htx; have HHO := Lib.hid hho
  clear e1 e2 e3 e4 e5 e6 e7 hm htx hho hT hs ho
  unfold srcV origV at *
  unfold srcC oCells at *
  rcases kinds_of s o with ho | ⟨ho, hk⟩ | ⟨ho, hk⟩ | ⟨ho, hk⟩ | ⟨ho, hk⟩ | ⟨ho, k2, k3, k1, k4⟩
  · rw [ho] at HX ⊢
    rw [if_pos rfl]
    have hbel := HX.out.bel
    clear ho HT HS HU HC HP HTX HHO HX
    go_enter Tryz.func15, Tryz.ntmps15
    go_wp2_with fail
    go_ret
    exact ⟨rfl, hbel⟩
  · rw [ho, hk] at HX ⊢
    rw [if_neg (by simp), if_pos rfl]
    have hbel := HX.out.bel
    clear ho hk HT HS HU HC HP HTX HHO HX
    go_enter Tryz.func15, Tryz.ntmps15
    go_wp2_with fail
    go_ret
    exact ⟨rfl, hbel⟩
  · rw [ho, hk] at HX ⊢
    rw [if_neg (by simp), if_neg (by decide), if_pos rfl]
    have hbel := HX.out.bel
    clear ho hk HS HU HC HP HTX HHO HX
    go_enter Tryz.func15, Tryz.ntmps15
    go_wp2_with fail
    refine (HT.out _).mono ?_
    rintro e w2 ⟨rfl, rfl⟩
    go_wp2_with fail
    go_ret
    exact ⟨rfl, hbel⟩
  · rw [ho, hk] at HX ⊢
    rw [ho] at HS HU
    rw [if_neg (by simp), if_neg (by decide), if_neg (by decide), if_pos rfl]
    have hbel := HX.out.bel
    clear hk HT HC HP HTX HHO
    cases t2 with
    | true =>
      clear HU HX
      go_enter Tryz.func15, Tryz.ntmps15
      go_wp2_with fail
      refine (HS.out _).mono ?_
      rintro e w2 ⟨rfl, hb2⟩
      go_wp2_with fail
      go_ret
      exact ⟨rfl, Below.onto hbel hb2⟩
    | false =>
      go_enter Tryz.func15, Tryz.ntmps15
      go_wp2_with fail
      refine (HS.out _).mono ?_
      rintro e w2 ⟨rfl, hb2⟩
      have HX2 := Lib.hid (HX.out.below hb2)
      obtain ⟨x0, x1, x2, x3, x4, x5, x6⟩ := HX2.out.x.all
      obtain ⟨y0, y1, y2, y3, y4, y5, y6⟩ := HX2.out.y.all
      rw [ho] at x0
      go_wp2_with fail
      refine (HU.out _).mono ?_
      rintro e w3 ⟨rfl, hb3⟩
      go_wp2_with fail
      go_ret
      exact ⟨rfl, Below.onto HX2.out.bel hb3⟩
  · rw [if_neg (by rw [ho]; simp), if_neg (by rw [hk]; decide), if_neg (by rw [hk]; decide), if_neg (by rw [hk]; decide), if_pos hk]
    have HO := Lib.hid ho; have HK := Lib.hid hk
    clear HT HS HU ho hk
    go_enter Tryz.func15, Tryz.ntmps15
    obtain ⟨w1, hw1⟩ : ∃ W, ((w.alloc (.cells #[.int .i64 s.kind, .string (bA s.scheme), .string (bA s.host), .int .i64 s.port] 24)).alloc (.cells #[.bool o.op, .int .i64 o.id, .string (bA o.scheme), .string (bA o.host.name), .bool o.host.v4, .int .u32 o.host.addr, .int .i64 o.port] 31)).alloc (.cells #[.bool me.op, .int .i64 me.id, .string (bA me.scheme), .string (bA me.host.name), .bool me.host.v4, .int .u32 me.host.addr, .int .i64 me.port] 31) = W := ⟨_, rfl⟩
    have HX1 : Hid (RdyM w w.heap.size (w.heap.size + 1) (w.heap.size + 1 + 1) s o me w1) := Lib.hid (by rw [← hw1]; exact HX.out)
    go_upto_region 1 with fail
    clear hw1 HX
    obtain ⟨A, hA⟩ : ∃ A, w.heap.size = A := ⟨_, rfl⟩
    obtain ⟨B, hB⟩ : ∃ B, A + 1 = B := ⟨_, rfl⟩
    obtain ⟨C, hC⟩ : ∃ C, B + 1 = C := ⟨_, rfl⟩
    simp only [hA, hB, hC] at HX1 ⊢
    clear hA hB hC
    have x0 := HX1.out.x.c0
    have s0 : w1.cell? ⟨A, 0, none⟩ = some (.int .i64 s.kind) := HX1.out.s.c 0
    rw [HO.out] at x0
    rw [HK.out] at s0
    go_upto_region 11 with fail
    clear x0 s0
    have hR1 := HX1.out
    refine wp_region_held_drew (S := (fun w' => w'.cell? ⟨A, 1, none⟩ = some (.string (bA s.scheme)) ∧ w'.cell? ⟨A, 2, none⟩ = some (.string (bA s.host)) ∧ w'.cell? ⟨A, 3, none⟩ = some (.int .i64 s.port) ∧
        w'.cell? ⟨B, 0, none⟩ = some (.bool o.op) ∧ w'.cell? ⟨B, 1, none⟩ = some (.int .i64 o.id) ∧ w'.cell? ⟨B, 2, none⟩ = some (.string (bA o.scheme)) ∧ w'.cell? ⟨B, 3, none⟩ = some (.string (bA o.host.name)) ∧ w'.cell? ⟨B, 4, none⟩ = some (.bool o.host.v4) ∧ w'.cell? ⟨B, 5, none⟩ = some (.int .u32 o.host.addr) ∧ w'.cell? ⟨B, 6, none⟩ = some (.int .i64 o.port) ∧
        w'.cell? ⟨C, 0, none⟩ = some (.bool me.op) ∧ w'.cell? ⟨C, 1, none⟩ = some (.int .i64 me.id) ∧ w'.cell? ⟨C, 2, none⟩ = some (.string (bA me.scheme)) ∧ w'.cell? ⟨C, 3, none⟩ = some (.string (bA me.host.name)) ∧ w'.cell? ⟨C, 4, none⟩ = some (.bool me.host.v4) ∧ w'.cell? ⟨C, 5, none⟩ = some (.int .u32 me.host.addr) ∧ w'.cell? ⟨C, 6, none⟩ = some (.int .i64 me.port) ∧ RdyM w A B C s o me w')) (by kernel_rfl) hR1.drew.all (fun hHeld => ?_)
    refine wpAnyH_take (i := 0) (oi := { dst := some 32, op := Op.fieldAddr 24 (Operand.tmp 3) 1, type := 0, pos := "cspmatch.go:62", after := #[], guard := none }) (v := (.pointer (some ⟨A, 1, none⟩))) rfl (by kernel_rfl) (by kernel_rfl) (by kernel_rfl) (fun _ _ _ h => h) (Or.inl ⟨by rfl, by intro w' hSw; go_simp⟩) (by assumption) ?_
    simp only [Act.put, List.setIfInBounds_toArray, List.set_cons_zero, List.set_cons_succ]
    refine wpAnyH_take (i := 1) (oi := { dst := some 33, op := Op.load 9 (Operand.tmp 32), type := 9, pos := "cspmatch.go:62", after := #[{ on := 0, ground := Ground.data }], guard := none }) (v := (.string (bA s.scheme))) rfl (by kernel_rfl) (by kernel_rfl) (by kernel_rfl) (fun _ _ _ h => h) (Or.inl ⟨by rfl, by intro w' hSw; go_simp⟩) (by assumption) ?_
    simp only [Act.put, List.setIfInBounds_toArray, List.set_cons_zero, List.set_cons_succ]
    refine wpAnyH_take (i := 2) (oi := { dst := some 34, op := Op.load 31 (Operand.tmp 4), type := 31, pos := "cspmatch.go:62", after := #[], guard := none }) (v := (.agg #[.bool o.op, .int .i64 o.id, .string (bA o.scheme), .string (bA o.host.name), .bool o.host.v4, .int .u32 o.host.addr, .int .i64 o.port])) rfl (by kernel_rfl) (by kernel_rfl) (by kernel_rfl) (fun _ _ _ h => h) (Or.inl ⟨by rfl, by intro w' hSw; go_simp⟩) (by assumption) ?_
    simp only [Act.put, List.setIfInBounds_toArray, List.set_cons_zero, List.set_cons_succ]
    refine wpAnyH_take (i := 3) (oi := { dst := some 35, op := Op.load 31 (Operand.tmp 5), type := 31, pos := "cspmatch.go:62", after := #[], guard := none }) (v := (.agg #[.bool me.op, .int .i64 me.id, .string (bA me.scheme), .string (bA me.host.name), .bool me.host.v4, .int .u32 me.host.addr, .int .i64 me.port])) rfl (by kernel_rfl) (by kernel_rfl) (by kernel_rfl) (fun _ _ _ h => h) (Or.inl ⟨by rfl, by intro w' hSw; go_simp⟩) (by assumption) ?_
    simp only [Act.put, List.setIfInBounds_toArray, List.set_cons_zero, List.set_cons_succ]
    refine wpAnyH_ready (rs := [4]) (by kernel_rfl) (by simp) ?_
    refine AllReadyH.cons (o := { dst := some 36, op := Op.call { callee := Callee.value (Operand.func 39), args := #[Operand.tmp 33, Operand.tmp 34, Operand.tmp 35], argTypes := #[9, 31, 31] }, type := 4, pos := "cspmatch.go:62", after := #[{ on := 1, ground := Ground.data }, { on := 2, ground := Ground.data }, { on := 3, ground := Ground.data }], guard := none }) rfl (fun K hK => ?_) AllReadyH.nil
    go_simp
    refine (HC.out _).mono ?_; rintro e w2 ⟨rfl, hb2⟩; have hR2 := RdyM.below hR1.drew hb2
    go_wp2_with fail
    refine hK.out _ _ hR2.all (fun hHeld => ?_)
    clear hK K
    refine wpAnyH_take (i := 5) (oi := { dst := some 37, op := Op.move (Operand.tmp 36), type := 4, pos := "cspmatch.go:62", after := #[{ on := 4, ground := Ground.data }, { on := 4, ground := Ground.chain }], guard := none }) (v := (.bool bs)) rfl (by kernel_rfl) (by kernel_rfl) (by kernel_rfl) (fun _ _ _ h => h) (Or.inl ⟨by rfl, by intro w' hSw; go_simp⟩) (by assumption) ?_
    simp only [Act.put, List.setIfInBounds_toArray, List.set_cons_zero, List.set_cons_succ]
    cases bs with
    | false =>
      refine wpAnyH_take (i := 6) (oi := { dst := some 38, op := Op.fieldAddr 24 (Operand.tmp 3) 2, type := 0, pos := "cspmatch.go:62", after := #[{ on := 5, ground := Ground.guard }], guard := some (5, true) }) (v := undef) rfl (by kernel_rfl) (by kernel_rfl) (by kernel_rfl) (fun _ _ _ h => h) (Or.inr ⟨by rfl, rfl⟩) (by assumption) ?_
      simp only [Act.put, List.setIfInBounds_toArray, List.set_cons_zero, List.set_cons_succ]
      refine wpAnyH_take (i := 7) (oi := { dst := some 39, op := Op.load 9 (Operand.tmp 38), type := 9, pos := "cspmatch.go:62", after := #[{ on := 6, ground := Ground.data }, { on := 5, ground := Ground.guard }], guard := some (5, true) }) (v := undef) rfl (by kernel_rfl) (by kernel_rfl) (by kernel_rfl) (fun _ _ _ h => h) (Or.inr ⟨by rfl, rfl⟩) (by assumption) ?_
      simp only [Act.put, List.setIfInBounds_toArray, List.set_cons_zero, List.set_cons_succ]
      refine wpAnyH_take (i := 8) (oi := { dst := some 40, op := Op.fieldAddr 31 (Operand.tmp 4) 3, type := 0, pos := "cspmatch.go:62", after := #[{ on := 5, ground := Ground.guard }], guard := some (5, true) }) (v := undef) rfl (by kernel_rfl) (by kernel_rfl) (by kernel_rfl) (fun _ _ _ h => h) (Or.inr ⟨by rfl, rfl⟩) (by assumption) ?_
      simp only [Act.put, List.setIfInBounds_toArray, List.set_cons_zero, List.set_cons_succ]
      refine wpAnyH_take (i := 9) (oi := { dst := some 41, op := Op.load 29 (Operand.tmp 40), type := 29, pos := "cspmatch.go:62", after := #[{ on := 8, ground := Ground.data }, { on := 5, ground := Ground.guard }], guard := some (5, true) }) (v := undef) rfl (by kernel_rfl) (by kernel_rfl) (by kernel_rfl) (fun _ _ _ h => h) (Or.inr ⟨by rfl, rfl⟩) (by assumption) ?_
      simp only [Act.put, List.setIfInBounds_toArray, List.set_cons_zero, List.set_cons_succ]
      refine wpAnyH_take (i := 10) (oi := { dst := some 42, op := Op.call { callee := Callee.value (Operand.func 41), args := #[Operand.tmp 41], argTypes := #[29] }, type := 9, pos := "cspmatch.go:62", after := #[{ on := 9, ground := Ground.data }, { on := 5, ground := Ground.chain }, { on := 5, ground := Ground.guard }], guard := some (5, true) }) (v := undef) rfl (by kernel_rfl) (by kernel_rfl) (by kernel_rfl) (fun _ _ _ h => h) (Or.inr ⟨by rfl, rfl⟩) (by assumption) ?_
      simp only [Act.put, List.setIfInBounds_toArray, List.set_cons_zero, List.set_cons_succ]
      refine wpAnyH_take (i := 11) (oi := { dst := some 43, op := Op.call { callee := Callee.value (Operand.func 40), args := #[Operand.tmp 39, Operand.tmp 42], argTypes := #[9, 9] }, type := 4, pos := "cspmatch.go:62", after := #[{ on := 7, ground := Ground.data }, { on := 10, ground := Ground.data }, { on := 10, ground := Ground.chain }, { on := 5, ground := Ground.guard }], guard := some (5, true) }) (v := undef) rfl (by kernel_rfl) (by kernel_rfl) (by kernel_rfl) (fun _ _ _ h => h) (Or.inr ⟨by rfl, rfl⟩) (by assumption) ?_
      simp only [Act.put, List.setIfInBounds_toArray, List.set_cons_zero, List.set_cons_succ]
      refine wpAnyH_take (i := 12) (oi := { dst := some 44, op := Op.pick (Operand.tmp 37) (Operand.tmp 43) (Operand.const (Value.bool false)), type := 4, pos := "cspmatch.go:62", after := #[{ on := 5, ground := Ground.data }, { on := 11, ground := Ground.data }], guard := none }) (v := (.bool false)) rfl (by kernel_rfl) (by kernel_rfl) (by kernel_rfl) (fun _ _ _ h => h) (Or.inl ⟨by rfl, by intro w' hSw; go_simp⟩) (by assumption) ?_
      simp only [Act.put, List.setIfInBounds_toArray, List.set_cons_zero, List.set_cons_succ]
      refine wpAnyH_take (i := 13) (oi := { dst := some 45, op := Op.move (Operand.tmp 44), type := 4, pos := "cspmatch.go:62", after := #[{ on := 12, ground := Ground.data }, { on := 11, ground := Ground.chain }], guard := none }) (v := (.bool false)) rfl (by kernel_rfl) (by kernel_rfl) (by kernel_rfl) (fun _ _ _ h => h) (Or.inl ⟨by rfl, by intro w' hSw; go_simp⟩) (by assumption) ?_
      simp only [Act.put, List.setIfInBounds_toArray, List.set_cons_zero, List.set_cons_succ]
      refine wpAnyH_take (i := 14) (oi := { dst := some 46, op := Op.fieldAddr 24 (Operand.tmp 3) 3, type := 0, pos := "cspmatch.go:62", after := #[{ on := 13, ground := Ground.guard }], guard := some (13, true) }) (v := undef) rfl (by kernel_rfl) (by kernel_rfl) (by kernel_rfl) (fun _ _ _ h => h) (Or.inr ⟨by rfl, rfl⟩) (by assumption) ?_
      simp only [Act.put, List.setIfInBounds_toArray, List.set_cons_zero, List.set_cons_succ]
      refine wpAnyH_take (i := 15) (oi := { dst := some 47, op := Op.load 3 (Operand.tmp 46), type := 3, pos := "cspmatch.go:62", after := #[{ on := 14, ground := Ground.data }, { on := 13, ground := Ground.guard }], guard := some (13, true) }) (v := undef) rfl (by kernel_rfl) (by kernel_rfl) (by kernel_rfl) (fun _ _ _ h => h) (Or.inr ⟨by rfl, rfl⟩) (by assumption) ?_
      simp only [Act.put, List.setIfInBounds_toArray, List.set_cons_zero, List.set_cons_succ]
      refine wpAnyH_take (i := 16) (oi := { dst := some 48, op := Op.load 31 (Operand.tmp 4), type := 31, pos := "cspmatch.go:62", after := #[{ on := 13, ground := Ground.guard }], guard := some (13, true) }) (v := undef) rfl (by kernel_rfl) (by kernel_rfl) (by kernel_rfl) (fun _ _ _ h => h) (Or.inr ⟨by rfl, rfl⟩) (by assumption) ?_
      simp only [Act.put, List.setIfInBounds_toArray, List.set_cons_zero, List.set_cons_succ]
      refine wpAnyH_take (i := 17) (oi := { dst := some 49, op := Op.call { callee := Callee.value (Operand.func 42), args := #[Operand.tmp 47, Operand.tmp 48], argTypes := #[3, 31] }, type := 4, pos := "cspmatch.go:62", after := #[{ on := 15, ground := Ground.data }, { on := 16, ground := Ground.data }, { on := 13, ground := Ground.chain }, { on := 13, ground := Ground.guard }], guard := some (13, true) }) (v := undef) rfl (by kernel_rfl) (by kernel_rfl) (by kernel_rfl) (fun _ _ _ h => h) (Or.inr ⟨by rfl, rfl⟩) (by assumption) ?_
      simp only [Act.put, List.setIfInBounds_toArray, List.set_cons_zero, List.set_cons_succ]
      refine wpAnyH_take (i := 18) (oi := { dst := some 50, op := Op.pick (Operand.tmp 45) (Operand.tmp 49) (Operand.const (Value.bool false)), type := 4, pos := "cspmatch.go:62", after := #[{ on := 13, ground := Ground.data }, { on := 17, ground := Ground.data }], guard := none }) (v := (.bool false)) rfl (by kernel_rfl) (by kernel_rfl) (by kernel_rfl) (fun _ _ _ h => h) (Or.inl ⟨by rfl, by intro w' hSw; go_simp⟩) (by assumption) ?_
      simp only [Act.put, List.setIfInBounds_toArray, List.set_cons_zero, List.set_cons_succ]
      refine wpAnyH_take (i := 19) (oi := { dst := some 6, op := Op.assign (Operand.tmp 50), type := 4, pos := "cspmatch.go:62", after := #[{ on := 18, ground := Ground.data }, { on := 17, ground := Ground.chain }, { on := 0, ground := Ground.phase }, { on := 1, ground := Ground.phase }, { on := 2, ground := Ground.phase }, { on := 3, ground := Ground.phase }, { on := 4, ground := Ground.phase }, { on := 5, ground := Ground.phase }, { on := 6, ground := Ground.phase }, { on := 7, ground := Ground.phase }, { on := 8, ground := Ground.phase }, { on := 9, ground := Ground.phase }, { on := 10, ground := Ground.phase }, { on := 11, ground := Ground.phase }, { on := 12, ground := Ground.phase }, { on := 13, ground := Ground.phase }, { on := 14, ground := Ground.phase }, { on := 15, ground := Ground.phase }, { on := 16, ground := Ground.phase }, { on := 17, ground := Ground.phase }, { on := 18, ground := Ground.phase }], guard := none }) (v := (.bool false)) rfl (by kernel_rfl) (by kernel_rfl) (by kernel_rfl) (fun _ _ _ h => h) (Or.inl ⟨by rfl, by intro w' hSw; go_simp⟩) (by assumption) ?_
      simp only [Act.put, List.setIfInBounds_toArray, List.set_cons_zero, List.set_cons_succ]
      refine wpAnyH_done (by kernel_rfl) ?_ _
      have hbel := hR2.bel
      go_wp2_with fail
      go_ret
      exact ⟨rfl, hbel⟩
    | true =>
      refine wpAnyH_take (i := 6) (oi := { dst := some 38, op := Op.fieldAddr 24 (Operand.tmp 3) 2, type := 0, pos := "cspmatch.go:62", after := #[{ on := 5, ground := Ground.guard }], guard := some (5, true) }) (v := (.pointer (some ⟨A, 2, none⟩))) rfl (by kernel_rfl) (by kernel_rfl) (by kernel_rfl) (fun _ _ _ h => h) (Or.inl ⟨by rfl, by intro w' hSw; go_simp⟩) (by assumption) ?_
      simp only [Act.put, List.setIfInBounds_toArray, List.set_cons_zero, List.set_cons_succ]
      refine wpAnyH_take (i := 7) (oi := { dst := some 39, op := Op.load 9 (Operand.tmp 38), type := 9, pos := "cspmatch.go:62", after := #[{ on := 6, ground := Ground.data }, { on := 5, ground := Ground.guard }], guard := some (5, true) }) (v := (.string (bA s.host))) rfl (by kernel_rfl) (by kernel_rfl) (by kernel_rfl) (fun _ _ _ h => h) (Or.inl ⟨by rfl, by intro w' hSw; go_simp⟩) (by assumption) ?_
      simp only [Act.put, List.setIfInBounds_toArray, List.set_cons_zero, List.set_cons_succ]
      refine wpAnyH_take (i := 8) (oi := { dst := some 40, op := Op.fieldAddr 31 (Operand.tmp 4) 3, type := 0, pos := "cspmatch.go:62", after := #[{ on := 5, ground := Ground.guard }], guard := some (5, true) }) (v := (.pointer (some ⟨B, 3, none⟩))) rfl (by kernel_rfl) (by kernel_rfl) (by kernel_rfl) (fun _ _ _ h => h) (Or.inl ⟨by rfl, by intro w' hSw; go_simp⟩) (by assumption) ?_
      simp only [Act.put, List.setIfInBounds_toArray, List.set_cons_zero, List.set_cons_succ]
      refine wpAnyH_take (i := 9) (oi := { dst := some 41, op := Op.load 29 (Operand.tmp 40), type := 29, pos := "cspmatch.go:62", after := #[{ on := 8, ground := Ground.data }, { on := 5, ground := Ground.guard }], guard := some (5, true) }) (v := (.agg #[.string (bA o.host.name), .bool o.host.v4, .int .u32 o.host.addr])) rfl (by kernel_rfl) (by kernel_rfl) (by kernel_rfl) (fun _ _ _ h => h) (Or.inl ⟨by rfl, by intro w' hSw; go_simp⟩) (by assumption) ?_
      simp only [Act.put, List.setIfInBounds_toArray, List.set_cons_zero, List.set_cons_succ]
      refine wpAnyH_ready (rs := [10]) (by kernel_rfl) (by simp) ?_
      refine AllReadyH.cons (o := { dst := some 42, op := Op.call { callee := Callee.value (Operand.func 41), args := #[Operand.tmp 41], argTypes := #[29] }, type := 9, pos := "cspmatch.go:62", after := #[{ on := 9, ground := Ground.data }, { on := 5, ground := Ground.chain }, { on := 5, ground := Ground.guard }], guard := some (5, true) }) rfl (fun K hK => ?_) AllReadyH.nil
      go_simp
      refine (HTX.out _ hR2.tab).mono ?_; rintro e w3 ⟨rfl, hb3⟩; have hR3 := RdyM.below hR2 hb3
      go_wp2_with fail
      refine hK.out _ _ hR3.all (fun hHeld => ?_)
      clear hK K
      refine wpAnyH_ready (rs := [11]) (by kernel_rfl) (by simp) ?_
      refine AllReadyH.cons (o := { dst := some 43, op := Op.call { callee := Callee.value (Operand.func 40), args := #[Operand.tmp 39, Operand.tmp 42], argTypes := #[9, 9] }, type := 4, pos := "cspmatch.go:62", after := #[{ on := 7, ground := Ground.data }, { on := 10, ground := Ground.data }, { on := 10, ground := Ground.chain }, { on := 5, ground := Ground.guard }], guard := some (5, true) }) rfl (fun K hK => ?_) AllReadyH.nil
      go_simp
      refine (HHO.out _).mono ?_; rintro e w4 ⟨rfl, rfl⟩
      go_wp2_with fail
      refine hK.out _ _ hR3.all (fun hHeld => ?_)
      clear hK K
      refine wpAnyH_take (i := 12) (oi := { dst := some 44, op := Op.pick (Operand.tmp 37) (Operand.tmp 43) (Operand.const (Value.bool false)), type := 4, pos := "cspmatch.go:62", after := #[{ on := 5, ground := Ground.data }, { on := 11, ground := Ground.data }], guard := none }) (v := (.bool bh)) rfl (by kernel_rfl) (by kernel_rfl) (by kernel_rfl) (fun _ _ _ h => h) (Or.inl ⟨by rfl, by intro w' hSw; go_simp⟩) (by assumption) ?_
      simp only [Act.put, List.setIfInBounds_toArray, List.set_cons_zero, List.set_cons_succ]
      refine wpAnyH_take (i := 13) (oi := { dst := some 45, op := Op.move (Operand.tmp 44), type := 4, pos := "cspmatch.go:62", after := #[{ on := 12, ground := Ground.data }, { on := 11, ground := Ground.chain }], guard := none }) (v := (.bool bh)) rfl (by kernel_rfl) (by kernel_rfl) (by kernel_rfl) (fun _ _ _ h => h) (Or.inl ⟨by rfl, by intro w' hSw; go_simp⟩) (by assumption) ?_
      simp only [Act.put, List.setIfInBounds_toArray, List.set_cons_zero, List.set_cons_succ]
      cases bh with
      | false =>
        refine wpAnyH_take (i := 14) (oi := { dst := some 46, op := Op.fieldAddr 24 (Operand.tmp 3) 3, type := 0, pos := "cspmatch.go:62", after := #[{ on := 13, ground := Ground.guard }], guard := some (13, true) }) (v := undef) rfl (by kernel_rfl) (by kernel_rfl) (by kernel_rfl) (fun _ _ _ h => h) (Or.inr ⟨by rfl, rfl⟩) (by assumption) ?_
        simp only [Act.put, List.setIfInBounds_toArray, List.set_cons_zero, List.set_cons_succ]
        refine wpAnyH_take (i := 15) (oi := { dst := some 47, op := Op.load 3 (Operand.tmp 46), type := 3, pos := "cspmatch.go:62", after := #[{ on := 14, ground := Ground.data }, { on := 13, ground := Ground.guard }], guard := some (13, true) }) (v := undef) rfl (by kernel_rfl) (by kernel_rfl) (by kernel_rfl) (fun _ _ _ h => h) (Or.inr ⟨by rfl, rfl⟩) (by assumption) ?_
        simp only [Act.put, List.setIfInBounds_toArray, List.set_cons_zero, List.set_cons_succ]
        refine wpAnyH_take (i := 16) (oi := { dst := some 48, op := Op.load 31 (Operand.tmp 4), type := 31, pos := "cspmatch.go:62", after := #[{ on := 13, ground := Ground.guard }], guard := some (13, true) }) (v := undef) rfl (by kernel_rfl) (by kernel_rfl) (by kernel_rfl) (fun _ _ _ h => h) (Or.inr ⟨by rfl, rfl⟩) (by assumption) ?_
        simp only [Act.put, List.setIfInBounds_toArray, List.set_cons_zero, List.set_cons_succ]
        refine wpAnyH_take (i := 17) (oi := { dst := some 49, op := Op.call { callee := Callee.value (Operand.func 42), args := #[Operand.tmp 47, Operand.tmp 48], argTypes := #[3, 31] }, type := 4, pos := "cspmatch.go:62", after := #[{ on := 15, ground := Ground.data }, { on := 16, ground := Ground.data }, { on := 13, ground := Ground.chain }, { on := 13, ground := Ground.guard }], guard := some (13, true) }) (v := undef) rfl (by kernel_rfl) (by kernel_rfl) (by kernel_rfl) (fun _ _ _ h => h) (Or.inr ⟨by rfl, rfl⟩) (by assumption) ?_
        simp only [Act.put, List.setIfInBounds_toArray, List.set_cons_zero, List.set_cons_succ]
        refine wpAnyH_take (i := 18) (oi := { dst := some 50, op := Op.pick (Operand.tmp 45) (Operand.tmp 49) (Operand.const (Value.bool false)), type := 4, pos := "cspmatch.go:62", after := #[{ on := 13, ground := Ground.data }, { on := 17, ground := Ground.data }], guard := none }) (v := (.bool false)) rfl (by kernel_rfl) (by kernel_rfl) (by kernel_rfl) (fun _ _ _ h => h) (Or.inl ⟨by rfl, by intro w' hSw; go_simp⟩) (by assumption) ?_
        simp only [Act.put, List.setIfInBounds_toArray, List.set_cons_zero, List.set_cons_succ]
        refine wpAnyH_take (i := 19) (oi := { dst := some 6, op := Op.assign (Operand.tmp 50), type := 4, pos := "cspmatch.go:62", after := #[{ on := 18, ground := Ground.data }, { on := 17, ground := Ground.chain }, { on := 0, ground := Ground.phase }, { on := 1, ground := Ground.phase }, { on := 2, ground := Ground.phase }, { on := 3, ground := Ground.phase }, { on := 4, ground := Ground.phase }, { on := 5, ground := Ground.phase }, { on := 6, ground := Ground.phase }, { on := 7, ground := Ground.phase }, { on := 8, ground := Ground.phase }, { on := 9, ground := Ground.phase }, { on := 10, ground := Ground.phase }, { on := 11, ground := Ground.phase }, { on := 12, ground := Ground.phase }, { on := 13, ground := Ground.phase }, { on := 14, ground := Ground.phase }, { on := 15, ground := Ground.phase }, { on := 16, ground := Ground.phase }, { on := 17, ground := Ground.phase }, { on := 18, ground := Ground.phase }], guard := none }) (v := (.bool false)) rfl (by kernel_rfl) (by kernel_rfl) (by kernel_rfl) (fun _ _ _ h => h) (Or.inl ⟨by rfl, by intro w' hSw; go_simp⟩) (by assumption) ?_
        simp only [Act.put, List.setIfInBounds_toArray, List.set_cons_zero, List.set_cons_succ]
        refine wpAnyH_done (by kernel_rfl) ?_ _
        have hbel := hR3.bel
        go_wp2_with fail
        go_ret
        exact ⟨rfl, hbel⟩
      | true =>
        refine wpAnyH_take (i := 14) (oi := { dst := some 46, op := Op.fieldAddr 24 (Operand.tmp 3) 3, type := 0, pos := "cspmatch.go:62", after := #[{ on := 13, ground := Ground.guard }], guard := some (13, true) }) (v := (.pointer (some ⟨A, 3, none⟩))) rfl (by kernel_rfl) (by kernel_rfl) (by kernel_rfl) (fun _ _ _ h => h) (Or.inl ⟨by rfl, by intro w' hSw; go_simp⟩) (by assumption) ?_
        simp only [Act.put, List.setIfInBounds_toArray, List.set_cons_zero, List.set_cons_succ]
        refine wpAnyH_take (i := 15) (oi := { dst := some 47, op := Op.load 3 (Operand.tmp 46), type := 3, pos := "cspmatch.go:62", after := #[{ on := 14, ground := Ground.data }, { on := 13, ground := Ground.guard }], guard := some (13, true) }) (v := (.int .i64 s.port)) rfl (by kernel_rfl) (by kernel_rfl) (by kernel_rfl) (fun _ _ _ h => h) (Or.inl ⟨by rfl, by intro w' hSw; go_simp⟩) (by assumption) ?_
        simp only [Act.put, List.setIfInBounds_toArray, List.set_cons_zero, List.set_cons_succ]
        refine wpAnyH_take (i := 16) (oi := { dst := some 48, op := Op.load 31 (Operand.tmp 4), type := 31, pos := "cspmatch.go:62", after := #[{ on := 13, ground := Ground.guard }], guard := some (13, true) }) (v := (.agg #[.bool o.op, .int .i64 o.id, .string (bA o.scheme), .string (bA o.host.name), .bool o.host.v4, .int .u32 o.host.addr, .int .i64 o.port])) rfl (by kernel_rfl) (by kernel_rfl) (by kernel_rfl) (fun _ _ _ h => h) (Or.inl ⟨by rfl, by intro w' hSw; go_simp⟩) (by assumption) ?_
        simp only [Act.put, List.setIfInBounds_toArray, List.set_cons_zero, List.set_cons_succ]
        refine wpAnyH_ready (rs := [17]) (by kernel_rfl) (by simp) ?_
        refine AllReadyH.cons (o := { dst := some 49, op := Op.call { callee := Callee.value (Operand.func 42), args := #[Operand.tmp 47, Operand.tmp 48], argTypes := #[3, 31] }, type := 4, pos := "cspmatch.go:62", after := #[{ on := 15, ground := Ground.data }, { on := 16, ground := Ground.data }, { on := 13, ground := Ground.chain }, { on := 13, ground := Ground.guard }], guard := some (13, true) }) rfl (fun K hK => ?_) AllReadyH.nil
        go_simp
        refine (HP.out _).mono ?_; rintro e w5 ⟨rfl, hb5⟩; have hR4 := RdyM.below hR3 hb5
        go_wp2_with fail
        refine hK.out _ _ hR4.all (fun hHeld => ?_)
        clear hK K
        refine wpAnyH_take (i := 18) (oi := { dst := some 50, op := Op.pick (Operand.tmp 45) (Operand.tmp 49) (Operand.const (Value.bool false)), type := 4, pos := "cspmatch.go:62", after := #[{ on := 13, ground := Ground.data }, { on := 17, ground := Ground.data }], guard := none }) (v := (.bool bp)) rfl (by kernel_rfl) (by kernel_rfl) (by kernel_rfl) (fun _ _ _ h => h) (Or.inl ⟨by rfl, by intro w' hSw; go_simp⟩) (by assumption) ?_
        simp only [Act.put, List.setIfInBounds_toArray, List.set_cons_zero, List.set_cons_succ]
        refine wpAnyH_take (i := 19) (oi := { dst := some 6, op := Op.assign (Operand.tmp 50), type := 4, pos := "cspmatch.go:62", after := #[{ on := 18, ground := Ground.data }, { on := 17, ground := Ground.chain }, { on := 0, ground := Ground.phase }, { on := 1, ground := Ground.phase }, { on := 2, ground := Ground.phase }, { on := 3, ground := Ground.phase }, { on := 4, ground := Ground.phase }, { on := 5, ground := Ground.phase }, { on := 6, ground := Ground.phase }, { on := 7, ground := Ground.phase }, { on := 8, ground := Ground.phase }, { on := 9, ground := Ground.phase }, { on := 10, ground := Ground.phase }, { on := 11, ground := Ground.phase }, { on := 12, ground := Ground.phase }, { on := 13, ground := Ground.phase }, { on := 14, ground := Ground.phase }, { on := 15, ground := Ground.phase }, { on := 16, ground := Ground.phase }, { on := 17, ground := Ground.phase }, { on := 18, ground := Ground.phase }], guard := none }) (v := (.bool bp)) rfl (by kernel_rfl) (by kernel_rfl) (by kernel_rfl) (fun _ _ _ h => h) (Or.inl ⟨by rfl, by intro w' hSw; go_simp⟩) (by assumption) ?_
        simp only [Act.put, List.setIfInBounds_toArray, List.set_cons_zero, List.set_cons_succ]
        refine wpAnyH_done (by kernel_rfl) ?_ _
        have hbel := hR4.bel
        go_wp2_with fail
        go_ret
        exact ⟨rfl, hbel⟩
  · rw [ho] at HX ⊢
    rw [if_neg (by simp), if_neg k2, if_neg k3, if_neg k1, if_neg k4]
    have q2 : (s.kind == 2) = false := beq_eq_false_iff_ne.2 k2
    have q3 : (s.kind == 3) = false := beq_eq_false_iff_ne.2 k3
    have q1 : (s.kind == 1) = false := beq_eq_false_iff_ne.2 k1
    have q4 : (s.kind == 4) = false := beq_eq_false_iff_ne.2 k4
    have hbel := HX.out.bel
    clear ho k1 k2 k3 k4 HT HS HU HC HP HTX HHO HX
    go_enter Tryz.func15, Tryz.ntmps15
    go_wp2_with fail
    go_ret
    exact ⟨rfl, hbel⟩
end Go.Proofs.YtinjkpbpkedfnaaGreatDoor
