/- The walk of the statement HeadersBytes. -/
import Derived.Test.YtopakamglhhncaaHdLaws2
import Derived.Deep.Cut
import Derived.Deep.CutRange
import Derived.Deep.CutBlock
namespace Go.Proofs.Ytopakamglhhncaa
open Go.RowKit Go.Deep

namespace Hd
theorem eq_b (c d : UInt8) : decide ((c.toNat : Int) = (d.toNat : Int)) = (c == d) := by
  rw [Bool.eq_iff_iff]
  simp only [beq_iff_eq, decide_eq_true_eq]
  constructor
  · intro h
    exact UInt8.toNat_inj.1 (by omega)
  · rintro rfl; rfl
theorem bad_b (c : UInt8) : badB c = (decide ((c.toNat : Int) = 0) || decide ((c.toNat : Int) = 10) || decide ((c.toNat : Int) = 13)) := by
  unfold badB
  rw [← eq_b c 0, ← eq_b c 10, ← eq_b c 13]
  rfl
end Hd
theorem byte_of {b : Int} (h : (Lit.int .u8 b).wf = true) : ∃ c : UInt8, b = (c.toNat : Int) := by
  obtain ⟨h0, h1⟩ := bounds_u8 h
  exact ⟨UInt8.ofNat b.toNat, by simp; omega⟩
theorem conv_one (c : UInt8) (W : World) : (convert 41 9 (.slice (some ⟨W.heap.size, 0, none⟩) 1 1)).run Try.prog (W.alloc (.cells #[.int .u8 (c.toNat : Int)] 5)) = .ok (.string ⟨#[c]⟩) (W.alloc (.cells #[.int .u8 (c.toNat : Int)] 5)) := by
  have := run_convert_bytes_back (P := Try.prog) (W.alloc (.cells #[.int .u8 (c.toNat : Int)] 5)) 41 9 5 ⟨W.heap.size, 0, none⟩ 1 [c] Try.underlying41 Try.underlying5 Try.underlying9 (fun j hj => by
    have : j = 0 := by simpa using hj
    subst this
    show (W.alloc _).cell? ⟨W.heap.size, 0 + 0, none⟩ = _
    rw [World.cell?_alloc_mark]; rfl)
  exact this
theorem hbox_store {W : World} {B : Nat} {h : Hd.Hdr} (hx : HBox W B h) {v : List UInt8} {V : ByteArray} (hV : bA v = V) : HBox (W.setCell ⟨B, 1, none⟩ (.string V)) B ⟨h.name, v⟩ := by
  subst hV
  unfold HBox at hx ⊢
  simp [World.setCell, Array.getElem?_modify, hx]
theorem hbox_open {W : World} {B : Nat} {h : Hd.Hdr} (hx : HBox W B h) : W.frozen? ⟨B, 1, none⟩ = false := by
  unfold HBox at hx
  simp [World.frozen?, hx]
theorem shut_err (b : Bool) : ∃ e : Int, errV b = .int .i64 e ∧ ((b = true ∧ e = 0) ∨ (b = false ∧ e = 70)) := by
  cases b
  · exact ⟨70, rfl, .inr ⟨rfl, rfl⟩⟩
  · exact ⟨0, rfl, .inl ⟨rfl, rfl⟩⟩

set_option maxHeartbeats 4000000 in
set_option maxRecDepth 100000 in
theorem walk_HeadersBytes (A : Option Addr) (c : Nat) (l : List Hd.Hdr) (h : Hd.Hdr) (b : Int) (w : World) (hw : WideHs w A c l) (_hwh : WideH h) (hb : (Lit.int .u8 b).wf = true) (hrs : l.length * 32 ≤ 140737488351232) :
    Calls Try.prog 8 #[.slice A l.length c, .agg #[.string (bA h.name), .string (bA h.value)], .int .u8 b] w fun e w' => e = .returned (.bool true) ∧ Below w.heap.size w w' := by
  obtain ⟨cb, rfl⟩ := byte_of hb
  have hl63 : l.length ≤ maxLen := hw.len
  have hm63 : l.length + 1 ≤ maxLen := by unfold maxLen; omega
  have hby1 : l.length * 32 ≤ 140737488355328 := by omega
  have hby2 : (l.length + 1) * 32 ≤ 140737488355328 := by omega
  have hnl := hw.nl
  have hcap := hw.cap
  have hln : (l ++ [h]).length = l.length + 1 := by simp
  have HB0 := Lib.hid (below_one w (.cells #[.string (bA h.name), .string (bA h.value)] 34))
  have HBX0 := Lib.hid (HBox.new w h)
  have HSw := Lib.hid hw.seen
  clear hw hb
  obtain ⟨bf, hbf⟩ : ∃ bf, fewB (l ++ [h]) = bf := ⟨_, rfl⟩
  have HBF := Lib.hid hbf
  clear hbf
  go_enter Try.func8, Try.ntmps8
  go_wp2_with fail
  refine (awake_any _).mono ?_
  rintro e w1 ⟨rfl, hb1⟩
  have HB1 := Lib.hid (Below.onto HB0.out hb1); have HBX1 := Lib.hid (HBX0.out.below hb1)
  have HS1 := Lib.hid (HSw.out.below HB1.out)
  clear hb1
  go_upto_region 2 with fail
  go_cut [8] from 15 to 21 (fun s8 wx => s8 = .bool bf ∧ Hid (Below w.heap.size w wx) ∧ Hid (HBox wx w.heap.size h))
  case first =>
    have hb0 : Below w1.heap.size w1 w1 := Below.refl _ _
    have hse : ∀ W, Below w1.heap.size w1 W → SeenH W A l := fun W hb => HS1.out.below hb
    go_wp2_with fail
    go_region_held_law (fun w' => w'.cell? ⟨w.heap.size, 0, none⟩ = some (.string (bA h.name)) ∧ w'.cell? ⟨w.heap.size, 1, none⟩ = some (.string (bA h.value)) ∧ Below w1.heap.size w1 w')
      (first
        | exact rdy_h HBX1.out hb6
        | exact rdy_h HBX1.out (below_al hb4 _)
        | exact rdy_h HBX1.out hb4
        | exact rdy_h HBX1.out (below_al (below_al hb0.drew _) _)
        | exact rdy_h HBX1.out (below_al hb0.drew _)
        | exact rdy_h HBX1.out hb0.drew)
      (first
        | (refine step_app rfl _ _ rfl w1.heap.size _ [] l rfl (own_none (World.alloc_heap_new w1 _) (Nat.le_refl _)) A l.length c l.length rfl rfl hnl (hse _ (below_al hb0 _).drew) (Nat.zero_add _) hl63 hby1 (below_al hb0 _).drew.size ?_; intro A4 c4 w4 hown4 hg4 hs4 hbb4; have hb4 := (below_al hb0 _).drew.trans hbb4)
        | (refine step_app rfl _ _ rfl w1.heap.size _ [] l rfl (own_none (heap_first w1 _ _) (Nat.le_refl _)) A l.length c l.length rfl rfl hnl (hse _ (below_al (below_al hb0 _) _).drew) (Nat.zero_add _) hl63 hby1 (below_al (below_al hb0 _) _).drew.size ?_; intro A4 c4 w4 hown4 hg4 hs4 hbb4; have hb4 := (below_al (below_al hb0 _) _).drew.trans hbb4)
        | (refine step_app rfl _ _ rfl w1.heap.size _ [] l rfl (own_none (heap_second w1 _ _) (Nat.le_succ _)) A l.length c l.length rfl rfl hnl (hse _ (below_al (below_al hb0 _) _).drew) (Nat.zero_add _) hl63 hby1 (below_al (below_al hb0 _) _).drew.size ?_; intro A4 c4 w4 hown4 hg4 hs4 hbb4; have hb4 := (below_al (below_al hb0 _) _).drew.trans hbb4)
        | (refine step_app rfl _ _ rfl w1.heap.size _ l [h] rfl (hown4.alloc _) _ 1 _ (l.length + 1) rfl rfl (fun e => by cases e) (seen_lit (World.alloc_heap_new w4 _) rfl) rfl hm63 hby2 (below_al hb4 _).size ?_; intro A6 c6 w6 hown6 hg6 hs6 hbb6; have hb6 := (below_al hb4 _).trans hbb6)
        | (refine step_app rfl _ _ rfl w1.heap.size _ l [h] rfl hown4 _ 1 _ (l.length + 1) rfl rfl (fun e => by cases e) (one_kept (heap_second w1 _ _) hg4 (fun e => Nat.succ_ne_self _ (Option.some.inj e))) rfl hm63 hby2 hb4.size ?_; intro A6 c6 w6 hown6 hg6 hs6 hbb6; have hb6 := hb4.trans hbb6)
        | (refine step_app rfl _ _ rfl w1.heap.size _ l [h] rfl hown4 _ 1 _ (l.length + 1) rfl rfl (fun e => by cases e) (one_kept (heap_first w1 _ _) hg4 (fun e => Nat.succ_ne_self _ (Option.some.inj e).symm)) rfl hm63 hby2 hb4.size ?_; intro A6 c6 w6 hown6 hg6 hs6 hbb6; have hb6 := hb4.trans hbb6)
        | (go_at_call 10; refine (few_any A6 c6 (l.length + 1) (l ++ [h]) _ hln hs6).mono ?_; rintro e w' ⟨rfl, hw'⟩; rw [hw'])
        | fail)
    all_goals
      have HB6 := Lib.hid (Below.onto HB1.out hb6)
      have HBX6 := Lib.hid (HBX1.out.below hb6)
      rw [HBF.out]
      rename_i hHeld
      clear hHeld hown4 hg4 hs4 hbb4 hb4 hown6 hg6 hs6 hbb6 hb6 hb0 hse
      go_wp2_with fail
      go_meet
      exact ⟨rfl, HB6, HBX6⟩
  case rest =>
    obtain ⟨rfl, HB6, HBX6⟩ := hcut
    have HS6 := Lib.hid (HSw.out.below HB6.out)
    clear HB0 HBX0 HB1 HBX1 HS1
    obtain ⟨V, hV⟩ : ∃ V, bA h.value = V := ⟨_, rfl⟩
    have hVl : V.size = h.value.length := by rw [← hV, bA_size]
    cases bf with
    | false =>
      go_wp2_with fail
      go_ret
      exact ⟨rfl, HB6.out⟩
    | true =>
      by_cases hl90 : l.length ≤ 90
      · have hl90z : ¬ ((90 : Int) < (l.length : Int)) := by omega
        have d1 := HBX6.out.c1
        rw [hV] at d1
        by_cases hv : h.value.length ≤ 3000
        · have hvz : ¬ ((3000 : Int) < (V.size : Int)) := by omega
          have hsm := few_small HBF.out
          have hhn : h.name.length ≤ 10000 := (hsm.each h (by simp)).1
          have HSL : Hid (SmallH l) := Lib.hid ⟨by have := hsm.len; simp at this; omega, fun x hx => hsm.each x (by simp [hx])⟩
          have hc := check_any A c l.length l wc rfl HSL.out HS6.out
          cases hck : Hd.checkB l with
          | false =>
            rw [hck, show errV false = .int .i64 70 from rfl] at hc
            go_wp2_with fail
            refine hc.mono ?_
            rintro e w7 ⟨rfl, hb7⟩
            clear hc
            go_wp2_with fail
            go_ret
            exact ⟨rfl, Below.onto HB6.out hb7⟩
          | true =>
            rw [hck, show errV true = .int .i64 0 from rfl] at hc
            have hmore := fun v hv => Hd.check_more (h := ⟨h.name, v⟩) hck (by omega) hv
            have htail := Hd.check_tail hck
            have HMO := Lib.hid hmore; have HTA := Lib.hid htail; have HSM := Lib.hid hsm
            clear hck hmore htail hsm
            go_wp2_with fail
            refine hc.mono ?_
            rintro e w7 ⟨rfl, hb7⟩
            have HB7 := Lib.hid (Below.onto HB6.out hb7)
            have HBX7 := Lib.hid (HBX6.out.below hb7)
            have d1 := HBX7.out.c1
            rw [hV] at d1
            clear hc hb7
            have hcv := conv_one cb
            obtain ⟨V1, hV1⟩ : ∃ V1, bA (h.value ++ [cb]) = V1 := ⟨_, rfl⟩
            obtain ⟨S, hS⟩ : ∃ S, h.value ++ [cb] ++ [120] = S := ⟨_, rfl⟩
            obtain ⟨V2, hV2⟩ : ∃ V2, bA S = V2 := ⟨_, rfl⟩
            have hSl : S.length = h.value.length + 2 := by rw [← hS]; simp
            have hSb : (Hd.badB cb || S.any Hd.badB) = S.any Hd.badB := by
              rw [← hS]
              cases hcb : Hd.badB cb <;> simp [hcb]
            have hV2s : V2.size = S.length := by rw [← hV2, bA_size]
            have hV2d : V2.data.toList = S := by rw [← hV2]
            have hz1 : ∀ W : World, (Op.stringOp .add V ⟨#[cb]⟩).run Try.prog W = .ok (.string V1) W := fun W => by
              rw [← hV, ← hV1, show (⟨#[cb]⟩ : ByteArray) = bA [cb] from rfl, run_string_add_sum W (bA h.value) (bA [cb]) (by simp only [bA_size, List.length_cons, List.length_nil]; omega), bA_app]
            have hz2 : ∀ W : World, (Op.stringOp .add V1 ⟨#[120]⟩).run Try.prog W = .ok (.string V2) W := fun W => by
              rw [← hV1, ← hV2, ← hS, show (⟨#[120]⟩ : ByteArray) = bA [120] from rfl, run_string_add_sum W (bA (h.value ++ [cb])) (bA [120]) (by simp only [bA_size, List.length_append, List.length_cons, List.length_nil]; omega), bA_app]
            have hx7 := HBX7.out.below (below_one w7 (.cells #[.int .u8 (cb.toNat : Int)] 5))
            have d2 := hx7.c1
            rw [hV] at d2
            have d3 := hbox_open hx7
            have HBX8 := Lib.hid (hbox_store hx7 hV2)
            have HB8 := Lib.hid ((HB7.out.alloc HB7.out.size (.cells #[.int .u8 (cb.toNat : Int)] 5)).setCell (p := ⟨w.heap.size, 1, none⟩) (Nat.le_refl _) (.string V2))
            have HV2 := Lib.hid hV2; have HV2D := Lib.hid hV2d; have HSB := Lib.hid hSb
            clear hx7 hS hV1 hV hV2 hV2d hSb
            go_upto_region 6 with fail
            clear hcv hz1 hz2 d1 d2 d3
            obtain ⟨w8, hw8⟩ : ∃ w8, (w7.alloc (.cells #[.int .u8 (cb.toNat : Int)] 5)).setCell ⟨w.heap.size, 1, none⟩ (.string V2) = w8 := ⟨_, rfl⟩
            rw [hw8] at HB8 HBX8 ⊢
            clear hw8
            go_cut [9] from 49 to 58 (fun s9 wx => s9 = .bool (Hd.badB cb) ∧ Hid (Below w.heap.size w wx) ∧ Hid (HBox wx w.heap.size ⟨h.name, S⟩))
            case first =>
              have hbb := Hd.bad_b cb
              by_cases h0 : (cb.toNat : Int) = 0
              · have HBB : Hid (Hd.badB cb = true) := Lib.hid (by rw [hbb]; simp [h0])
                clear hbb
                go_wp2_with fail
                go_meet
                exact ⟨by rw [HBB.out], HB8, HBX8⟩
              · by_cases h1 : (cb.toNat : Int) = 10
                · have HBB : Hid (Hd.badB cb = true) := Lib.hid (by rw [hbb]; simp [h1])
                  clear hbb
                  go_wp2_with fail
                  go_meet
                  exact ⟨by rw [HBB.out], HB8, HBX8⟩
                · by_cases h2 : (cb.toNat : Int) = 13
                  · have HBB : Hid (Hd.badB cb = true) := Lib.hid (by rw [hbb]; simp [h2])
                    clear hbb
                    go_wp2_with fail
                    go_meet
                    exact ⟨by rw [HBB.out], HB8, HBX8⟩
                  · have h0' : ¬ cb.toNat = 0 := by omega
                    have HBB : Hid (Hd.badB cb = false) := Lib.hid (by rw [hbb]; simp [h0', h1, h2])
                    clear hbb
                    go_wp2_with fail
                    go_meet
                    exact ⟨congrArg Value.bool (by rw [HBB.out]; simp [h0', h1, h2]), HB8, HBX8⟩
            case rest =>
              obtain ⟨rfl, HB9, HBX9⟩ := hcut
              rename_i w9
              have d1 := HBX9.out.c1
              rw [show bA (⟨h.name, S⟩ : Hd.Hdr).value = V2 from HV2.out] at d1
              clear HB8 HBX8 HB7 HBX7 HB6 HBX6 HS6
              go_wp2_with fail
              go_loop [9, 10] (fun qv i => ∃ k : Nat, k ≤ V2.size ∧ i = .int .i64 k ∧ qv = .bool (Hd.badB cb || (V2.data.toList.take k).any Hd.badB)) (fun _ i => V2.size - (intOf i).toNat)
              case atStart => exact ⟨0, Nat.zero_le _, rfl, by simp⟩
              case round =>
                obtain ⟨k, hk, rfl, rfl⟩ := hrel
                by_cases hlt : k < V2.size
                · have hbd := Hd.bad_b V2[k]
                  obtain ⟨bb, hbb⟩ : ∃ bb, (Hd.badB cb || (V2.data.toList.take k).any Hd.badB) = bb := ⟨_, rfl⟩
                  have HNX : Hid ((Hd.badB cb || (V2.data.toList.take (k + 1)).any Hd.badB) = (bb || Hd.badB V2[k])) := Lib.hid (by
                    rw [Oct.take_snoc V2 k hlt, List.any_append, ← Bool.or_assoc, hbb]
                    congr 1
                    simp only [List.any_cons, List.any_nil, Bool.or_false])
                  rw [hbb]
                  clear hbb
                  cases bb with
                  | true =>
                    clear hbd
                    go_wp2_with fail
                    exact ⟨⟨k + 1, by omega, by go_num, by rw [HNX.out]; rfl⟩, by simp [intOf]; omega⟩
                  | false =>
                    by_cases h0 : (V2[k].toNat : Int) = 0
                    · have HBB : Hid (Hd.badB V2[k] = true) := Lib.hid (by rw [hbd]; simp [h0])
                      clear hbd
                      go_wp2_with fail
                      exact ⟨⟨k + 1, by omega, by go_num, by rw [HNX.out, HBB.out]; rfl⟩, by simp [intOf]; omega⟩
                    · by_cases h1 : (V2[k].toNat : Int) = 10
                      · have HBB : Hid (Hd.badB V2[k] = true) := Lib.hid (by rw [hbd]; simp [h1])
                        clear hbd
                        go_wp2_with fail
                        exact ⟨⟨k + 1, by omega, by go_num, by rw [HNX.out, HBB.out]; rfl⟩, by simp [intOf]; omega⟩
                      · by_cases h2 : (V2[k].toNat : Int) = 13
                        · have HBB : Hid (Hd.badB V2[k] = true) := Lib.hid (by rw [hbd]; simp [h2])
                          clear hbd
                          go_wp2_with fail
                          exact ⟨⟨k + 1, by omega, by go_num, by rw [HNX.out, HBB.out]; rfl⟩, by simp [intOf]; omega⟩
                        · have h0' : ¬ V2[k].toNat = 0 := by omega
                          have HBB : Hid (Hd.badB V2[k] = false) := Lib.hid (by rw [hbd]; simp [h0', h1, h2])
                          clear hbd
                          go_wp2_with fail
                          exact ⟨⟨k + 1, by omega, by go_num, congrArg Value.bool (by rw [HNX.out, HBB.out]; simp [h0', h1, h2])⟩, by simp [intOf]; omega⟩
                · obtain rfl : k = V2.size := by omega
                  rw [Oct.take_all V2 _ (Nat.le_refl _), HV2D.out, HSB.out]
                  have hS4 : S.length ≤ 4000 := by omega
                  have hmo := HMO.out S hS4
                  obtain ⟨h2, hh2⟩ : ∃ h2 : Hd.Hdr, (⟨h.name, S⟩ : Hd.Hdr) = h2 := ⟨_, rfl⟩
                  have hnm2 : h.name = h2.name := by rw [← hh2]
                  have hvl2 : S = h2.value := by rw [← hh2]
                  have hhn2 : h2.name.length ≤ 10000 := by rw [← hnm2]; exact hhn
                  have HSM2 : Hid (SmallH (l ++ [h2])) := Lib.hid ⟨by have := HSM.out.len; simpa using this, fun x hx => by
                    rcases List.mem_append.1 hx with hx | hx
                    · exact HSM.out.each x (by simp [hx])
                    · simp only [List.mem_cons, List.not_mem_nil, or_false] at hx
                      subst hx; exact ⟨hhn2, by rw [← hvl2]; omega⟩⟩
                  have hln2 : (l ++ [h2]).length = l.length + 1 := by simp
                  rw [hh2] at hmo HBX9
                  obtain ⟨bd, hbd⟩ : ∃ bd, S.any Hd.badB = bd := ⟨_, rfl⟩
                  obtain ⟨tk, htk⟩ : ∃ tk, Oct.tokenB h2.name = tk := ⟨_, rfl⟩
                  rw [hnm2, htk, hbd] at hmo
                  rw [hbd]
                  obtain ⟨ev, hev, hevc⟩ := shut_err (tk && !bd)
                  have HTK : Hid (∀ W, Calls Try.prog 25 #[.string (bA h2.name)] W fun e w' => e = .returned (.bool tk) ∧ w' = W) := Lib.hid fun W => (token_val h2.name hhn2 W).mono fun _ _ hh => ⟨by rw [hh.1, htk], hh.2⟩
                  have HCK : Hid (∀ A6 c6 W, SeenH W A6 (l ++ [h2]) → Calls Try.prog 18 #[.slice A6 (l.length + 1) c6] W fun e w' => e = .returned (.int .i64 ev) ∧ Below W.heap.size W w') := Lib.hid fun A6 c6 W hs => (check_any A6 c6 (l.length + 1) (l ++ [h2]) W hln2 HSM2.out hs).mono fun _ _ hh => ⟨by rw [hh.1, hmo, hev], hh.2⟩
                  have HEC := Lib.hid hevc
                  have d0 := HBX9.out.c0
                  clear hmo hh2 hbd htk hev hevc hlt hk hvl2 hnm2 hS4 hSl hV2s
                  go_wp2_with fail
                  refine (HTK.out _).mono ?_
                  rintro e wt ⟨rfl, hwt⟩
                  rw [hwt]
                  have HS9 := Lib.hid (HSw.out.below HB9.out)
                  clear hwt d0 d1
                  go_upto_region 12 with fail
                  go_cut [12] from 91 to 97 (fun s12 wx => s12 = .int .i64 ev ∧ Hid (Below w.heap.size w wx))
                  case first =>
                    have hb0 : Below wc.heap.size wc wc := Below.refl _ _
                    have hse : ∀ W, Below wc.heap.size wc W → SeenH W A l := fun W hb => HS9.out.below hb
                    go_wp2_with fail
                    go_region_held_law (fun w' => w'.cell? ⟨w.heap.size, 0, none⟩ = some (.string (bA h2.name)) ∧ w'.cell? ⟨w.heap.size, 1, none⟩ = some (.string (bA h2.value)) ∧ Below wc.heap.size wc w')
                      (first
                        | exact rdy_h HBX9.out hb7
                        | exact rdy_h HBX9.out hb6
                        | exact rdy_h HBX9.out (below_al hb4 _)
                        | exact rdy_h HBX9.out hb4
                        | exact rdy_h HBX9.out (below_al (below_al hb0.drew _) _)
                        | exact rdy_h HBX9.out (below_al hb0.drew _)
                        | exact rdy_h HBX9.out hb0.drew)
                      (first
                        | (refine step_app rfl _ _ rfl wc.heap.size _ [] l rfl (own_none (World.alloc_heap_new wc _) (Nat.le_refl _)) A l.length c l.length rfl rfl hnl (hse _ (below_al hb0 _).drew) (Nat.zero_add _) hl63 hby1 (below_al hb0 _).drew.size ?_; intro A4 c4 w4 hown4 hg4 hs4 hbb4; have hb4 := (below_al hb0 _).drew.trans hbb4)
                        | (refine step_app rfl _ _ rfl wc.heap.size _ [] l rfl (own_none (heap_first wc _ _) (Nat.le_refl _)) A l.length c l.length rfl rfl hnl (hse _ (below_al (below_al hb0 _) _).drew) (Nat.zero_add _) hl63 hby1 (below_al (below_al hb0 _) _).drew.size ?_; intro A4 c4 w4 hown4 hg4 hs4 hbb4; have hb4 := (below_al (below_al hb0 _) _).drew.trans hbb4)
                        | (refine step_app rfl _ _ rfl wc.heap.size _ [] l rfl (own_none (heap_second wc _ _) (Nat.le_succ _)) A l.length c l.length rfl rfl hnl (hse _ (below_al (below_al hb0 _) _).drew) (Nat.zero_add _) hl63 hby1 (below_al (below_al hb0 _) _).drew.size ?_; intro A4 c4 w4 hown4 hg4 hs4 hbb4; have hb4 := (below_al (below_al hb0 _) _).drew.trans hbb4)
                        | (refine step_app rfl _ _ rfl wc.heap.size _ l [h2] rfl (hown4.alloc _) _ 1 _ (l.length + 1) rfl rfl (fun e => by cases e) (seen_lit (World.alloc_heap_new w4 _) rfl) rfl hm63 hby2 (below_al hb4 _).size ?_; intro A6 c6 w6 hown6 hg6 hs6 hbb6; have hb6 := (below_al hb4 _).trans hbb6)
                        | (refine step_app rfl _ _ rfl wc.heap.size _ l [h2] rfl hown4 _ 1 _ (l.length + 1) rfl rfl (fun e => by cases e) (one_kept (heap_second wc _ _) hg4 (fun e => Nat.succ_ne_self _ (Option.some.inj e))) rfl hm63 hby2 hb4.size ?_; intro A6 c6 w6 hown6 hg6 hs6 hbb6; have hb6 := hb4.trans hbb6)
                        | (refine step_app rfl _ _ rfl wc.heap.size _ l [h2] rfl hown4 _ 1 _ (l.length + 1) rfl rfl (fun e => by cases e) (one_kept (heap_first wc _ _) hg4 (fun e => Nat.succ_ne_self _ (Option.some.inj e).symm)) rfl hm63 hby2 hb4.size ?_; intro A6 c6 w6 hown6 hg6 hs6 hbb6; have hb6 := hb4.trans hbb6)
                        | (go_at_call 18; refine (HCK.out A6 c6 _ hs6).mono ?_; rintro e w' ⟨rfl, hbw⟩; have hb7 := Below.onto hb6 hbw)
                        | fail)
                    all_goals
                      have HB7 := Lib.hid (Below.onto HB9.out hb7)
                      rename_i hHeld
                      clear hHeld hown4 hg4 hs4 hbb4 hb4 hown6 hg6 hs6 hbb6 hb6 hb0 hse hb7 hbw
                      go_wp2_with fail
                      go_meet
                      exact ⟨rfl, HB7⟩
                  case rest =>
                    obtain ⟨rfl, HB12⟩ := hcut
                    have HS12 := Lib.hid (HSw.out.below HB12.out)
                    clear HB9 HBX9 HS9
                    by_cases hl0 : 0 < l.length
                    · obtain ⟨X2, hX2, hn2, hX2s⟩ := slice_from A l.length c 1 hl0 hcap
                      have hX2' : ∀ W : World, (Instr.slice 23 (.slice A l.length c) (some (.int .i64 1)) none none).run Try.prog W = .ok (.slice X2 (l.length - 1) (c - 1)) W := hX2
                      have hl0z : (0 : Int) < (l.length : Int) := by omega
                      have HSD : Hid (SmallH (l.drop 1)) := Lib.hid ⟨by have := HSL.out.len; rw [List.length_drop]; omega, fun x hx => HSL.out.each x (List.mem_of_mem_drop hx)⟩
                      have HCD : Hid (∀ W, SeenH W A l → Calls Try.prog 18 #[.slice X2 (l.length - 1) (c - 1)] W fun e w' => e = .returned (.int .i64 0) ∧ Below W.heap.size W w') := Lib.hid fun W hs => (check_any X2 (c - 1) (l.length - 1) (l.drop 1) W (by rw [List.length_drop]) HSD.out (hX2s W l rfl hs)).mono fun _ _ hh => ⟨by rw [hh.1, List.drop_one, HTA.out]; rfl, hh.2⟩
                      clear hX2 hn2 hX2s hl0
                      go_wp2_with fail
                      refine (HCD.out _ HS12.out).mono ?_
                      rintro e wy ⟨rfl, hby⟩
                      have HB13 := Lib.hid (Below.onto HB12.out hby)
                      clear hby hX2'
                      rcases HEC.out with ⟨h1, rfl⟩ | ⟨h1, rfl⟩
                      all_goals
                        cases tk <;> cases bd
                        all_goals first
                          | (exfalso; revert h1; decide)
                          | (clear h1
                             go_wp2_with fail
                             go_ret
                             exact ⟨rfl, HB13.out⟩)
                    · have hl0z : ¬ ((0 : Int) < (l.length : Int)) := by omega
                      clear hl0
                      rcases HEC.out with ⟨h1, rfl⟩ | ⟨h1, rfl⟩
                      all_goals
                        cases tk <;> cases bd
                        all_goals first
                          | (exfalso; revert h1; decide)
                          | (clear h1
                             go_wp2_with fail
                             go_ret
                             exact ⟨rfl, HB12.out⟩)
        · have hvz : (3000 : Int) < (V.size : Int) := by omega
          clear hv
          go_wp2_with fail
          go_ret
          exact ⟨rfl, HB6.out⟩
      · have hl90z : (90 : Int) < (l.length : Int) := by omega
        clear hl90
        go_wp2_with fail
        go_ret
        exact ⟨rfl, HB6.out⟩
end Go.Proofs.Ytopakamglhhncaa
