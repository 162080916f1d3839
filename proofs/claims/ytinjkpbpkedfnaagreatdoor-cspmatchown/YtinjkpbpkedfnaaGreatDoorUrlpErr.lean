/- What Parse answers, in its ways. -/
import Derived.Test.YtinjkpbpkedfnaaGreatDoorUrlpAll
namespace Go.Proofs.YtinjkpbpkedfnaaGreatDoor
open Go.RowKit

theorem web_err {s r : List UInt8} {e : Int} (h : Urp.web s r = .error e) : (e != 0) = true := by
  unfold Urp.web at h
  repeat' split at h
  all_goals first | (cases h; decide; done) | cases h
theorem parse_err_ne {l : List UInt8} {e : Int} (h : Urp.parse l = .error e) : (e != 0) = true := by
  unfold Urp.parse at h
  cases hc : Urp.cutS (Urp.trimU l) with
  | error e2 =>
    rw [hc] at h
    cases h
    unfold Urp.cutS at hc
    split at hc
    · cases hc; decide
    · split at hc
      · cases hc
      · cases hc; decide
  | ok x =>
    obtain ⟨s, a⟩ := x
    rw [hc] at h
    simp only at h
    split at h
    · split at h
      · exact web_err h
      · split at h
        · cases h
        · cases h; decide
    · cases h; decide
theorem ne_eq {x : Int} (h : (x != 0) = true) : (x == 0) = false := by simpa using h

/-- What Parse answers, in three ways. -/
theorem parse_ways (l : List UInt8) : (∃ e, Urp.parse l = .error e ∧ (e != 0) = true) ∨ (∃ u, Urp.parse l = .ok u ∧ Urp.netB u.scheme = false) ∨ (∃ u, Urp.parse l = .ok u ∧ Urp.netB u.scheme = true) := by
  cases h : Urp.parse l with
  | error e => exact .inl ⟨e, rfl, parse_err_ne h⟩
  | ok u =>
    cases hn : Urp.netB u.scheme with
    | false => exact .inr (.inl ⟨u, rfl, hn⟩)
    | true => exact .inr (.inr ⟨u, rfl, hn⟩)
/-- Parse's contract where it answers a URL, in cells. -/
theorem uparse_ok {l : List UInt8} {x : Urp.URL} (h : Urp.parse l = .ok x) (hl : l.length ≤ 4000) (W : World) (hT : Tab8 W) : Calls Tryz.prog 22 #[.string (bA l)] W fun e w' => e = .returned (.tuple #[.agg #[.string (bA x.scheme), .string (bA x.host.name), .bool x.host.v4, .int .u32 x.host.addr, .int .i64 x.port, .string (bA x.path), .bool x.hasq, .string (bA x.query), .string (bA x.rest)], .int .i64 0]) ∧ Below W.heap.size W w' := by
  have := uparse_any l W hl hT
  rw [h] at this
  exact this
theorem uparse_er {l : List UInt8} {er : Int} (h : Urp.parse l = .error er) (hl : l.length ≤ 4000) (W : World) (hT : Tab8 W) : Calls Tryz.prog 22 #[.string (bA l)] W fun e w' => e = .returned (.tuple #[.agg #[.string ⟨#[]⟩, .string ⟨#[]⟩, .bool false, .int .u32 0, .int .i64 0, .string ⟨#[]⟩, .bool false, .string ⟨#[]⟩, .string ⟨#[]⟩], .int .i64 er]) ∧ Below W.heap.size W w' := by
  have := uparse_any l W hl hT
  rw [h] at this
  exact this
/-- .. and with its two parts named. -/
theorem uparse_is {l : List UInt8} {x : Urp.URL} {er : Int} (hx : getU (Urp.parse l) = x) (he : errU (Urp.parse l) = er) (hl : l.length ≤ 4000) (W : World) (hT : Tab8 W) : Calls Tryz.prog 22 #[.string (bA l)] W fun e w' => e = .returned (.tuple #[.agg #[.string (bA x.scheme), .string (bA x.host.name), .bool x.host.v4, .int .u32 x.host.addr, .int .i64 x.port, .string (bA x.path), .bool x.hasq, .string (bA x.query), .string (bA x.rest)], .int .i64 er]) ∧ Below W.heap.size W w' := by
  have := uparse_any l W hl hT
  unfold resV at this
  rw [hx, he] at this
  exact this
theorem uparse_lis {l : List UInt8} {x : Urp.URL} {er : Int} (hx : getU (Urp.parse l) = x) (he : errU (Urp.parse l) = er) (hl : l.length ≤ 9223372036854775807) (W : World) (hT : Tab8 W) : Calls Tryz.prog 22 #[.string (bA l)] W fun e w' => e = .returned (.tuple #[.agg #[.string (bA x.scheme), .string (bA x.host.name), .bool x.host.v4, .int .u32 x.host.addr, .int .i64 x.port, .string (bA x.path), .bool x.hasq, .string (bA x.query), .string (bA x.rest)], .int .i64 er]) ∧ Below W.heap.size W w' := by
  have := uparse_all l W hl hT
  unfold resV at this
  rw [hx, he] at this
  exact this
theorem errU_ways (l : List UInt8) : ((errU (Urp.parse l) != 0) = true ∧ (errU (Urp.parse l) == 0) = false) ∨ ∃ u, Urp.parse l = .ok u := by
  cases h : Urp.parse l with
  | error e => exact .inl ⟨parse_err_ne h, ne_eq (parse_err_ne h)⟩
  | ok u => exact .inr ⟨u, rfl⟩
end Go.Proofs.YtinjkpbpkedfnaaGreatDoor
