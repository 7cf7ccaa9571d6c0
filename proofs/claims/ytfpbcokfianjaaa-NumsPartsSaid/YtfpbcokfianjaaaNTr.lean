/- What the law's call answers of FLOOR, CEIL, TRUNC, CLAMP, QUOT and MOD, of numbers within 2^62. -/
import Derived.Test.YtfpbcokfianjaaaNTi
namespace Go.Proofs.Ytfpbcokfianjaaa
open Go.RowKit
set_option linter.all false
theorem nq_FLOOR : nmI ⟨#[70, 76, 79, 79, 82]⟩ = 5 := by kernel_rfl
theorem nq_CEIL : nmI ⟨#[67, 69, 73, 76]⟩ = 6 := by kernel_rfl
theorem nq_TRUNC : nmI ⟨#[84, 82, 85, 78, 67]⟩ = 3 := by kernel_rfl
theorem nq_CLAMP : nmI ⟨#[67, 76, 65, 77, 80]⟩ = 14 := by kernel_rfl
theorem nq_QUOT : nmI ⟨#[81, 85, 79, 84]⟩ = 8 := by kernel_rfl
theorem nq_MOD : nmI ⟨#[77, 79, 68]⟩ = 7 := by kernel_rfl
/-- Within 2^62. -/
def Mid (x : Int) : Prop := -4611686018427387904 < x ∧ x < 4611686018427387904
theorem Mid.in {x : Int} (h : Mid x) : In x := ⟨by have := h.1; omega, by have := h.2; omega⟩
theorem Mid.neg {x : Int} (h : Mid x) : Mid (-x) := ⟨by have := h.2; omega, by have := h.1; omega⟩
theorem floor_f {x s : Int} (hx : Mid x) (hs : Mid s) (h0 : 0 < s) : modV x s = x % s ∧ subOk x (x % s) = true ∧ 0 ≤ x % s ∧ x % s < s := by
  have h1 := Int.emod_nonneg x (show s ≠ 0 by omega)
  have h2 := Int.emod_lt_of_pos x h0
  obtain ⟨a1, a2⟩ := hx
  obtain ⟨a3, a4⟩ := hs
  refine ⟨if_pos h0, ?_, h1, h2⟩
  unfold subOk; simp; omega
theorem ceil_f {x s : Int} (hx : Mid x) (hs : Mid s) (h0 : 0 < s) : modV x (-s) = -((-x) % s) ∧ subOk x (-((-x) % s)) = true ∧ 0 ≤ (-x) % s ∧ (-x) % s < s := by
  have h1 := Int.emod_nonneg (-x) (show s ≠ 0 by omega)
  have h2 := Int.emod_lt_of_pos (-x) h0
  obtain ⟨a1, a2⟩ := hx
  obtain ⟨a3, a4⟩ := hs
  refine ⟨?_, ?_, h1, h2⟩
  · unfold modV; rw [if_neg (by omega), Int.neg_neg]
  · unfold subOk; simp; omega
theorem q_floor (x s : Int) (w : World) (bl : Nat) (hb : NB w bl [x, s]) (hx : Mid x) (hs : Mid s) (h0 : 0 < s) : Calls Try.prog 15 #[.string ⟨#[70, 76, 79, 79, 82]⟩, .slice (some ⟨bl, 0, none⟩) 2 2] w fun e w' => e = .returned (.agg #[.int .i64 (1), .int .i64 (x - x % s), .string ⟨#[]⟩, .bool false, .int .i64 (0)]) ∧ Below w.heap.size w w' :=
  calln _ 5 nq_FLOOR (by decide) w bl 2 _ hb rfl (by decide) (by decide) (ins2 hx.in hs.in) (by decide) _ _ _ _ _ fun W b3 h => by
    have q := floor_ok x s b3 W h h0 hx.in hs.in
    obtain ⟨e1, e2, _, _⟩ := floor_f hx hs h0
    rw [e1, e2] at q
    exact q
theorem q_ceil (x s : Int) (w : World) (bl : Nat) (hb : NB w bl [x, s]) (hx : Mid x) (hs : Mid s) (h0 : 0 < s) : Calls Try.prog 15 #[.string ⟨#[67, 69, 73, 76]⟩, .slice (some ⟨bl, 0, none⟩) 2 2] w fun e w' => e = .returned (.agg #[.int .i64 (1), .int .i64 (x + (-x) % s), .string ⟨#[]⟩, .bool false, .int .i64 (0)]) ∧ Below w.heap.size w w' :=
  calln _ 6 nq_CEIL (by decide) w bl 2 _ hb rfl (by decide) (by decide) (ins2 hx.in hs.in) (by decide) _ _ _ _ _ fun W b3 h => by
    have q := ceil_ok x s b3 W h h0 hx.in hs.in
    obtain ⟨e1, e2, _, _⟩ := ceil_f hx hs h0
    rw [e1, e2, okV_t rfl, okC_t rfl, Int.sub_neg] at q
    exact q
theorem q_trunc (x : Int) (w : World) (bl : Nat) (hb : NB w bl [x]) (hx : Mid x) : Calls Try.prog 15 #[.string ⟨#[84, 82, 85, 78, 67]⟩, .slice (some ⟨bl, 0, none⟩) 1 1] w fun e w' => e = .returned (.agg #[.int .i64 (1), .int .i64 (x - x.tmod 10000), .string ⟨#[]⟩, .bool false, .int .i64 (0)]) ∧ Below w.heap.size w w' :=
  calln _ 3 nq_TRUNC (by decide) w bl 1 _ hb rfl (by decide) (by decide) (ins1 hx.in) (by decide) _ _ _ _ _ fun W b3 h => by
    exact trunc_1 x b3 W h hx.in
theorem q_clamp (x l s : Int) (w : World) (bl : Nat) (hb : NB w bl [x, l, s]) (hx : Mid x) (hl : Mid l) (hs : Mid s) (h0 : l ≤ s) : Calls Try.prog 15 #[.string ⟨#[67, 76, 65, 77, 80]⟩, .slice (some ⟨bl, 0, none⟩) 3 3] w fun e w' => e = .returned (.agg #[.int .i64 (1), .int .i64 (max l (min s x)), .string ⟨#[]⟩, .bool false, .int .i64 (0)]) ∧ Below w.heap.size w w' :=
  calln _ 14 nq_CLAMP (by decide) w bl 3 _ hb rfl (by decide) (by decide) (ins3 hx.in hl.in hs.in) (by decide) _ _ _ _ _ fun W b3 h => by
    exact clamp_ok x l s b3 W h h0 hx.in hl.in hs.in
theorem q_quot (x s : Int) (w : World) (bl : Nat) (hb : NB w bl [x, s]) (hx : Mid x) (hs : Mid s) (h0 : 0 < s) : Calls Try.prog 15 #[.string ⟨#[81, 85, 79, 84]⟩, .slice (some ⟨bl, 0, none⟩) 2 2] w fun e w' => e = .returned (.agg #[.int .i64 (tT (okC (quoOk (x.tdiv s)))), .int .i64 (okV (quoOk (x.tdiv s)) (x.tdiv s * 10000)), .string ⟨#[]⟩, .bool false, .int .i64 (okC (quoOk (x.tdiv s)))]) ∧ Below w.heap.size w w' :=
  calln _ 8 nq_QUOT (by decide) w bl 2 _ hb rfl (by decide) (by decide) (ins2 hx.in hs.in) (by decide) _ _ _ _ _ fun W b3 h => by
    exact quo_ok x s b3 W h hx.in hs.in (by omega)
theorem q_mod (x s : Int) (w : World) (bl : Nat) (hb : NB w bl [x, s]) (hx : Mid x) (hs : Mid s) (h0 : 0 < s) : Calls Try.prog 15 #[.string ⟨#[77, 79, 68]⟩, .slice (some ⟨bl, 0, none⟩) 2 2] w fun e w' => e = .returned (.agg #[.int .i64 (1), .int .i64 (x % s), .string ⟨#[]⟩, .bool false, .int .i64 (0)]) ∧ Below w.heap.size w w' :=
  calln _ 7 nq_MOD (by decide) w bl 2 _ hb rfl (by decide) (by decide) (ins2 hx.in hs.in) (by decide) _ _ _ _ _ fun W b3 h => by
    have q := rest_any x s b3 W h hx.in hs.in
    have e1 : modC s = 0 := if_neg (by omega)
    have e2 : modX x s = x % s := by unfold modX; rw [if_neg (by omega)]; exact if_pos h0
    rw [e1, e2] at q
    exact q
end Go.Proofs.Ytfpbcokfianjaaa
