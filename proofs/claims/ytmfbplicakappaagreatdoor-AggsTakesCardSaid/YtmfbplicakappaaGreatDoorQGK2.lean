/- SUM and LARGE of the law's column of three numbers. New memory alone is made. -/
import Derived.Test.YtmfbplicakappaaGreatDoorQGK1
import Derived.Test.YtmfbplicakappaaGreatDoorQGC4
import Derived.Test.YtmfbplicakappaaGreatDoorQGC6
namespace Go.Proofs.YtmfbplicakappaaGreatDoor
open Go.RowKit
set_option linter.all false
/-- The column of the law's own known calls. -/
def agC (p : Option Addr) (c : Nat) : Ag := ⟨true, 0, 0, ⟨#[]⟩, false, 0, 1, 1, 3, 1, p, 3, c⟩
def es3 : List En := colE [20000, 50000, 10000]
def sg2 : Ag := ⟨false, 1, 20000, ⟨#[]⟩, false, 0, 0, 0, 0, 0, none, 0, 0⟩
theorem callf_sum (args : Array Value) (W : World) : (callFunc 78 args).run Tryz.prog W = .ok (.enter 78 args) W := by kernel_rfl
theorem nm_sum : nmI ⟨#[83, 85, 77]⟩ = 0 := by decide
theorem nm_large : nmI ⟨#[76, 65, 82, 71, 69]⟩ = 14 := by decide
theorem mn_c (p : Option Addr) (c : Nat) : mnB (agC p c, es3) = false := by
  show (!vz5 0 0 ⟨#[]⟩ false 0 || !Ad.mayR 1 1 3 1 || !entsB 1 1 3 1 es3) = false
  decide
theorem nums_c (p : Option Addr) (c : Nat) : numsI (itms [(agC p c, es3)]) = [20000, 50000, 10000] := rfl
theorem first_c (p : Option Addr) (c : Nat) : firstI (itms [(agC p c, es3)]) = none := rfl
theorem first_c2 (p : Option Addr) (c : Nat) : firstI (itms [(agC p c, es3), (sg2, [])]) = none := rfl
theorem sum_call (W : World) (v : Value) (p : Option Addr) (c : Nat) (hv : AV W v [agC p c]) (hE : AgE W (agC p c, es3)) : Calls Tryz.prog 9 #[.string ⟨#[83, 85, 77]⟩, v, .int .i64 8] W fun e w' => e = .returned (.agg #[.int .i64 (1), .int .i64 (80000), .string ⟨#[]⟩, .bool false, .int .i64 (0)]) ∧ Below W.heap.size W w' := by
  have hE1 : ∀ q ∈ [(agC p c, es3)], AgE W q := fun q hq => by simp at hq; subst hq; exact hE
  refine c_an_cs ⟨#[83, 85, 77]⟩ W v 8 [(agC p c, es3)] hv (show Hid _ from fun a ha => by simp at ha; subst ha; exact (show I64 0 from ⟨by decide, by decide⟩)) (show 1 ≤ 1099511627776 by decide) hE1 (by rw [nm_sum]; decide) (by decide) (by decide)
    (by rw [nm_sum]; rfl) (by rw [List.any_cons, mn_c]; rfl) rfl (by rw [nm_sum]; rfl) (by rw [nm_sum]; rfl) (first_c p c) (by rw [nm_sum]; decide) 1 80000 ⟨#[]⟩ false 0 ?_
  intro W2 up um uc bb hW hAB hrow
  rw [nm_sum] at hAB ⊢
  have hv2 := View.keep hv hW
  obtain ⟨vq, vc, rfl, hcc, hf⟩ := hv2
  refine ofa_any 78 bb callf_sum W2 vq up _ vc um uc 8 [(agC p c, es3)] ⟨vq, vc, rfl, hcc, hf⟩ (show 1 ≤ 1099511627776 by decide) (show Hid _ from fun q hq => (hE1 q hq).keep hW) (show 3 ≤ 1099511627776 by decide) hAB 1 80000 ⟨#[]⟩ false 0 (show Hid _ from fun W3 q m c3 h => ?_)
  have hx := sum_any W3 q m c3 _ h.out.1 (by have := h.out.1.len; rw [nums_c] at this; simp at this; omega) (show Hid _ from fun x hx => by rw [nums_c] at hx; simp at hx; rcases hx with h | h | h <;> subst h <;> exact ⟨by decide, by decide⟩)
  rw [nums_c] at hx
  exact hx.mono fun e w' ⟨he, hb⟩ => ⟨he, Mut.below (Mut.refl _ _) hb⟩
theorem srt_3 : (srt [20000, 50000, 10000])[1]? = some 20000 := by unfold srt; simp [List.mergeSort, List.MergeSort.Internal.splitInTwo]
theorem view_first {w : World} {q : Option Addr} {n c : Nat} {a b : Ag} (h : AV w (.slice q n c) [a, b]) : ∃ ab ao, q = some ⟨ab, ao, none⟩ ∧ n = 2 ∧ 2 ≤ c ∧ AV w (.slice (some ⟨ab, ao, none⟩) 1 c) [a] := by
  obtain ⟨p, c', e, hc, hf⟩ := h
  injection e with e1 e2 e3
  subst e1 e2 e3
  obtain ⟨ab, ao, rfl, hl, hcell⟩ := hf (by simp)
  refine ⟨ab, ao, rfl, rfl, hc, _, _, rfl, ?_, fun _ => ⟨ab, ao, rfl, hl, fun i x hi j hj => ?_⟩⟩
  · exact Nat.le_trans (by decide : 1 ≤ 2) hc
  · have h0 : i = 0 := by
      have := (List.getElem?_eq_some_iff.1 hi).1
      simp at this; omega
    subst h0
    exact hcell 0 x (by simpa using hi) j hj
theorem large_call (W : World) (v : Value) (p : Option Addr) (c : Nat) (hv : AV W v [agC p c, sg2]) (hE : AgE W (agC p c, es3)) : Calls Tryz.prog 9 #[.string ⟨#[76, 65, 82, 71, 69]⟩, v, .int .i64 8] W fun e w' => e = .returned (.agg #[.int .i64 (1), .int .i64 (20000), .string ⟨#[]⟩, .bool false, .int .i64 (0)]) ∧ Below W.heap.size W w' := by
  have hEs : AgE W (sg2, []) := ⟨⟨none, 0, rfl, Nat.le_refl _, fun h => absurd h (by simp)⟩, fun x hx => (by cases hx), (show I64 20000 from ⟨by decide, by decide⟩), by simp⟩
  have hE1 : ∀ q ∈ [(agC p c, es3), (sg2, [])], AgE W q := fun q hq => by
    simp at hq
    rcases hq with h | h
    · subst h; exact hE
    · subst h; exact hEs
  refine c_an_ps ⟨#[76, 65, 82, 71, 69]⟩ W v 8 [(agC p c, es3), (sg2, [])] hv (show Hid _ from fun a ha => by
      simp at ha
      rcases ha with h | h
      · subst h; exact (show I64 0 from ⟨by decide, by decide⟩)
      · subst h; exact (show I64 20000 from ⟨by decide, by decide⟩)) (show 2 ≤ 1099511627776 by decide) hE1 (by rw [nm_large]; decide) (by decide) (by decide)
    (by rw [nm_large]; rfl) (by rw [List.any_cons, mn_c]; rfl) rfl (by rw [nm_large]; rfl) (by rw [nm_large]; rfl) (first_c2 p c) (by rw [nm_large]; decide) 1 20000 ⟨#[]⟩ false 0 ?_
  intro W2 up um uc hW hrow
  rw [nm_large] at hrow ⊢
  have hv2 := View.keep hv hW
  have hsl : ∃ q n c, v = .slice q n c := by obtain ⟨q, c, e, _⟩ := hv; exact ⟨q, _, c, e⟩
  obtain ⟨vq, vn, vc, rfl⟩ := hsl
  obtain ⟨ab, ao, rfl, rfl, hc2, hv1⟩ := view_first hv2
  have hr : Row icell 1 2 W2 0 (.slice up um uc) [2] := hrow.out
  rcases Row.two icell_size hr with ⟨_, e⟩ | ⟨g, cap, e, _, hgl, hcap, _, hcl, _⟩
  · cases e
  · injection e with e1 e2 e3
    subst e1 e2 e3
    have hk : W2.cell? ⟨g, 0, none⟩ = some (.int .i64 2) := by have := hcl 0 2 rfl 0 (by decide); simpa [icell] using this
    refine fg_ok W2 ab ao vc g 0 uc 8 2 [(agC p c, es3)] hv1 (show 1 ≤ 1099511627776 by decide) (show Hid _ from fun q hq => (hE1 q (by simp at hq ⊢; exact .inl hq)).keep hW) (show 3 ≤ 1099511627776 by decide) (by omega) (by omega) hgl hk (by decide) (show (2 : Int) ≤ 3 by decide) 1 20000 (show (1 : Int) = 3 - 2 by decide) (show Hid _ from srt_3) 1 20000 0 (show Hid _ from fun W3 => num_t 20000 W3 ⟨by decide, by decide⟩ (by decide)) (show Hid _ from fun W3 q m c3 h0 h => ?_)
    exact sort_row W3 _ q m c3 _ h.out.2.2 h0 (by have := h.out.1.len; rw [nums_c] at this; simp at this; omega)
end Go.Proofs.YtmfbplicakappaaGreatDoor
