/- BLANKS, COUNTA, ROWS, COLS and COUNT of one rectangle that may be. New memory alone is made. COUNT of one rectangle, and COUNTIF of one with Blank. New memory alone is made. -/
import Derived.Test.YtcgcnpcimfaecaaGreatDoorQGC3
import Derived.Test.YtcgcnpcimfaecaaGreatDoorQGR3
import Derived.Test.YtcgcnpcimfaecaaGreatDoorQTM
namespace Go.Proofs.YtcgcnpcimfaecaaGreatDoor
open Go.RowKit
set_option linter.all false
theorem nm_COUNT : nmI ⟨#[67, 79, 85, 78, 84]⟩ = 6 := by decide
theorem nm_COUNTA : nmI ⟨#[67, 79, 85, 78, 84, 65]⟩ = 7 := by decide
theorem nm_BLANKS : nmI ⟨#[66, 76, 65, 78, 75, 83]⟩ = 8 := by decide
theorem nm_ROWS : nmI ⟨#[82, 79, 87, 83]⟩ = 16 := by decide
theorem nm_COLS : nmI ⟨#[67, 79, 76, 83]⟩ = 17 := by decide
theorem rows_call (W : World) (v : Value) (t n : Int) (s : ByteArray) (b : Bool) (c r0 r1 r2 r3 : Int) (ep : Option Addr) (en ec : Nat) (es : List En) (hv : AV W v [(⟨true, t, n, s, b, c, r0, r1, r2, r3, ep, en, ec⟩ : Ag)]) (hE : AgE W ((⟨true, t, n, s, b, c, r0, r1, r2, r3, ep, en, ec⟩ : Ag), es)) (hm : mnB ((⟨true, t, n, s, b, c, r0, r1, r2, r3, ep, en, ec⟩ : Ag), es) = false) (h1 : 0 ≤ r0) (h2 : r0 ≤ r2) (h3 : r2 ≤ 1048576) (h4 : 0 ≤ r1) (h5 : r1 ≤ r3) (h6 : r3 ≤ 1048576) : Calls Tryz.prog 9 #[.string ⟨#[82, 79, 87, 83]⟩, v, .int .i64 0] W fun e w' => e = .returned (.agg #[.int .i64 (1), .int .i64 (((r2 - r0 + 1) * 10000)), .string ⟨#[]⟩, .bool false, .int .i64 (0)]) ∧ Below W.heap.size W w' := by
  have hE1 : ∀ q ∈ [((⟨true, t, n, s, b, c, r0, r1, r2, r3, ep, en, ec⟩ : Ag), es)], AgE W q := fun q hq => by simp at hq; subst hq; exact hE
  refine c_an_p ⟨#[82, 79, 87, 83]⟩ W v 0 [((⟨true, t, n, s, b, c, r0, r1, r2, r3, ep, en, ec⟩ : Ag), es)] hv (show Hid _ from fun a ha => by simp at ha; subst ha; exact hE.n) (show 1 ≤ 1099511627776 by decide) hE1 (by rw [nm_ROWS]; decide) (by decide) (by decide)
    (by rw [nm_ROWS]; rfl) (by rw [List.any_cons, hm]; rfl) rfl (by rw [nm_ROWS]; rfl) (by rw [nm_ROWS]; rfl) (by rw [nm_ROWS]; decide) 1 ((r2 - r0 + 1) * 10000) ⟨#[]⟩ false 0 ?_
  intro W2 up um uc hW hrow
  rw [nm_ROWS]
  have hv2 := View.keep hv hW
  obtain ⟨vq, vc, rfl, hcc, hf⟩ := hv2
  obtain ⟨ab, ao, rfl, hab, HC⟩ := hf (by simp)
  have HA : ∀ j, j < 11 → W2.cell? ⟨ab, ao + j, none⟩ = (Ag.cells (⟨true, t, n, s, b, c, r0, r1, r2, r3, ep, en, ec⟩ : Ag))[j]? := fun j hj => by have := HC 0 _ rfl j hj; simpa using this
  exact crows_any W2 ab ao _ vc up um uc 0 r0 r1 r2 r3 hab (by simp) (HA 6 (by decide)) (HA 7 (by decide)) (HA 8 (by decide)) (HA 9 (by decide)) (by omega) (by omega) (by omega)
theorem cols_call (W : World) (v : Value) (t n : Int) (s : ByteArray) (b : Bool) (c r0 r1 r2 r3 : Int) (ep : Option Addr) (en ec : Nat) (es : List En) (hv : AV W v [(⟨true, t, n, s, b, c, r0, r1, r2, r3, ep, en, ec⟩ : Ag)]) (hE : AgE W ((⟨true, t, n, s, b, c, r0, r1, r2, r3, ep, en, ec⟩ : Ag), es)) (hm : mnB ((⟨true, t, n, s, b, c, r0, r1, r2, r3, ep, en, ec⟩ : Ag), es) = false) (h1 : 0 ≤ r0) (h2 : r0 ≤ r2) (h3 : r2 ≤ 1048576) (h4 : 0 ≤ r1) (h5 : r1 ≤ r3) (h6 : r3 ≤ 1048576) : Calls Tryz.prog 9 #[.string ⟨#[67, 79, 76, 83]⟩, v, .int .i64 0] W fun e w' => e = .returned (.agg #[.int .i64 (1), .int .i64 (((r3 - r1 + 1) * 10000)), .string ⟨#[]⟩, .bool false, .int .i64 (0)]) ∧ Below W.heap.size W w' := by
  have hE1 : ∀ q ∈ [((⟨true, t, n, s, b, c, r0, r1, r2, r3, ep, en, ec⟩ : Ag), es)], AgE W q := fun q hq => by simp at hq; subst hq; exact hE
  refine c_an_p ⟨#[67, 79, 76, 83]⟩ W v 0 [((⟨true, t, n, s, b, c, r0, r1, r2, r3, ep, en, ec⟩ : Ag), es)] hv (show Hid _ from fun a ha => by simp at ha; subst ha; exact hE.n) (show 1 ≤ 1099511627776 by decide) hE1 (by rw [nm_COLS]; decide) (by decide) (by decide)
    (by rw [nm_COLS]; rfl) (by rw [List.any_cons, hm]; rfl) rfl (by rw [nm_COLS]; rfl) (by rw [nm_COLS]; rfl) (by rw [nm_COLS]; decide) 1 ((r3 - r1 + 1) * 10000) ⟨#[]⟩ false 0 ?_
  intro W2 up um uc hW hrow
  rw [nm_COLS]
  have hv2 := View.keep hv hW
  obtain ⟨vq, vc, rfl, hcc, hf⟩ := hv2
  obtain ⟨ab, ao, rfl, hab, HC⟩ := hf (by simp)
  have HA : ∀ j, j < 11 → W2.cell? ⟨ab, ao + j, none⟩ = (Ag.cells (⟨true, t, n, s, b, c, r0, r1, r2, r3, ep, en, ec⟩ : Ag))[j]? := fun j hj => by have := HC 0 _ rfl j hj; simpa using this
  exact ccols_any W2 ab ao _ vc up um uc 0 r0 r1 r2 r3 hab (by simp) (HA 6 (by decide)) (HA 7 (by decide)) (HA 8 (by decide)) (HA 9 (by decide)) (by omega) (by omega) (by omega)
theorem blanks_call (W : World) (v : Value) (t n : Int) (s : ByteArray) (b : Bool) (c r0 r1 r2 r3 : Int) (ep : Option Addr) (en ec : Nat) (es : List En) (hv : AV W v [(⟨true, t, n, s, b, c, r0, r1, r2, r3, ep, en, ec⟩ : Ag)]) (hE : AgE W ((⟨true, t, n, s, b, c, r0, r1, r2, r3, ep, en, ec⟩ : Ag), es)) (hm : mnB ((⟨true, t, n, s, b, c, r0, r1, r2, r3, ep, en, ec⟩ : Ag), es) = false) (h1 : 0 ≤ r0) (h2 : r0 ≤ r2) (h3 : r2 ≤ 1048576) (h4 : 0 ≤ r1) (h5 : r1 ≤ r3) (h6 : r3 ≤ 1048576) (hfit : (es.length : Int) ≤ (r2 - r0 + 1) * (r3 - r1 + 1)) (h40 : (r2 - r0 + 1) * (r3 - r1 + 1) ≤ 549755813888) : Calls Tryz.prog 9 #[.string ⟨#[66, 76, 65, 78, 75, 83]⟩, v, .int .i64 0] W fun e w' => e = .returned (.agg #[.int .i64 (1), .int .i64 ((((r2 - r0 + 1) * (r3 - r1 + 1) - (es.length : Int) + cwI 0 0 ⟨#[]⟩ false 0 es) * 10000)), .string ⟨#[]⟩, .bool false, .int .i64 (0)]) ∧ Below W.heap.size W w' := by
  have hE1 : ∀ q ∈ [((⟨true, t, n, s, b, c, r0, r1, r2, r3, ep, en, ec⟩ : Ag), es)], AgE W q := fun q hq => by simp at hq; subst hq; exact hE
  refine c_an_p ⟨#[66, 76, 65, 78, 75, 83]⟩ W v 0 [((⟨true, t, n, s, b, c, r0, r1, r2, r3, ep, en, ec⟩ : Ag), es)] hv (show Hid _ from fun a ha => by simp at ha; subst ha; exact hE.n) (show 1 ≤ 1099511627776 by decide) hE1 (by rw [nm_BLANKS]; decide) (by decide) (by decide)
    (by rw [nm_BLANKS]; rfl) (by rw [List.any_cons, hm]; rfl) rfl (by rw [nm_BLANKS]; rfl) (by rw [nm_BLANKS]; rfl) (by rw [nm_BLANKS]; decide) 1 (((r2 - r0 + 1) * (r3 - r1 + 1) - (es.length : Int) + cwI 0 0 ⟨#[]⟩ false 0 es) * 10000) ⟨#[]⟩ false 0 ?_
  intro W2 up um uc hW hrow
  rw [nm_BLANKS]
  have hv2 := View.keep hv hW
  obtain ⟨vq, vc, rfl, hcc, hf⟩ := hv2
  obtain ⟨ab, ao, rfl, hab, HC⟩ := hf (by simp)
  have HA : ∀ j, j < 11 → W2.cell? ⟨ab, ao + j, none⟩ = (Ag.cells (⟨true, t, n, s, b, c, r0, r1, r2, r3, ep, en, ec⟩ : Ag))[j]? := fun j hj => by have := HC 0 _ rfl j hj; simpa using this
  exact cblank_any W2 ab ao _ vc up um uc 0 (⟨true, t, n, s, b, c, r0, r1, r2, r3, ep, en, ec⟩ : Ag) es hab (by simp) HA (hE.keep hW) h1 h2 h3 h4 h5 h6 hfit h40
theorem counta_call (W : World) (v : Value) (t n : Int) (s : ByteArray) (b : Bool) (c r0 r1 r2 r3 : Int) (ep : Option Addr) (en ec : Nat) (es : List En) (hv : AV W v [(⟨true, t, n, s, b, c, r0, r1, r2, r3, ep, en, ec⟩ : Ag)]) (hE : AgE W ((⟨true, t, n, s, b, c, r0, r1, r2, r3, ep, en, ec⟩ : Ag), es)) (hm : mnB ((⟨true, t, n, s, b, c, r0, r1, r2, r3, ep, en, ec⟩ : Ag), es) = false) : Calls Tryz.prog 9 #[.string ⟨#[67, 79, 85, 78, 84, 65]⟩, v, .int .i64 0] W fun e w' => e = .returned (.agg #[.int .i64 (1), .int .i64 (((filI (itms [((⟨true, t, n, s, b, c, r0, r1, r2, r3, ep, en, ec⟩ : Ag), es)]) : Int) * 10000)), .string ⟨#[]⟩, .bool false, .int .i64 (0)]) ∧ Below W.heap.size W w' := by
  have hE1 : ∀ q ∈ [((⟨true, t, n, s, b, c, r0, r1, r2, r3, ep, en, ec⟩ : Ag), es)], AgE W q := fun q hq => by simp at hq; subst hq; exact hE
  refine c_an_p ⟨#[67, 79, 85, 78, 84, 65]⟩ W v 0 [((⟨true, t, n, s, b, c, r0, r1, r2, r3, ep, en, ec⟩ : Ag), es)] hv (show Hid _ from fun a ha => by simp at ha; subst ha; exact hE.n) (show 1 ≤ 1099511627776 by decide) hE1 (by rw [nm_COUNTA]; decide) (by decide) (by decide)
    (by rw [nm_COUNTA]; rfl) (by rw [List.any_cons, hm]; rfl) rfl (by rw [nm_COUNTA]; rfl) (by rw [nm_COUNTA]; rfl) (by rw [nm_COUNTA]; decide) 1 ((filI (itms [((⟨true, t, n, s, b, c, r0, r1, r2, r3, ep, en, ec⟩ : Ag), es)]) : Int) * 10000) ⟨#[]⟩ false 0 ?_
  intro W2 up um uc hW hrow
  rw [nm_COUNTA]
  have hv2 := View.keep hv hW
  obtain ⟨vq, vc, rfl, hcc, hf⟩ := hv2
  exact fil_any W2 _ up _ vc um uc 0 [((⟨true, t, n, s, b, c, r0, r1, r2, r3, ep, en, ec⟩ : Ag), es)] ⟨_, _, rfl, hcc, hf⟩ (show 1 ≤ 1099511627776 by decide) (show Hid _ from fun q hq => (hE1 q hq).keep hW) (by simpa [itms, itP] using hE.few)
end Go.Proofs.YtcgcnpcimfaecaaGreatDoor
namespace Go.Proofs.YtcgcnpcimfaecaaGreatDoor
open Go.RowKit
set_option linter.all false
theorem callf_count (args : Array Value) (W : World) : (callFunc 85 args).run Tryz.prog W = .ok (.enter 85 args) W := by kernel_rfl
theorem count_call (W : World) (v : Value) (t n : Int) (s : ByteArray) (b : Bool) (c r0 r1 r2 r3 : Int) (ep : Option Addr) (en ec : Nat) (es : List En) (hv : AV W v [(⟨true, t, n, s, b, c, r0, r1, r2, r3, ep, en, ec⟩ : Ag)]) (hE : AgE W ((⟨true, t, n, s, b, c, r0, r1, r2, r3, ep, en, ec⟩ : Ag), es)) (hm : mnB ((⟨true, t, n, s, b, c, r0, r1, r2, r3, ep, en, ec⟩ : Ag), es) = false) : Calls Tryz.prog 9 #[.string ⟨#[67, 79, 85, 78, 84]⟩, v, .int .i64 0] W fun e w' => e = .returned (.agg #[.int .i64 (1), .int .i64 ((((numsI (itms [((⟨true, t, n, s, b, c, r0, r1, r2, r3, ep, en, ec⟩ : Ag), es)])).length : Int) * 10000)), .string ⟨#[]⟩, .bool false, .int .i64 (0)]) ∧ Below W.heap.size W w' := by
  have hE1 : ∀ q ∈ [((⟨true, t, n, s, b, c, r0, r1, r2, r3, ep, en, ec⟩ : Ag), es)], AgE W q := fun q hq => by simp at hq; subst hq; exact hE
  have hfew : (itms [((⟨true, t, n, s, b, c, r0, r1, r2, r3, ep, en, ec⟩ : Ag), es)]).length ≤ 1099511627776 := by simpa [itms, itP] using hE.few
  refine c_an_c ⟨#[67, 79, 85, 78, 84]⟩ W v 0 [((⟨true, t, n, s, b, c, r0, r1, r2, r3, ep, en, ec⟩ : Ag), es)] hv (show Hid _ from fun a ha => by simp at ha; subst ha; exact hE.n) (show 1 ≤ 1099511627776 by decide) hE1 (by rw [nm_COUNT]; decide) (by decide) (by decide)
    (by rw [nm_COUNT]; rfl) (by rw [List.any_cons, hm]; rfl) rfl (by rw [nm_COUNT]; rfl) (by rw [nm_COUNT]; rfl) (by rw [nm_COUNT]; decide) 1 (((numsI (itms [((⟨true, t, n, s, b, c, r0, r1, r2, r3, ep, en, ec⟩ : Ag), es)])).length : Int) * 10000) ⟨#[]⟩ false 0 ?_
  intro W2 up um uc bb hW hAB hrow
  rw [nm_COUNT] at hAB ⊢
  have hv2 := View.keep hv hW
  obtain ⟨vq, vc, rfl, hcc, hf⟩ := hv2
  refine ofa_any 85 bb callf_count W2 vq up _ vc um uc 0 [((⟨true, t, n, s, b, c, r0, r1, r2, r3, ep, en, ec⟩ : Ag), es)] ⟨vq, vc, rfl, hcc, hf⟩ (show 1 ≤ 1099511627776 by decide) (show Hid _ from fun q hq => (hE1 q hq).keep hW) hfew hAB 1 (((numsI (itms [((⟨true, t, n, s, b, c, r0, r1, r2, r3, ep, en, ec⟩ : Ag), es)])).length : Int) * 10000) ⟨#[]⟩ false 0 (show Hid _ from fun W3 q m c3 h => ?_)
  have hl := h.out.1.len
  have hx := count_any W3 q m c3 (by have := numsI_len (itms [((⟨true, t, n, s, b, c, r0, r1, r2, r3, ep, en, ec⟩ : Ag), es)]); omega)
  rw [hl]
  exact hx.mono fun e w' ⟨he, hb⟩ => ⟨he, Mut.below (Mut.refl _ _) hb⟩
/-- A single Blank. -/
def sgB : Ag := ⟨false, 0, 0, ⟨#[]⟩, false, 0, 0, 0, 0, 0, none, 0, 0⟩
theorem nm_COUNTIF : nmI ⟨#[67, 79, 85, 78, 84, 73, 70]⟩ = 9 := by decide
theorem countif_call (W : World) (v : Value) (t n : Int) (s : ByteArray) (b : Bool) (c r0 r1 r2 r3 : Int) (ep : Option Addr) (en ec : Nat) (es : List En) (hv : AV W v [(⟨true, t, n, s, b, c, r0, r1, r2, r3, ep, en, ec⟩ : Ag), sgB]) (hE : AgE W ((⟨true, t, n, s, b, c, r0, r1, r2, r3, ep, en, ec⟩ : Ag), es)) (hm : mnB ((⟨true, t, n, s, b, c, r0, r1, r2, r3, ep, en, ec⟩ : Ag), es) = false) (h1 : 0 ≤ r0) (h2 : r0 ≤ r2) (h3 : r2 ≤ 1048576) (h4 : 0 ≤ r1) (h5 : r1 ≤ r3) (h6 : r3 ≤ 1048576) (hfit : (es.length : Int) ≤ (r2 - r0 + 1) * (r3 - r1 + 1)) (h40 : (r2 - r0 + 1) * (r3 - r1 + 1) ≤ 549755813888) : Calls Tryz.prog 9 #[.string ⟨#[67, 79, 85, 78, 84, 73, 70]⟩, v, .int .i64 0] W fun e w' => e = .returned (.agg #[.int .i64 (1), .int .i64 ((((r2 - r0 + 1) * (r3 - r1 + 1) - (es.length : Int) + cwI 0 0 ⟨#[]⟩ false 0 es) * 10000)), .string ⟨#[]⟩, .bool false, .int .i64 (0)]) ∧ Below W.heap.size W w' := by
  have hEs : AgE W (sgB, []) := ⟨⟨none, 0, rfl, Nat.le_refl _, fun h => absurd h (by simp)⟩, fun x hx => (by cases hx), (show I64 0 from ⟨by decide, by decide⟩), by simp⟩
  have hE1 : ∀ q ∈ [((⟨true, t, n, s, b, c, r0, r1, r2, r3, ep, en, ec⟩ : Ag), es), (sgB, [])], AgE W q := fun q hq => by
    simp at hq
    rcases hq with h | h
    · subst h; exact hE
    · subst h; exact hEs
  refine c_an_p ⟨#[67, 79, 85, 78, 84, 73, 70]⟩ W v 0 [((⟨true, t, n, s, b, c, r0, r1, r2, r3, ep, en, ec⟩ : Ag), es), (sgB, [])] hv (show Hid _ from fun a ha => by
      simp at ha
      rcases ha with h | h
      · subst h; exact hE.n
      · subst h; exact (show I64 0 from ⟨by decide, by decide⟩)) (show 2 ≤ 1099511627776 by decide) hE1 (by rw [nm_COUNTIF]; decide) (by decide) (by decide)
    (by rw [nm_COUNTIF]; rfl) (by rw [List.any_cons, hm]; rfl) rfl (by rw [nm_COUNTIF]; rfl) (by rw [nm_COUNTIF]; rfl) (by rw [nm_COUNTIF]; decide) 1 (((r2 - r0 + 1) * (r3 - r1 + 1) - (es.length : Int) + cwI 0 0 ⟨#[]⟩ false 0 es) * 10000) ⟨#[]⟩ false 0 ?_
  intro W2 up um uc hW hrow
  rw [nm_COUNTIF]
  have hv2 := View.keep hv hW
  obtain ⟨vq, vc, rfl, hcc, hf⟩ := hv2
  obtain ⟨ab, ao, rfl, hab, HC⟩ := hf (by simp)
  have HA : ∀ j, j < 11 → W2.cell? ⟨ab, ao + j, none⟩ = (Ag.cells (⟨true, t, n, s, b, c, r0, r1, r2, r3, ep, en, ec⟩ : Ag))[j]? := fun j hj => by have := HC 0 _ rfl j hj; simpa using this
  have HB : ∀ j, j < 6 → W2.cell? ⟨ab, ao + 11 + j, none⟩ = (#[.bool false, .int .i64 0, .int .i64 0, .string ⟨#[]⟩, .bool false, .int .i64 0] : Array Value)[j]? := fun j hj => by
    have h := HC 1 sgB rfl j (by omega)
    rw [Nat.one_mul] at h
    rw [h]
    match j, hj with
    | 0, _ => rfl
    | 1, _ => rfl
    | 2, _ => rfl
    | 3, _ => rfl
    | 4, _ => rfl
    | 5, _ => rfl
  exact csame_0 W2 ab ao _ vc up um uc 0 (⟨true, t, n, s, b, c, r0, r1, r2, r3, ep, en, ec⟩ : Ag) es HB (by simp) hab (by simp) HA (hE.keep hW) h1 h2 h3 h4 h5 h6 hfit h40
end Go.Proofs.YtcgcnpcimfaecaaGreatDoor
