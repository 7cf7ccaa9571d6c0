/- slices.SortFunc at cells, references and edges; slices.Clone at references; the contracts of deps.sortEdges and eachOnce. -/
import Derived.Test.YtgojnijpjfdocaaGreatES
import Derived.Test.YtgojnijpjfdocaaGreatEPc
import Derived.Test.YtgojnijpjfdocaaGreatEPf
import Derived.Test.YtgojnijpjfdocaaGreatBGc
import Derived.Test.YtgojnijpjfdocaaGreatBGf
namespace Go.Proofs.YtgojnijpjfdocaaGreat
open Go.RowKit Go.Sort Go.Shelf
set_option linter.all false
def cmpK (x y : Cl) : Int := cmpC x.r x.c y.r y.c
theorem cmpK_lt (x y : Cl) : ltOf cmpK x y = true ↔ (x.r < y.r ∨ (x.r = y.r ∧ x.c < y.c)) := by unfold ltOf cmpK; rw [decide_eq_true_eq, cmpC_neg]
theorem cmpK_zero (x y : Cl) : cmpK x y = 0 ↔ x = y := by
  unfold cmpK
  rw [cmpC_zero]
  obtain ⟨a, b⟩ := x
  obtain ⟨c, d⟩ := y
  simp
theorem cmpF_lex (x y : Rf) : cmpF x y < 0 ↔ (x.t < y.t ∨ (x.t = y.t ∧ (x.l < y.l ∨ (x.l = y.l ∧ (x.b < y.b ∨ (x.b = y.b ∧ (x.q < y.q ∨ (x.q = y.q ∧ mI x.m < mI y.m)))))))) := by
  rw [cmpF_neg, cmpR_neg, ← mI_lt]
  omega
theorem cmpF_lt (x y : Rf) : ltOf cmpF x y = true ↔ (x.t < y.t ∨ (x.t = y.t ∧ (x.l < y.l ∨ (x.l = y.l ∧ (x.b < y.b ∨ (x.b = y.b ∧ (x.q < y.q ∨ (x.q = y.q ∧ mI x.m < mI y.m)))))))) := by unfold ltOf; rw [decide_eq_true_eq, cmpF_lex]
/-- How edges stand to each other: by who refers, then by what it refers to. -/
def cmpD (x y : Ed) : Int := if cmpC x.r x.c y.r y.c = 0 then cmpF x.f y.f else cmpC x.r x.c y.r y.c
theorem cmpD_neg (x y : Ed) : cmpD x y < 0 ↔ ((x.r < y.r ∨ (x.r = y.r ∧ x.c < y.c)) ∨ ((x.r = y.r ∧ x.c = y.c) ∧ cmpF x.f y.f < 0)) := by
  unfold cmpD
  have h1 := cmpC_neg x.r x.c y.r y.c
  have h2 := cmpC_zero x.r x.c y.r y.c
  split <;> omega
theorem cmpD_zero (x y : Ed) : cmpD x y = 0 ↔ x = y := by
  have h1 := cmpC_zero x.r x.c y.r y.c
  have h2 := cmpF_zero x.f y.f
  obtain ⟨a, b, f⟩ := x
  obtain ⟨c, d, g⟩ := y
  unfold cmpD
  simp only [Ed.mk.injEq] at *
  split
  · rw [h2]; constructor
    · intro h; exact ⟨(h1.1 ‹_›).1, (h1.1 ‹_›).2, h⟩
    · rintro ⟨_, _, h⟩; exact h
  · constructor
    · intro h; contradiction
    · rintro ⟨q1, q2, _⟩; exact absurd (h1.2 ⟨q1, q2⟩) ‹_›
theorem cmpD_lt (x y : Ed) : ltOf cmpD x y = true ↔ (x.r < y.r ∨ (x.r = y.r ∧ (x.c < y.c ∨ (x.c = y.c ∧ (x.f.t < y.f.t ∨ (x.f.t = y.f.t ∧ (x.f.l < y.f.l ∨ (x.f.l = y.f.l ∧ (x.f.b < y.f.b ∨ (x.f.b = y.f.b ∧ (x.f.q < y.f.q ∨ (x.f.q = y.f.q ∧ mI x.f.m < mI y.f.m)))))))))))) := by
  unfold ltOf
  rw [decide_eq_true_eq, cmpD_neg, cmpF_lex]
  omega
theorem cmpK_swo : SWO (ltOf cmpK) where
  irrefl x := by
    cases h : ltOf cmpK x x
    · rfl
    · rw [cmpK_lt] at h; omega
  trans x y z h1 h2 := by rw [cmpK_lt] at *; omega
  ntrans x y z h1 h2 := by
    cases h : ltOf cmpK x z
    · rfl
    · have g1 : ¬ (ltOf cmpK x y = true) := by rw [h1]; decide
      have g2 : ¬ (ltOf cmpK y z = true) := by rw [h2]; decide
      rw [cmpK_lt] at h g1 g2
      omega
theorem cmpK_tot (x y : Cl) (h1 : ltOf cmpK x y = false) (h2 : ltOf cmpK y x = false) : x = y := by
  have g1 : ¬ (ltOf cmpK x y = true) := by rw [h1]; decide
  have g2 : ¬ (ltOf cmpK y x = true) := by rw [h2]; decide
  rw [cmpK_lt] at g1 g2
  obtain ⟨a, b⟩ := x
  obtain ⟨c, d⟩ := y
  simp only at g1 g2
  have e1 : a = c := by omega
  have e2 : b = d := by omega
  rw [e1, e2]
theorem cmpF_swo : SWO (ltOf cmpF) where
  irrefl x := by
    cases h : ltOf cmpF x x
    · rfl
    · rw [cmpF_lt] at h; omega
  trans x y z h1 h2 := by rw [cmpF_lt] at *; omega
  ntrans x y z h1 h2 := by
    cases h : ltOf cmpF x z
    · rfl
    · have g1 : ¬ (ltOf cmpF x y = true) := by rw [h1]; decide
      have g2 : ¬ (ltOf cmpF y z = true) := by rw [h2]; decide
      rw [cmpF_lt] at h g1 g2
      omega
theorem cmpF_tot (x y : Rf) (h1 : ltOf cmpF x y = false) (h2 : ltOf cmpF y x = false) : x = y := by
  have g1 : ¬ (ltOf cmpF x y = true) := by rw [h1]; decide
  have g2 : ¬ (ltOf cmpF y x = true) := by rw [h2]; decide
  rw [cmpF_lt] at g1 g2
  have e : x.t = y.t ∧ x.l = y.l ∧ x.b = y.b ∧ x.q = y.q ∧ mI x.m = mI y.m := by omega
  obtain ⟨e1, e2, e3, e4, e5⟩ := e
  have e6 := (mI_eq _ _).1 e5
  obtain ⟨m, t, l, b, q⟩ := x
  obtain ⟨m', t', l', b', q'⟩ := y
  simp_all
theorem cmpD_swo : SWO (ltOf cmpD) where
  irrefl x := by
    cases h : ltOf cmpD x x
    · rfl
    · rw [cmpD_lt] at h; omega
  trans x y z h1 h2 := by rw [cmpD_lt] at *; omega
  ntrans x y z h1 h2 := by
    cases h : ltOf cmpD x z
    · rfl
    · have g1 : ¬ (ltOf cmpD x y = true) := by rw [h1]; decide
      have g2 : ¬ (ltOf cmpD y z = true) := by rw [h2]; decide
      rw [cmpD_lt] at h g1 g2
      omega
theorem cmpD_tot (x y : Ed) (h1 : ltOf cmpD x y = false) (h2 : ltOf cmpD y x = false) : x = y := by
  have g1 : ¬ (ltOf cmpD x y = true) := by rw [h1]; decide
  have g2 : ¬ (ltOf cmpD y x = true) := by rw [h2]; decide
  rw [cmpD_lt] at g1 g2
  have e : x.r = y.r ∧ x.c = y.c ∧ x.f.t = y.f.t ∧ x.f.l = y.f.l ∧ x.f.b = y.f.b ∧ x.f.q = y.f.q ∧ mI x.f.m = mI y.f.m := by omega
  obtain ⟨e7, e8, e1, e2, e3, e4, e5⟩ := e
  have e6 := (mI_eq _ _).1 e5
  obtain ⟨r, c, m, t, l, b, q⟩ := x
  obtain ⟨r', c', m', t', l', b', q'⟩ := y
  simp_all
set_option maxRecDepth 100000 in
set_option maxHeartbeats 2000000 in
theorem sorte1_any (x y : Ed) (w : World) : Calls Tryz.prog 60 #[.agg #[.int .i64 x.r, .int .i64 x.c, .bool x.f.m, .int .i64 x.f.t, .int .i64 x.f.l, .int .i64 x.f.b, .int .i64 x.f.q], .agg #[.int .i64 y.r, .int .i64 y.c, .bool y.f.m, .int .i64 y.f.t, .int .i64 y.f.l, .int .i64 y.f.b, .int .i64 y.f.q]] w fun e w' => e = .returned (.int .i64 (cmpD x y)) ∧ Gr w w' := by
  have HC : Hid (∀ W, Calls Tryz.prog 34 #[.agg #[.int .i64 x.r, .int .i64 x.c], .agg #[.int .i64 y.r, .int .i64 y.c]] W fun e w' => e = .returned (.int .i64 (cmpC x.r x.c y.r y.c)) ∧ Gr W w') := ocel_gr _ _ _ _
  have HF : Hid (∀ W, Calls Tryz.prog 47 #[.agg #[.bool x.f.m, .int .i64 x.f.t, .int .i64 x.f.l, .int .i64 x.f.b, .int .i64 x.f.q], .agg #[.bool y.f.m, .int .i64 y.f.t, .int .i64 y.f.l, .int .i64 y.f.b, .int .i64 y.f.q]] W fun e w' => e = .returned (.int .i64 (cmpF x.f y.f)) ∧ Gr W w') := oref_any _ _
  unfold cmpD
  by_cases h0 : cmpC x.r x.c y.r y.c = 0
  · rw [if_pos h0]
    rw [h0] at HC
    clear h0
    go_enter Tryz.func60, Tryz.ntmps60
    go_wp2_with (first
      | (go_at_call 34; refine (HC.out _).mono ?_; rintro e w1 ⟨rfl, hg1⟩; have hG1 : Gr w w1 := Gr.trans (by with_reducible (repeat' first | assumption | exact Gr.refl _ | refine Gr.drew ?_ | refine Gr.drewN ?_ _ | refine Gr.alloc ?_ _)) hg1; have hb1 := hg1.below; have oX1 : Own w1 w.heap.size #[.int .i64 x.r, .int .i64 x.c, .bool x.f.m, .int .i64 x.f.t, .int .i64 x.f.l, .int .i64 x.f.b, .int .i64 x.f.q] := Own.keep (by with_reducible (repeat' first | assumption | refine Own.drew ?_ | refine Own.drewN ?_ _ | (refine Own.at ?_; first | rfl | (simp; done)) | refine Own.past ?_ _)) hb1; have oY1 : Own w1 (w.heap.size + 1) #[.int .i64 y.r, .int .i64 y.c, .bool y.f.m, .int .i64 y.f.t, .int .i64 y.f.l, .int .i64 y.f.b, .int .i64 y.f.q] := Own.keep (by with_reducible (repeat' first | assumption | refine Own.drew ?_ | refine Own.drewN ?_ _ | (refine Own.at ?_; first | rfl | (simp; done)) | refine Own.past ?_ _)) hb1; have cX1 := oX1.cell; have cY1 := oY1.cell; have lX1 := oX1.lt; have lY1 := oY1.lt; clear hg1)
      | (go_at_call 47; refine (HF.out _).mono ?_; rintro e w2 ⟨rfl, hg2⟩; have hG2 : Gr w w2 := Gr.trans (by with_reducible (repeat' first | assumption | exact Gr.refl _ | refine Gr.drew ?_ | refine Gr.drewN ?_ _ | refine Gr.alloc ?_ _)) hg2; clear hg2))
    go_ret
    exact ⟨rfl, by with_reducible (repeat' first | assumption | exact Gr.refl _ | refine Gr.drew ?_ | refine Gr.drewN ?_ _ | refine Gr.alloc ?_ _)⟩
  · rw [if_neg h0]
    generalize cmpC x.r x.c y.r y.c = n at *
    have h0' : (n != 0) = true := by simpa using h0
    clear h0
    go_enter Tryz.func60, Tryz.ntmps60
    go_wp2_with (go_at_call 34; refine (HC.out _).mono ?_; rintro e w1 ⟨rfl, hg1⟩; have hG1 : Gr w w1 := Gr.trans (by with_reducible (repeat' first | assumption | exact Gr.refl _ | refine Gr.drew ?_ | refine Gr.drewN ?_ _ | refine Gr.alloc ?_ _)) hg1; have hb1 := hg1.below; have oX1 : Own w1 w.heap.size #[.int .i64 x.r, .int .i64 x.c, .bool x.f.m, .int .i64 x.f.t, .int .i64 x.f.l, .int .i64 x.f.b, .int .i64 x.f.q] := Own.keep (by with_reducible (repeat' first | assumption | refine Own.drew ?_ | refine Own.drewN ?_ _ | (refine Own.at ?_; first | rfl | (simp; done)) | refine Own.past ?_ _)) hb1; have oY1 : Own w1 (w.heap.size + 1) #[.int .i64 y.r, .int .i64 y.c, .bool y.f.m, .int .i64 y.f.t, .int .i64 y.f.l, .int .i64 y.f.b, .int .i64 y.f.q] := Own.keep (by with_reducible (repeat' first | assumption | refine Own.drew ?_ | refine Own.drewN ?_ _ | (refine Own.at ?_; first | rfl | (simp; done)) | refine Own.past ?_ _)) hb1; have cX1 := oX1.cell; have cY1 := oY1.cell; have lX1 := oX1.lt; have lY1 := oY1.lt; clear hg1)
    go_ret
    exact ⟨rfl, by with_reducible (repeat' first | assumption | exact Gr.refl _ | refine Gr.drew ?_ | refine Gr.drewN ?_ _ | refine Gr.alloc ?_ _)⟩
theorem sortc_any (w : World) (base : Nat) (v : Value) (l : List Cl) (hv : RowG 33 2 Cl.cs w base v l) (hl : l.length < 4611686018427387904) : Calls Tryz.prog 33 #[v, .func (.func 34) #[] #[]] w fun e w' => e = .returned (.tuple #[]) ∧ RowG 33 2 Cl.cs w' base v (srtL cmpK l) ∧ Mut (fun b => v.ownBlock = some b) w w' :=
  sort_row ⟨⟨0, 0⟩⟩ Tryz.sortC Cl.len Cl.one Tryz.isAgg33 Tryz.sizeOf33 cmpK cmpK_swo cmpK_tot 34 (enters_of Tryz.func34 (by kernel_rfl) rfl) (fun x y W => ocel_gr _ _ _ _ W) hv hl
theorem sortf_any (w : World) (base : Nat) (v : Value) (l : List Rf) (hv : RowG 50 5 Rf.cs w base v l) (hl : l.length < 4611686018427387904) : Calls Tryz.prog 46 #[v, .func (.func 47) #[] #[]] w fun e w' => e = .returned (.tuple #[]) ∧ RowG 50 5 Rf.cs w' base v (srtL cmpF l) ∧ Mut (fun b => v.ownBlock = some b) w w' :=
  sort_row ⟨⟨false, 0, 0, 0, 0⟩⟩ Tryz.sortF Rf.len Rf.one Tryz.isAgg50 Tryz.sizeOf50 cmpF cmpF_swo cmpF_tot 47 (enters_of Tryz.func47 (by kernel_rfl) rfl) (fun x y W => oref_any _ _ W) hv hl
theorem sorte_any (w : World) (base : Nat) (v : Value) (l : List Ed) (hv : RowD w base v l) (hl : l.length < 4611686018427387904) : Calls Tryz.prog 36 #[v] w fun e w' => e = .returned (.tuple #[]) ∧ RowD w' base v (srtL cmpD l) ∧ Mut (fun b => v.ownBlock = some b) w w' := by
  have hcon := sort_row ⟨⟨0, 0, ⟨false, 0, 0, 0, 0⟩⟩⟩ Tryz.sortE Ed.len Ed.one Tryz.isAgg52 Tryz.sizeOf52 cmpD cmpD_swo cmpD_tot 60 (enters_of Tryz.func60 (by kernel_rfl) rfl) (fun x y W => sorte1_any x y W) hv hl
  change Calls Tryz.prog 59 _ _ _ at hcon
  have HC : Hid (Calls Tryz.prog 59 #[v, .func (.func 60) #[] #[]] w fun e w' => e = .returned (.tuple #[]) ∧ RowD w' base v (srtL cmpD l) ∧ Mut (fun b => v.ownBlock = some b) w w') := hcon
  clear hcon hv
  go_enter Tryz.func36, Tryz.ntmps36
  go_wp2_with (go_at_call 59; refine HC.out.mono ?_; rintro e wa ⟨rfl, h1, h2⟩; have H1 : Hid (RowD wa base v (srtL cmpD l)) := h1; have H2 : Hid (Mut (fun b => v.ownBlock = some b) w wa) := h2; clear h1 h2)
  go_end0
  exact ⟨rfl, H1.out, H2.out⟩
end Go.Proofs.YtgojnijpjfdocaaGreat
