/- Contracts of the laws' own known and same: both answer true, the latter at two lists of the same tokens. New memory alone is made. The conditions: what package value lays (the names), and that a variable of the library holds a number. -/
import Derived.Test.YtaamphdihmghhaaGreatDoorQLA
namespace Go.Proofs.YtaamphdihmghhaaGreatDoor
open Go.Shelf Go.RowKit
set_option linter.all false
theorem neT (t : Tk) (w : World) : (binOp .neq 37 (.agg #[.int .i64 t.kind, .int .i64 t.at', .int .i64 t.num, .string t.str, .int .i64 t.c0, .int .i64 t.c1, .int .i64 t.r0, .int .i64 t.r1, .int .i64 t.r2, .int .i64 t.r3, .int .i64 t.code]) (.agg #[.int .i64 t.kind, .int .i64 t.at', .int .i64 t.num, .string t.str, .int .i64 t.c0, .int .i64 t.c1, .int .i64 t.r0, .int .i64 t.r1, .int .i64 t.r2, .int .i64 t.r3, .int .i64 t.code])).run Tryz.prog w = .ok (.bool false) w := by
  rw [run_neq_struct, run_equalIn_agg w 9999 37 _ _ (by kernel_rfl) (by kernel_rfl)]
  go_simp
def kn : ByteArray := ⟨#[61, 65, 49, 43, 50, 46, 53]⟩
theorem kn_toks : ((toks kn).map fun t => (t.kind, t.at', t.num, t.str.data.toList, t.c0, t.c1)) = [(4, 1, 0, [], 1, 1), (7, 3, 0, [43], 0, 0), (1, 4, 25000, [], 0, 0), (0, 7, 0, [], 0, 0)] := by decide +kernel
theorem len4 {l : List Tk} (h : l.length = 4) : ∃ a b c d, l = [a, b, c, d] := by
  match l, h with
  | [a, b, c, d], _ => exact ⟨a, b, c, d, rfl⟩
theorem kn_four : ∃ t0 t1 t2 t3 : Tk, toks kn = [t0, t1, t2, t3] ∧ t0.kind = 4 ∧ t0.c0 = 1 ∧ t0.c1 = 1 ∧ t1.str = ⟨#[43]⟩ ∧ t2.num = 25000 ∧ t3.at' = 7 := by
  have h := kn_toks
  obtain ⟨t0, t1, t2, t3, e⟩ := len4 (l := toks kn) (by have := congrArg List.length h; rw [List.length_map] at this; exact this)
  rw [e] at h ⊢
  simp only [List.map_cons, List.map_nil, List.cons.injEq, Prod.mk.injEq, and_true] at h
  obtain ⟨h0, h1, h2, h3⟩ := h
  exact ⟨t0, t1, t2, t3, rfl, h0.1, h0.2.2.2.2.1, h0.2.2.2.2.2, by rw [← bs_of t1.str, h1.2.2.2.1]; rfl, h2.2.2.1, h3.2.1⟩
theorem all_take {s : ByteArray} : (toks s).take (nAll (-1) (toks s).length) = toks s := by
  have e : nAll (-1) (toks s).length = (toks s).length := by unfold nAll; rw [if_neg (by omega)]
  rw [e, List.take_length]
theorem all_m1 (s : ByteArray) (w : World) (hs : s.size ≤ 1048576) (hN : Vv.Nam w) (hM : Mx w) :
    Calls Tryz.prog 6 #[.string s, .int .i64 (-1)] w fun e w' => ∃ v, e = .returned v ∧ IsTs w' w.heap.size v (toks s) ∧ Below w.heap.size w w' := by
  have h := all_any s (-1) w hs (by decide) hN hM
  rw [all_take] at h
  exact h
set_option maxHeartbeats 2000000 in
theorem known_any (w : World) (hN : Vv.Nam w) (hM : Mx w) :
    Calls Tryz.prog 8 #[] w fun e w' => e = .returned (.bool true) ∧ Below w.heap.size w w' := by
  obtain ⟨t0, t1, t2, t3, ht, k0, k1, k2, k3, k4, k5⟩ := kn_four
  have ha : ∀ w, Vv.Nam w → Mx w → Calls Tryz.prog 6 #[.string ⟨#[61, 65, 49, 43, 50, 46, 53]⟩, .int .i64 (-1)] w fun e w' => ∃ v, e = .returned v ∧ IsTs w' w.heap.size v (toks kn) ∧ Below w.heap.size w w' := fun w hN hM => all_m1 kn w (by decide) hN hM
  rw [ht] at ha
  have HA : Hid _ := ha w hN hM
  clear ha hN hM ht
  have hcc := eqC 1 1 1 1
  rw [sameC_refl] at hcc
  go_enter Tryz.func8, Tryz.ntmps8
  go_wp2_with (go_at_call 6; (refine Calls.mono HA.out ?_; rintro e w1 ⟨v, rfl, hT, hb⟩; obtain ⟨g, cap, rfl, hg1, hg2, hc, hf, hcap⟩ := hT.form (by simp); have d0 : w1.cell? ⟨g, 0, none⟩ = some (.int .i64 4) := (hc 0 t0 rfl 0 (by decide)).trans (by rw [← k0]; rfl); have d1 : w1.cell? ⟨g, 4, none⟩ = some (.int .i64 1) := (hc 0 t0 rfl 4 (by decide)).trans (by rw [← k1]; rfl); have d2 : w1.cell? ⟨g, 5, none⟩ = some (.int .i64 1) := (hc 0 t0 rfl 5 (by decide)).trans (by rw [← k2]; rfl); have d3 : w1.cell? ⟨g, 14, none⟩ = some (.string ⟨#[43]⟩) := (hc 1 t1 rfl 3 (by decide)).trans (by rw [← k3]; rfl); have d4 : w1.cell? ⟨g, 24, none⟩ = some (.int .i64 25000) := (hc 2 t2 rfl 2 (by decide)).trans (by rw [← k4]; rfl); have d5 : w1.cell? ⟨g, 34, none⟩ = some (.int .i64 7) := (hc 3 t3 rfl 1 (by decide)).trans (by rw [← k5]; rfl); clear hc hT))
  go_ret
  exact ⟨rfl, hb⟩
set_option maxHeartbeats 2000000 in
theorem same_any (w : World) (base : Nat) (va vb : Value) (ts : List Tk) (ha : IsTs w base va ts) (hb : IsTs w base vb ts) (hl : ts.length ≤ 2000000) :
    Calls Tryz.prog 5 #[va, vb] w fun e w' => e = .returned (.bool true) ∧ Below w.heap.size w w' := by
  by_cases h0 : 0 < ts.length
  · obtain ⟨ga, ca, rfl, a1, a2, a3, a4, a5⟩ := ha.form h0
    obtain ⟨gb, cb, rfl, b1, b2, b3, b4, b5⟩ := hb.form h0
    have HA3 : Hid _ := a3
    have HB3 : Hid _ := b3
    have HL : Hid (ts.length ≤ 2000000) := hl
    have hl' : ts.length < 4000000000 := by omega
    clear a3 b3 ha hb hl
    have mixed : Tryz.prog.follows .mixedOrders = true := by kernel_rfl
    go_enter Tryz.func5, Tryz.ntmps5
    go_wp2
    go_loopw [5] (fun v w' => ∃ i : Nat, v = .int .i64 i ∧ i ≤ ts.length ∧ ∃ n, w' = w.drewN n) (fun v _ => ts.length - (intOf v).toNat)
    case atStart => exact ⟨0, rfl, by omega, 0, rfl⟩
    case round =>
      obtain ⟨i, rfl, hi, n, rfl⟩ := hrel
      by_cases hlt : i < ts.length
      · have hlt' : (i : Int) < ts.length := by omega
        have hti : ts[i]? = some ts[i] := List.getElem?_eq_getElem hlt
        have ca' := fun j hj => (show w.cell? ⟨ga, i * 11 + j, none⟩ = _ from HA3.out i _ hti j hj)
        have cb' := fun j hj => (show w.cell? ⟨gb, i * 11 + j, none⟩ = _ from HB3.out i _ hti j hj)
        have hne := neT ts[i]
        revert ca' cb' hne
        generalize ts[i] = t
        intro ca' cb' hne
        have x0 : w.cell? ⟨ga, i * 11, none⟩ = some (.int .i64 t.kind) := ca' 0 (by decide)
        have x1 : w.cell? ⟨ga, i * 11 + 1, none⟩ = some (.int .i64 t.at') := ca' 1 (by decide)
        have x2 : w.cell? ⟨ga, i * 11 + 2, none⟩ = some (.int .i64 t.num) := ca' 2 (by decide)
        have x3 : w.cell? ⟨ga, i * 11 + 3, none⟩ = some (.string t.str) := ca' 3 (by decide)
        have x4 : w.cell? ⟨ga, i * 11 + 4, none⟩ = some (.int .i64 t.c0) := ca' 4 (by decide)
        have x5 : w.cell? ⟨ga, i * 11 + 5, none⟩ = some (.int .i64 t.c1) := ca' 5 (by decide)
        have x6 : w.cell? ⟨ga, i * 11 + 6, none⟩ = some (.int .i64 t.r0) := ca' 6 (by decide)
        have x7 : w.cell? ⟨ga, i * 11 + 7, none⟩ = some (.int .i64 t.r1) := ca' 7 (by decide)
        have x8 : w.cell? ⟨ga, i * 11 + 8, none⟩ = some (.int .i64 t.r2) := ca' 8 (by decide)
        have x9 : w.cell? ⟨ga, i * 11 + 9, none⟩ = some (.int .i64 t.r3) := ca' 9 (by decide)
        have x10 : w.cell? ⟨ga, i * 11 + 10, none⟩ = some (.int .i64 t.code) := ca' 10 (by decide)
        have y0 : w.cell? ⟨gb, i * 11, none⟩ = some (.int .i64 t.kind) := cb' 0 (by decide)
        have y1 : w.cell? ⟨gb, i * 11 + 1, none⟩ = some (.int .i64 t.at') := cb' 1 (by decide)
        have y2 : w.cell? ⟨gb, i * 11 + 2, none⟩ = some (.int .i64 t.num) := cb' 2 (by decide)
        have y3 : w.cell? ⟨gb, i * 11 + 3, none⟩ = some (.string t.str) := cb' 3 (by decide)
        have y4 : w.cell? ⟨gb, i * 11 + 4, none⟩ = some (.int .i64 t.c0) := cb' 4 (by decide)
        have y5 : w.cell? ⟨gb, i * 11 + 5, none⟩ = some (.int .i64 t.c1) := cb' 5 (by decide)
        have y6 : w.cell? ⟨gb, i * 11 + 6, none⟩ = some (.int .i64 t.r0) := cb' 6 (by decide)
        have y7 : w.cell? ⟨gb, i * 11 + 7, none⟩ = some (.int .i64 t.r1) := cb' 7 (by decide)
        have y8 : w.cell? ⟨gb, i * 11 + 8, none⟩ = some (.int .i64 t.r2) := cb' 8 (by decide)
        have y9 : w.cell? ⟨gb, i * 11 + 9, none⟩ = some (.int .i64 t.r3) := cb' 9 (by decide)
        have y10 : w.cell? ⟨gb, i * 11 + 10, none⟩ = some (.int .i64 t.code) := cb' 10 (by decide)
        clear ca' cb'
        go_wp2
        go_quiet (fail)
        go_wp2
        exact ⟨⟨i + 1, by go_num, by omega, _, rfl⟩, by simp [intOf]; omega⟩
      · have hlt' : ¬ (i : Int) < ts.length := by omega
        go_wp2
        go_ret
        exact ⟨rfl, bdrewN (Below.refl _ _) n⟩
  · have e : ts = [] := List.length_eq_zero_iff.1 (by omega)
    subst e
    obtain ⟨pa, na, ca, rfl, ea⟩ := ha.slice
    obtain ⟨pb, nb, cb, rfl, eb⟩ := hb.slice
    simp at ea eb
    subst ea eb
    clear ha hb hl h0
    go_enter Tryz.func5, Tryz.ntmps5
    go_wp2
    go_loopw [5] (fun v w' => v = .int .i64 0 ∧ w' = w) (fun v _ => 0)
    case atStart => exact ⟨rfl, rfl⟩
    case round =>
      obtain ⟨rfl, rfl⟩ := hrel
      go_wp2
      go_ret
      exact ⟨rfl, Below.refl _ _⟩
end Go.Proofs.YtaamphdihmghhaaGreatDoor
