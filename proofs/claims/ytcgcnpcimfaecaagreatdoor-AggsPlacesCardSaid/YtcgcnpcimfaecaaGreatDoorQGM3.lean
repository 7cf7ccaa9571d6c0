/- The contract of aggs.firstPlace: the first place of a line that has just a value. New memory alone is made. The condition: the entries stand in the line, in their order. The contracts of aggs.indexed, matched and lookedUp, where they find something. New memory alone is made. -/
import Derived.Test.YtcgcnpcimfaecaaGreatDoorQShelfK
namespace Go.Proofs.YtcgcnpcimfaecaaGreatDoor
open Go.RowKit
set_option linter.all false
theorem wi64 {x : Int} (h1 : -9223372036854775808 ≤ x) (h2 : x ≤ 9223372036854775807) : wrap64 x = x ∧ IntKind.i64.wrap x = x := by
  have h : wrap64 x = x := by unfold wrap64; omega
  exact ⟨h, by rw [IntKind.wrap_i64]; unfold wrap64 at h; exact h⟩
/-- How many places of a line stand ahead of an entry's. -/
def plE (r0 r1 : Int) (x : En) : Int := (x.r - r0) + (x.k - r1)
structure Ln (r0 r1 r2 r3 : Int) (es : List En) : Prop where
  line : lineB r0 r1 r2 r3 = true
  inr : ∀ x ∈ es, r0 ≤ x.r ∧ x.r ≤ r2 ∧ r1 ≤ x.k ∧ x.k ≤ r3
  ord : OrdE es
theorem Ln.cell {r0 r1 r2 r3 : Int} {es : List En} (L : Ln r0 r1 r2 r3 es) {x : En} (hx : x ∈ es) (i : Int) : (x.r = nthR r0 r2 i ∧ x.k = nthK r0 r1 r2 i) ↔ plE r0 r1 x = i := by
  have h := L.inr x hx
  have hl := L.line
  unfold lineB at hl
  rw [Bool.or_eq_true, decide_eq_true_iff, decide_eq_true_iff] at hl
  unfold nthR nthK plE
  by_cases a : r0 = r2
  · rw [if_pos a, if_pos a]; omega
  · rw [if_neg a, if_neg a]; omega
theorem Ln.mono {r0 r1 r2 r3 : Int} {es : List En} (L : Ln r0 r1 r2 r3 es) {s t : Nat} {x y : En} (hst : s < t) (hx : es[s]? = some x) (hy : es[t]? = some y) : plE r0 r1 x < plE r0 r1 y := by
  have h1 := L.inr x (List.mem_of_getElem? hx)
  have h2 := L.inr y (List.mem_of_getElem? hy)
  have h3 := L.ord s t x y hst hx hy
  have hl := L.line
  unfold lineB at hl
  rw [Bool.or_eq_true, decide_eq_true_iff, decide_eq_true_iff] at hl
  unfold plE
  omega
/-- The entries ahead of m stand ahead of place i, the others do not. -/
def Cut (r0 r1 : Int) (es : List En) (m : Nat) (i : Int) : Prop := (∀ t x, t < m → es[t]? = some x → plE r0 r1 x < i) ∧ (∀ t x, m ≤ t → es[t]? = some x → i ≤ plE r0 r1 x)
/-- What the line has at a place. -/
def lnE (r0 r1 r2 : Int) (es : List En) (i : Int) : En := atE es (nthR r0 r2 i) (nthK r0 r1 r2 i)
def zE (r k : Int) : En := ⟨r, k, 0, 0, ⟨#[]⟩, false, 0⟩
theorem cut_0 {r0 r1 r2 r3 : Int} {es : List En} (L : Ln r0 r1 r2 r3 es) : Cut r0 r1 es 0 0 := ⟨fun t x h => absurd h (Nat.not_lt_zero _), fun t x _ hx => by have := L.inr x (List.mem_of_getElem? hx); unfold plE; omega⟩
theorem cut_hit {r0 r1 r2 r3 : Int} {es : List En} {m : Nat} {i : Int} {x : En} (L : Ln r0 r1 r2 r3 es) (C : Cut r0 r1 es m i) (hx : es[m]? = some x) (hc : x.r = nthR r0 r2 i ∧ x.k = nthK r0 r1 r2 i) : lnE r0 r1 r2 es i = x ∧ Cut r0 r1 es (m + 1) (i + 1) := by
  have hp := (L.cell (List.mem_of_getElem? hx) i).1 hc
  refine ⟨atE_at L.ord hx hc.1 hc.2, fun t y ht hy => ?_, fun t y ht hy => ?_⟩
  · by_cases e : t = m
    · subst e; rw [hx] at hy; injection hy with hy; subst hy; omega
    · have := C.1 t y (by omega) hy; omega
  · have := L.mono (show m < t by omega) hx hy; omega
theorem ln_no {r0 r1 r2 r3 : Int} {es : List En} {i : Int} (L : Ln r0 r1 r2 r3 es) (h : ∀ x ∈ es, plE r0 r1 x ≠ i) : lnE r0 r1 r2 es i = zE (nthR r0 r2 i) (nthK r0 r1 r2 i) := atE_no (fun x hx q => h x hx ((L.cell hx i).1 q))
theorem cut_miss {r0 r1 r2 r3 : Int} {es : List En} {m : Nat} {i : Int} {x : En} (L : Ln r0 r1 r2 r3 es) (C : Cut r0 r1 es m i) (hx : es[m]? = some x) (hc : ¬ (x.r = nthR r0 r2 i ∧ x.k = nthK r0 r1 r2 i)) : lnE r0 r1 r2 es i = zE (nthR r0 r2 i) (nthK r0 r1 r2 i) ∧ Cut r0 r1 es m (i + 1) := by
  have hp : plE r0 r1 x ≠ i := fun q => hc ((L.cell (List.mem_of_getElem? hx) i).2 q)
  have h0 := C.2 m x (Nat.le_refl _) hx
  have hall : ∀ t y, m ≤ t → es[t]? = some y → i + 1 ≤ plE r0 r1 y := fun t y ht hy => by
    by_cases e : t = m
    · subst e; rw [hx] at hy; injection hy with hy; subst hy; omega
    · have := L.mono (show m < t by omega) hx hy; omega
  refine ⟨ln_no L (fun y hy q => ?_), fun t y ht hy => ?_, hall⟩
  · obtain ⟨t, ht⟩ := List.getElem?_of_mem hy
    by_cases e : t < m
    · have := C.1 t y e ht; omega
    · have := hall t y (by omega) ht; omega
  · have := C.1 t y ht hy; omega
theorem cut_end {r0 r1 r2 r3 : Int} {es : List En} {m : Nat} {i : Int} (L : Ln r0 r1 r2 r3 es) (C : Cut r0 r1 es m i) (hm : es.length ≤ m) : lnE r0 r1 r2 es i = zE (nthR r0 r2 i) (nthK r0 r1 r2 i) ∧ Cut r0 r1 es m (i + 1) := by
  refine ⟨ln_no L (fun y hy q => ?_), fun t y ht hy => ?_, fun t y ht hy => ?_⟩
  · obtain ⟨t, ht⟩ := List.getElem?_of_mem hy
    have h1 := (List.getElem?_eq_some_iff.1 ht).1
    have := C.1 t y (by omega) ht; omega
  · have := C.1 t y ht hy; omega
  · have h1 := (List.getElem?_eq_some_iff.1 hy).1; omega
/-- Does the line have just this value at a place? -/
def hitB (r0 r1 r2 : Int) (es : List En) (vt vn : Int) (vs : ByteArray) (vb : Bool) (vc : Int) (i : Nat) : Bool := smE vt vn vs vb vc (lnE r0 r1 r2 es i)
/-- The first place that has it. -/
def FstP (r0 r1 r2 r3 : Int) (es : List En) (vt vn : Int) (vs : ByteArray) (vb : Bool) (vc : Int) (i : Int) (f : Bool) : Prop := (f = true → ∃ q : Nat, i = q ∧ (q : Int) < ((r2 - r0 + 1) * (r3 - r1 + 1)) ∧ hitB r0 r1 r2 es vt vn vs vb vc q = true ∧ ∀ p : Nat, p < q → hitB r0 r1 r2 es vt vn vs vb vc p = false) ∧ (f = false → ∀ p : Nat, (p : Int) < ((r2 - r0 + 1) * (r3 - r1 + 1)) → hitB r0 r1 r2 es vt vn vs vb vc p = false)
theorem fst_at {r0 r1 r2 r3 : Int} {es : List En} {vt vn : Int} {vs : ByteArray} {vb : Bool} {vc : Int} {i : Nat} (h : (i : Int) < ((r2 - r0 + 1) * (r3 - r1 + 1))) (h1 : hitB r0 r1 r2 es vt vn vs vb vc i = true) (h2 : ∀ p : Nat, p < i → hitB r0 r1 r2 es vt vn vs vb vc p = false) : FstP r0 r1 r2 r3 es vt vn vs vb vc i true := ⟨fun _ => ⟨i, rfl, h, h1, h2⟩, (fun h => nomatch h)⟩
theorem no_next {r0 r1 r2 : Int} {es : List En} {vt vn : Int} {vs : ByteArray} {vb : Bool} {vc : Int} {i : Nat} (h2 : ∀ p : Nat, p < i → hitB r0 r1 r2 es vt vn vs vb vc p = false) (h1 : hitB r0 r1 r2 es vt vn vs vb vc i = false) : ∀ p : Nat, p < i + 1 → hitB r0 r1 r2 es vt vn vs vb vc p = false := fun p hp => by
  by_cases e : p = i
  · rw [e]; exact h1
  · exact h2 p (by omega)
/-- What firstPlace answers. -/
def FpR (r0 r1 r2 r3 : Int) (es : List En) (vt vn : Int) (vs : ByteArray) (vb : Bool) (vc : Int) (e : Ending) : Prop := ∃ (i : Int) (f : Bool), e = .returned (.tuple #[.int .i64 i, .bool f]) ∧ FstP r0 r1 r2 r3 es vt vn vs vb vc i f
theorem eqC (a b c d : Int) (w : World) : (binOp .eql 49 (.agg #[.int .i64 a, .int .i64 b]) (.agg #[.int .i64 c, .int .i64 d])).run Tryz.prog w = .ok (.bool (decide (a = c ∧ b = d))) w := by
  rw [run_eql_struct, run_equalIn_agg w 9999 49 _ _ (by kernel_rfl) (by kernel_rfl)]
  go_simp
  by_cases h : a = c <;> by_cases h2 : b = d <;> simp [h, h2]
set_option maxRecDepth 100000 in
set_option maxHeartbeats 4000000 in
theorem fp_y (w : World) (m : Bool) (t0 n0 : Int) (s0 : ByteArray) (b0 : Bool) (c0' r0 r1 r2 r3 : Int) (b o n c : Nat) (vt vn : Int) (vs : ByteArray) (vb : Bool) (vc : Int) (es : List En) (hla : b < w.heap.size) (HA : ∀ i x, es[i]? = some x → ∀ j, j < 7 → w.cell? ⟨b, o + i * 7 + j, none⟩ = (En.cells x)[j]?) (hn : es.length = n) (hc : n ≤ c) (hl : n ≤ 1099511627776) (hL : Hid (Ln r0 r1 r2 r3 es)) (h1 : 0 ≤ r0) (h2 : r0 ≤ r2) (h3 : r2 ≤ 1048576) (h4 : 0 ≤ r1) (h5 : r1 ≤ r3) (h6 : r3 ≤ 1048576) (h40 : ((r2 - r0 + 1) * (r3 - r1 + 1)) ≤ 549755813888) :
    Calls Tryz.prog 128 #[.agg #[.bool m, .int .i64 t0, .int .i64 n0, .string s0, .bool b0, .int .i64 c0', .int .i64 r0, .int .i64 r1, .int .i64 r2, .int .i64 r3, .slice (some ⟨b, o, none⟩) n c], .agg #[.int .i64 vt, .int .i64 vn, .string vs, .bool vb, .int .i64 vc]] w fun e w' => FpR r0 r1 r2 r3 es vt vn vs vb vc e ∧ Below w.heap.size w w' := by
  have HA' : Hid _ := HA
  have HL : Hid (es.length = n) := hn
  clear HA hn
  have mixed : Tryz.prog.follows .mixedOrders = true := by kernel_rfl
  have HR : Hid (∀ W : World, Calls Tryz.prog 131 #[.agg #[.int .i64 r0, .int .i64 r1, .int .i64 r2, .int .i64 r3]] W fun e w' => e = .returned (.int .i64 (r2 - r0 + 1)) ∧ Below W.heap.size W w') := (show _ from fun W => rows_any _ _ _ _ _ (by omega) (by omega) (by omega) (by omega))
  have HC : Hid (∀ W : World, Calls Tryz.prog 132 #[.agg #[.int .i64 r0, .int .i64 r1, .int .i64 r2, .int .i64 r3]] W fun e w' => e = .returned (.int .i64 (r3 - r1 + 1)) ∧ Below W.heap.size W w') := (show _ from fun W => cols_any _ _ _ _ _ (by omega) (by omega) (by omega) (by omega))
  have HN : Hid (∀ (W : World) (i : Int), 0 ≤ i → i ≤ 1099511627776 → Calls Tryz.prog 130 #[.agg #[.int .i64 r0, .int .i64 r1, .int .i64 r2, .int .i64 r3], .int .i64 i] W fun e w' => e = .returned (.agg #[.int .i64 (nthR r0 r2 i), .int .i64 (nthK r0 r1 r2 i)]) ∧ Below W.heap.size W w') := (show _ from fun W i a b => nth_any _ _ _ _ _ _ h1 h2 h3 h4 h5 h6 a b)
  obtain ⟨ar, har⟩ : ∃ ar : Int, ((r2 - r0 + 1) * (r3 - r1 + 1)) = ar := ⟨_, rfl⟩
  have g1 : 0 ≤ (r2 - r0 + 1) := by omega
  have g2 : 0 ≤ (r3 - r1 + 1) := by omega
  have hmul : IntKind.i64.wrap ((r2 - r0 + 1) * (r3 - r1 + 1)) = ar := by
    have g3 : 0 ≤ ((r2 - r0 + 1) * (r3 - r1 + 1)) := Int.mul_nonneg g1 g2
    rw [har] at g3 h40 ⊢
    exact (wi64 (by omega) (by omega)).2
  have h0a : 0 ≤ ar := by rw [← har]; exact Int.mul_nonneg g1 g2
  have h40a : ar ≤ 549755813888 := by rw [← har]; exact h40
  have HAR : Hid (((r2 - r0 + 1) * (r3 - r1 + 1)) = ar) := har
  have HMU : Hid _ := hmul
  clear har h40 h1 h2 h3 h4 h5 h6 g1 g2
  go_enter Tryz.func128, Tryz.ntmps128
  go_wp2
  go_region_held3 (fun w' => w'.cell? ⟨w.heap.size, 6, none⟩ = some (.int .i64 r0) ∧ w'.cell? ⟨w.heap.size, 7, none⟩ = some (.int .i64 r1) ∧ w'.cell? ⟨w.heap.size, 8, none⟩ = some (.int .i64 r2) ∧ w'.cell? ⟨w.heap.size, 9, none⟩ = some (.int .i64 r3)) ((repeat' apply And.intro) <;> (first | (go_keep; done) | (go_simp; done))) (first | (go_at_call 131; refine (HR.out _).mono ?_; rintro e w1 ⟨rfl, hb1⟩; have hB1 : Below w.heap.size w w1 := bup (by with_reducible (repeat' first | assumption | exact Below.refl _ _ | refine Below.drew ?_ | refine bdrewN ?_ _ | refine Below.setCell ?_ (by first | exact Nat.le_refl _ | (simp; done) | (simp; omega) | omega) _ | refine Below.alloc ?_ (by first | exact Nat.le_refl _ | (simp; done) | (simp; omega) | omega) _)) hb1; have z1 := hB1.size; have o0w1 : Own w1 (w.heap.size) #[.bool m, .int .i64 t0, .int .i64 n0, .string s0, .bool b0, .int .i64 c0', .int .i64 r0, .int .i64 r1, .int .i64 r2, .int .i64 r3, .slice (some ⟨b, o, none⟩) n c] := Own.keep (by with_reducible (repeat' first | assumption | refine Own.drew ?_ | refine Own.drewN ?_ _ | (refine Own.at ?_; first | rfl | (simp; done)) | refine Own.past ?_ _)) hb1; have c0 := o0w1.cell; have f0 := o0w1.fro; have l0 := o0w1.lt; have o1w1 : Own w1 (w.heap.size + 1) #[.int .i64 vt, .int .i64 vn, .string vs, .bool vb, .int .i64 vc] := Own.keep (by with_reducible (repeat' first | assumption | refine Own.drew ?_ | refine Own.drewN ?_ _ | (refine Own.at ?_; first | rfl | (simp; done)) | refine Own.past ?_ _)) hb1; have c1 := o1w1.cell; have f1 := o1w1.fro; have l1 := o1w1.lt) | (go_at_call 132; refine (HC.out _).mono ?_; rintro e w2 ⟨rfl, hb2⟩; have hB2 : Below w.heap.size w w2 := bup (by with_reducible (repeat' first | assumption | exact Below.refl _ _ | refine Below.drew ?_ | refine bdrewN ?_ _ | refine Below.setCell ?_ (by first | exact Nat.le_refl _ | (simp; done) | (simp; omega) | omega) _ | refine Below.alloc ?_ (by first | exact Nat.le_refl _ | (simp; done) | (simp; omega) | omega) _)) hb2; have z2 := hB2.size; have o0w2 : Own w2 (w.heap.size) #[.bool m, .int .i64 t0, .int .i64 n0, .string s0, .bool b0, .int .i64 c0', .int .i64 r0, .int .i64 r1, .int .i64 r2, .int .i64 r3, .slice (some ⟨b, o, none⟩) n c] := Own.keep (by with_reducible (repeat' first | assumption | refine Own.drew ?_ | refine Own.drewN ?_ _ | (refine Own.at ?_; first | rfl | (simp; done)) | refine Own.past ?_ _)) hb2; have c0 := o0w2.cell; have f0 := o0w2.fro; have l0 := o0w2.lt; have o1w2 : Own w2 (w.heap.size + 1) #[.int .i64 vt, .int .i64 vn, .string vs, .bool vb, .int .i64 vc] := Own.keep (by with_reducible (repeat' first | assumption | refine Own.drew ?_ | refine Own.drewN ?_ _ | (refine Own.at ?_; first | rfl | (simp; done)) | refine Own.past ?_ _)) hb2; have c1 := o1w2.cell; have f1 := o1w2.fro; have l1 := o1w2.lt))
  clear HMU hmul
  go_wp2
  go_loopw [6, 18] (fun u v w' => ∃ (q c2 : Nat) (i mm : Nat) (p2 : Option Addr), q = n - mm ∧ u = .slice p2 q c2 ∧ v = .int .i64 i ∧ q ≤ c2 ∧ mm ≤ n ∧ (mm < n → p2 = some ⟨b, o + mm * 7, none⟩) ∧ (i : Int) ≤ ar ∧ Hid (Cut r0 r1 es mm i) ∧ Hid (∀ p : Nat, p < i → hitB r0 r1 r2 es vt vn vs vb vc p = false) ∧ Below w.heap.size w w' ∧ Own w' w.heap.size #[.bool m, .int .i64 t0, .int .i64 n0, .string s0, .bool b0, .int .i64 c0', .int .i64 r0, .int .i64 r1, .int .i64 r2, .int .i64 r3, .slice (some ⟨b, o, none⟩) n c] ∧ Own w' (w.heap.size + 1) #[.int .i64 vt, .int .i64 vn, .string vs, .bool vb, .int .i64 vc]) (fun _ v _ => (ar - intOf v).toNat)
  case atStart => exact ⟨n, c, 0, 0, some ⟨b, o, none⟩, by omega, rfl, rfl, hc, by omega, fun _ => by simp, by simpa using h0a, (show Hid _ from cut_0 hL.out), (show Hid _ from fun p h => absurd h (Nat.not_lt_zero _)), by with_reducible (repeat' first | assumption | exact Below.refl _ _ | refine Below.drew ?_ | refine bdrewN ?_ _ | refine Below.setCell ?_ (by first | exact Nat.le_refl _ | (simp; done) | (simp; omega) | omega) _ | refine Below.alloc ?_ (by first | exact Nat.le_refl _ | (simp; done) | (simp; omega) | omega) _), o0w2, o1w2⟩
  case round =>
    obtain ⟨q, c2, i, mm, p2, hq, rfl, rfl, hqc, hmn, hp2, hia, hCu, hNo, hB3, o3, o4⟩ := hrel
    have z3 := hB3.size
    clear c0 f0 l0 c1 f1 l1
    have c0 := o3.cell
    have f0 := o3.fro
    have l0 := o3.lt
    have c1 := o4.cell
    have f1 := o4.fro
    have l1 := o4.lt
    by_cases hlt : (i : Int) < ar
    · by_cases hm : mm < n
      · obtain rfl := hp2 hm
        have hq0 : 0 < q := by omega
        have hq1 : q ≤ 1099511627776 := by omega
        have HQ : Hid (q = n - mm) := hq
        have hbw : b < wr.heap.size := Nat.lt_of_lt_of_le hla z3
        have hai : es[mm]? = some (es[mm]'(by rw [HL.out]; exact hm)) := List.getElem?_eq_getElem _
        have ca' := fun j hj => (hB3.cell (p := ⟨b, o + mm * 7 + j, none⟩) hla).trans (HA'.out mm _ hai j hj)
        have HAi : Hid _ := hai
        revert ca' HAi
        clear hai
        generalize (es[mm]'(by rw [HL.out]; exact hm)) = x
        intro ca' HAi
        clear hq hp2
        have y0 : wr.cell? ⟨b, o + mm * 7, none⟩ = some (.int .i64 x.r) := ca' 0 (by decide)
        have y1 : wr.cell? ⟨b, o + mm * 7 + 1, none⟩ = some (.int .i64 x.k) := ca' 1 (by decide)
        have y2 : wr.cell? ⟨b, o + mm * 7 + 2, none⟩ = some (.int .i64 x.t) := ca' 2 (by decide)
        have y3 : wr.cell? ⟨b, o + mm * 7 + 3, none⟩ = some (.int .i64 x.n) := ca' 3 (by decide)
        have y4 : wr.cell? ⟨b, o + mm * 7 + 4, none⟩ = some (.string x.s) := ca' 4 (by decide)
        have y5 : wr.cell? ⟨b, o + mm * 7 + 5, none⟩ = some (.bool x.b) := ca' 5 (by decide)
        have y6 : wr.cell? ⟨b, o + mm * 7 + 6, none⟩ = some (.int .i64 x.c) := ca' 6 (by decide)
        clear ca'
        have HN1 : Hid (∀ W : World, Calls Tryz.prog 130 #[.agg #[.int .i64 r0, .int .i64 r1, .int .i64 r2, .int .i64 r3], .int .i64 i] W fun e w' => e = .returned (.agg #[.int .i64 (nthR r0 r2 i), .int .i64 (nthK r0 r1 r2 i)]) ∧ Below W.heap.size W w') := (show _ from fun W => HN.out W i (by omega) (by omega))
        have hEq := eqC x.r x.k (nthR r0 r2 i) (nthK r0 r1 r2 i)
        by_cases hcell : x.r = nthR r0 r2 i ∧ x.k = nthK r0 r1 r2 i
        · have hh := cut_hit hL.out hCu.out HAi.out hcell
          have hv0 : hitB r0 r1 r2 es vt vn vs vb vc i = sameB x.t x.n x.s x.b x.c vt vn vs vb vc := by unfold hitB smE; rw [hh.1]
          have HV : Hid _ := hv0
          clear hv0
          have HC2 : Hid (Cut r0 r1 es (mm + 1) ((i : Int) + 1)) := hh.2
          rw [decide_eq_true hcell] at hEq
          clear hh hcell
          revert HN1 hEq
          generalize nthR r0 r2 i = nr
          generalize nthK r0 r1 r2 i = nk
          intro HN1 hEq
          go_wp2
          go_region_held3 (fun w' => w'.cell? ⟨w.heap.size, 6, none⟩ = some (.int .i64 r0) ∧ w'.cell? ⟨w.heap.size, 7, none⟩ = some (.int .i64 r1) ∧ w'.cell? ⟨w.heap.size, 8, none⟩ = some (.int .i64 r2) ∧ w'.cell? ⟨w.heap.size, 9, none⟩ = some (.int .i64 r3) ∧ w'.cell? ⟨b, o + mm * 7, none⟩ = some (.int .i64 x.r) ∧ w'.cell? ⟨b, o + mm * 7 + 1, none⟩ = some (.int .i64 x.k)) ((repeat' apply And.intro) <;> (first | (go_keep; done) | (go_simp; done))) (first | (go_at_call 130; refine (HN1.out _).mono ?_; rintro e wn ⟨rfl, hbn⟩; have hBr : Below wr.heap.size wr wn := bup (by with_reducible (repeat' first | assumption | exact Below.refl _ _ | refine Below.drew ?_ | refine bdrewN ?_ _ | refine Below.setCell ?_ (by first | exact Nat.le_refl _ | (simp; done) | (simp; omega) | omega) _ | refine Below.alloc ?_ (by first | exact Nat.le_refl _ | (simp; done) | (simp; omega) | omega) _)) hbn; have hBn : Below w.heap.size w wn := bup hB3 hBr; have zn := hBn.size; have zr := hBr.size; have o0wn : Own wn (w.heap.size) #[.bool m, .int .i64 t0, .int .i64 n0, .string s0, .bool b0, .int .i64 c0', .int .i64 r0, .int .i64 r1, .int .i64 r2, .int .i64 r3, .slice (some ⟨b, o, none⟩) n c] := Own.keep (by with_reducible (repeat' first | assumption | refine Own.drew ?_ | refine Own.drewN ?_ _ | (refine Own.at ?_; first | rfl | (simp; done)) | refine Own.past ?_ _)) hbn; have ca0 := o0wn.cell; have fa0 := o0wn.fro; have la0 := o0wn.lt; have o1wn : Own wn (w.heap.size + 1) #[.int .i64 vt, .int .i64 vn, .string vs, .bool vb, .int .i64 vc] := Own.keep (by with_reducible (repeat' first | assumption | refine Own.drew ?_ | refine Own.drewN ?_ _ | (refine Own.at ?_; first | rfl | (simp; done)) | refine Own.past ?_ _)) hbn; have ca1 := o1wn.cell; have fa1 := o1wn.fro; have la1 := o1wn.lt; have o2wn : Own wn (wr.heap.size) #[.int .i64 0, .int .i64 0, .string ⟨#[]⟩, .bool false, .int .i64 0] := Own.keep (by with_reducible (repeat' first | assumption | refine Own.drew ?_ | refine Own.drewN ?_ _ | (refine Own.at ?_; first | rfl | (simp; done)) | refine Own.past ?_ _)) hbn; have ca2 := o2wn.cell; have fa2 := o2wn.fro; have la2 := o2wn.lt; have ya0 := (hBr.cell (p := ⟨b, o + mm * 7, none⟩) hbw).trans y0; have ya1 := (hBr.cell (p := ⟨b, o + mm * 7 + 1, none⟩) hbw).trans y1; have ya2 := (hBr.cell (p := ⟨b, o + mm * 7 + 2, none⟩) hbw).trans y2; have ya3 := (hBr.cell (p := ⟨b, o + mm * 7 + 3, none⟩) hbw).trans y3; have ya4 := (hBr.cell (p := ⟨b, o + mm * 7 + 4, none⟩) hbw).trans y4; have ya5 := (hBr.cell (p := ⟨b, o + mm * 7 + 5, none⟩) hbw).trans y5; have ya6 := (hBr.cell (p := ⟨b, o + mm * 7 + 6, none⟩) hbw).trans y6))
          go_wp2
          by_cases hc1 : c2 = 1
          · go_region
            have oW2 : Own ((((((wn.setCell ⟨wr.heap.size, 0, none⟩ (.int .i64 x.t)).setCell ⟨wr.heap.size, 1, none⟩ (.int .i64 x.n)).setCell ⟨wr.heap.size, 2, none⟩ (.string x.s)).setCell ⟨wr.heap.size, 3, none⟩ (.bool x.b)).setCell ⟨wr.heap.size, 4, none⟩ (.int .i64 x.c)).drew) wr.heap.size #[.int .i64 x.t, .int .i64 x.n, .string x.s, .bool x.b, .int .i64 x.c] := (own_put5 o2wn).drew
            have oW0 : Own ((((((wn.setCell ⟨wr.heap.size, 0, none⟩ (.int .i64 x.t)).setCell ⟨wr.heap.size, 1, none⟩ (.int .i64 x.n)).setCell ⟨wr.heap.size, 2, none⟩ (.string x.s)).setCell ⟨wr.heap.size, 3, none⟩ (.bool x.b)).setCell ⟨wr.heap.size, 4, none⟩ (.int .i64 x.c)).drew) w.heap.size #[.bool m, .int .i64 t0, .int .i64 n0, .string s0, .bool b0, .int .i64 c0', .int .i64 r0, .int .i64 r1, .int .i64 r2, .int .i64 r3, .slice (some ⟨b, o, none⟩) n c] := (o0wn.of_block (put5_other (by omega))).drew
            have oW1 : Own ((((((wn.setCell ⟨wr.heap.size, 0, none⟩ (.int .i64 x.t)).setCell ⟨wr.heap.size, 1, none⟩ (.int .i64 x.n)).setCell ⟨wr.heap.size, 2, none⟩ (.string x.s)).setCell ⟨wr.heap.size, 3, none⟩ (.bool x.b)).setCell ⟨wr.heap.size, 4, none⟩ (.int .i64 x.c)).drew) (w.heap.size + 1) #[.int .i64 vt, .int .i64 vn, .string vs, .bool vb, .int .i64 vc] := (o1wn.of_block (put5_other (by omega))).drew
            have hBW : Below w.heap.size w ((((((wn.setCell ⟨wr.heap.size, 0, none⟩ (.int .i64 x.t)).setCell ⟨wr.heap.size, 1, none⟩ (.int .i64 x.n)).setCell ⟨wr.heap.size, 2, none⟩ (.string x.s)).setCell ⟨wr.heap.size, 3, none⟩ (.bool x.b)).setCell ⟨wr.heap.size, 4, none⟩ (.int .i64 x.c)).drew) := (below_put5 hBn (by omega) _ _ _ _ _).drew
            revert oW2 oW0 oW1 hBW
            generalize ((((((wn.setCell ⟨wr.heap.size, 0, none⟩ (.int .i64 x.t)).setCell ⟨wr.heap.size, 1, none⟩ (.int .i64 x.n)).setCell ⟨wr.heap.size, 2, none⟩ (.string x.s)).setCell ⟨wr.heap.size, 3, none⟩ (.bool x.b)).setCell ⟨wr.heap.size, 4, none⟩ (.int .i64 x.c)).drew) = wq
            intro oW2 oW0 oW1 hBW
            clear ca0 fa0 la0 ca1 fa1 la1 ca2 fa2 la2 ya0 ya1 ya2 ya3 ya4 ya5 ya6
            have ca0 := oW0.cell
            have fa0 := oW0.fro
            have la0 := oW0.lt
            have ca1 := oW1.cell
            have fa1 := oW1.fro
            have la1 := oW1.lt
            have ca2 := oW2.cell
            have fa2 := oW2.fro
            have la2 := oW2.lt
            cases hsm : sameB x.t x.n x.s x.b x.c vt vn vs vb vc
            · have hs : sameB x.t x.n x.s x.b x.c vt vn vs vb vc = false := hsm
              have HF : Hid (hitB r0 r1 r2 es vt vn vs vb vc i = false) := (show hitB r0 r1 r2 es vt vn vs vb vc i = false from HV.out.trans hsm)
              clear hsm
              go_wp2_with (go_at_call 124; refine (sameV _ _ _ _ _ _ _ _ _ _ _).mono ?_; rintro e ws ⟨rfl, hbs⟩; have hBq : Below wq.heap.size wq ws := bup (by with_reducible (repeat' first | assumption | exact Below.refl _ _ | refine Below.drew ?_ | refine bdrewN ?_ _ | refine Below.setCell ?_ (by first | exact Nat.le_refl _ | (simp; done) | (simp; omega) | omega) _ | refine Below.alloc ?_ (by first | exact Nat.le_refl _ | (simp; done) | (simp; omega) | omega) _)) hbs; have hBs : Below w.heap.size w ws := bup hBW hBq; have o0ws : Own ws w.heap.size #[.bool m, .int .i64 t0, .int .i64 n0, .string s0, .bool b0, .int .i64 c0', .int .i64 r0, .int .i64 r1, .int .i64 r2, .int .i64 r3, .slice (some ⟨b, o, none⟩) n c] := Own.keep oW0 hBq; have o1ws : Own ws (w.heap.size + 1) #[.int .i64 vt, .int .i64 vn, .string vs, .bool vb, .int .i64 vc] := Own.keep oW1 hBq; rw [hs])
              exact ⟨⟨q - 1, 0, i + 1, mm + 1, some ⟨b, o + mm * 7, none⟩, by have := HQ.out; omega, rfl, by go_num, by omega, by omega, (fun _ => by first | (congr 2; omega) | (have := HQ.out; omega)), by omega, HC2, (show Hid _ from no_next hNo.out HF.out), hBs, o0ws, o1ws⟩, by simp [intOf]; omega⟩
            · have hs : sameB x.t x.n x.s x.b x.c vt vn vs vb vc = true := hsm
              have HF : Hid (hitB r0 r1 r2 es vt vn vs vb vc i = true) := (show hitB r0 r1 r2 es vt vn vs vb vc i = true from HV.out.trans hsm)
              clear hsm
              go_wp2_with (go_at_call 124; refine (sameV _ _ _ _ _ _ _ _ _ _ _).mono ?_; rintro e ws ⟨rfl, hbs⟩; have hBq : Below wq.heap.size wq ws := bup (by with_reducible (repeat' first | assumption | exact Below.refl _ _ | refine Below.drew ?_ | refine bdrewN ?_ _ | refine Below.setCell ?_ (by first | exact Nat.le_refl _ | (simp; done) | (simp; omega) | omega) _ | refine Below.alloc ?_ (by first | exact Nat.le_refl _ | (simp; done) | (simp; omega) | omega) _)) hbs; have hBs : Below w.heap.size w ws := bup hBW hBq; have o0ws : Own ws w.heap.size #[.bool m, .int .i64 t0, .int .i64 n0, .string s0, .bool b0, .int .i64 c0', .int .i64 r0, .int .i64 r1, .int .i64 r2, .int .i64 r3, .slice (some ⟨b, o, none⟩) n c] := Own.keep oW0 hBq; have o1ws : Own ws (w.heap.size + 1) #[.int .i64 vt, .int .i64 vn, .string vs, .bool vb, .int .i64 vc] := Own.keep oW1 hBq; rw [hs])
              exact bodyPost_ret (v := .tuple #[.int .i64 i, .bool true]) (by simp [results, Tryz.results128, go_sem]) rfl ⟨⟨i, true, rfl, fst_at (by rw [HAR.out]; exact hlt) HF.out hNo.out⟩, hBs⟩
          · go_region
            have oW2 : Own ((((((wn.setCell ⟨wr.heap.size, 0, none⟩ (.int .i64 x.t)).setCell ⟨wr.heap.size, 1, none⟩ (.int .i64 x.n)).setCell ⟨wr.heap.size, 2, none⟩ (.string x.s)).setCell ⟨wr.heap.size, 3, none⟩ (.bool x.b)).setCell ⟨wr.heap.size, 4, none⟩ (.int .i64 x.c)).drew) wr.heap.size #[.int .i64 x.t, .int .i64 x.n, .string x.s, .bool x.b, .int .i64 x.c] := (own_put5 o2wn).drew
            have oW0 : Own ((((((wn.setCell ⟨wr.heap.size, 0, none⟩ (.int .i64 x.t)).setCell ⟨wr.heap.size, 1, none⟩ (.int .i64 x.n)).setCell ⟨wr.heap.size, 2, none⟩ (.string x.s)).setCell ⟨wr.heap.size, 3, none⟩ (.bool x.b)).setCell ⟨wr.heap.size, 4, none⟩ (.int .i64 x.c)).drew) w.heap.size #[.bool m, .int .i64 t0, .int .i64 n0, .string s0, .bool b0, .int .i64 c0', .int .i64 r0, .int .i64 r1, .int .i64 r2, .int .i64 r3, .slice (some ⟨b, o, none⟩) n c] := (o0wn.of_block (put5_other (by omega))).drew
            have oW1 : Own ((((((wn.setCell ⟨wr.heap.size, 0, none⟩ (.int .i64 x.t)).setCell ⟨wr.heap.size, 1, none⟩ (.int .i64 x.n)).setCell ⟨wr.heap.size, 2, none⟩ (.string x.s)).setCell ⟨wr.heap.size, 3, none⟩ (.bool x.b)).setCell ⟨wr.heap.size, 4, none⟩ (.int .i64 x.c)).drew) (w.heap.size + 1) #[.int .i64 vt, .int .i64 vn, .string vs, .bool vb, .int .i64 vc] := (o1wn.of_block (put5_other (by omega))).drew
            have hBW : Below w.heap.size w ((((((wn.setCell ⟨wr.heap.size, 0, none⟩ (.int .i64 x.t)).setCell ⟨wr.heap.size, 1, none⟩ (.int .i64 x.n)).setCell ⟨wr.heap.size, 2, none⟩ (.string x.s)).setCell ⟨wr.heap.size, 3, none⟩ (.bool x.b)).setCell ⟨wr.heap.size, 4, none⟩ (.int .i64 x.c)).drew) := (below_put5 hBn (by omega) _ _ _ _ _).drew
            revert oW2 oW0 oW1 hBW
            generalize ((((((wn.setCell ⟨wr.heap.size, 0, none⟩ (.int .i64 x.t)).setCell ⟨wr.heap.size, 1, none⟩ (.int .i64 x.n)).setCell ⟨wr.heap.size, 2, none⟩ (.string x.s)).setCell ⟨wr.heap.size, 3, none⟩ (.bool x.b)).setCell ⟨wr.heap.size, 4, none⟩ (.int .i64 x.c)).drew) = wq
            intro oW2 oW0 oW1 hBW
            clear ca0 fa0 la0 ca1 fa1 la1 ca2 fa2 la2 ya0 ya1 ya2 ya3 ya4 ya5 ya6
            have ca0 := oW0.cell
            have fa0 := oW0.fro
            have la0 := oW0.lt
            have ca1 := oW1.cell
            have fa1 := oW1.fro
            have la1 := oW1.lt
            have ca2 := oW2.cell
            have fa2 := oW2.fro
            have la2 := oW2.lt
            cases hsm : sameB x.t x.n x.s x.b x.c vt vn vs vb vc
            · have hs : sameB x.t x.n x.s x.b x.c vt vn vs vb vc = false := hsm
              have HF : Hid (hitB r0 r1 r2 es vt vn vs vb vc i = false) := (show hitB r0 r1 r2 es vt vn vs vb vc i = false from HV.out.trans hsm)
              clear hsm
              go_wp2_with (go_at_call 124; refine (sameV _ _ _ _ _ _ _ _ _ _ _).mono ?_; rintro e ws ⟨rfl, hbs⟩; have hBq : Below wq.heap.size wq ws := bup (by with_reducible (repeat' first | assumption | exact Below.refl _ _ | refine Below.drew ?_ | refine bdrewN ?_ _ | refine Below.setCell ?_ (by first | exact Nat.le_refl _ | (simp; done) | (simp; omega) | omega) _ | refine Below.alloc ?_ (by first | exact Nat.le_refl _ | (simp; done) | (simp; omega) | omega) _)) hbs; have hBs : Below w.heap.size w ws := bup hBW hBq; have o0ws : Own ws w.heap.size #[.bool m, .int .i64 t0, .int .i64 n0, .string s0, .bool b0, .int .i64 c0', .int .i64 r0, .int .i64 r1, .int .i64 r2, .int .i64 r3, .slice (some ⟨b, o, none⟩) n c] := Own.keep oW0 hBq; have o1ws : Own ws (w.heap.size + 1) #[.int .i64 vt, .int .i64 vn, .string vs, .bool vb, .int .i64 vc] := Own.keep oW1 hBq; rw [hs])
              exact ⟨⟨q - 1, (c2 - 1), i + 1, mm + 1, some ⟨b, o + mm * 7 + 7, none⟩, by have := HQ.out; omega, rfl, by go_num, by omega, by omega, (fun _ => by first | (congr 2; omega) | (have := HQ.out; omega)), by omega, HC2, (show Hid _ from no_next hNo.out HF.out), hBs, o0ws, o1ws⟩, by simp [intOf]; omega⟩
            · have hs : sameB x.t x.n x.s x.b x.c vt vn vs vb vc = true := hsm
              have HF : Hid (hitB r0 r1 r2 es vt vn vs vb vc i = true) := (show hitB r0 r1 r2 es vt vn vs vb vc i = true from HV.out.trans hsm)
              clear hsm
              go_wp2_with (go_at_call 124; refine (sameV _ _ _ _ _ _ _ _ _ _ _).mono ?_; rintro e ws ⟨rfl, hbs⟩; have hBq : Below wq.heap.size wq ws := bup (by with_reducible (repeat' first | assumption | exact Below.refl _ _ | refine Below.drew ?_ | refine bdrewN ?_ _ | refine Below.setCell ?_ (by first | exact Nat.le_refl _ | (simp; done) | (simp; omega) | omega) _ | refine Below.alloc ?_ (by first | exact Nat.le_refl _ | (simp; done) | (simp; omega) | omega) _)) hbs; have hBs : Below w.heap.size w ws := bup hBW hBq; have o0ws : Own ws w.heap.size #[.bool m, .int .i64 t0, .int .i64 n0, .string s0, .bool b0, .int .i64 c0', .int .i64 r0, .int .i64 r1, .int .i64 r2, .int .i64 r3, .slice (some ⟨b, o, none⟩) n c] := Own.keep oW0 hBq; have o1ws : Own ws (w.heap.size + 1) #[.int .i64 vt, .int .i64 vn, .string vs, .bool vb, .int .i64 vc] := Own.keep oW1 hBq; rw [hs])
              exact bodyPost_ret (v := .tuple #[.int .i64 i, .bool true]) (by simp [results, Tryz.results128, go_sem]) rfl ⟨⟨i, true, rfl, fst_at (by rw [HAR.out]; exact hlt) HF.out hNo.out⟩, hBs⟩
        · have hh := cut_miss hL.out hCu.out HAi.out hcell
          have hv0 : hitB r0 r1 r2 es vt vn vs vb vc i = sameB 0 0 ⟨#[]⟩ false 0 vt vn vs vb vc := by unfold hitB smE; rw [hh.1]; rfl
          have HV : Hid _ := hv0
          have HC2 : Hid (Cut r0 r1 es mm ((i : Int) + 1)) := hh.2
          rw [decide_eq_false hcell] at hEq
          clear hh hcell hv0
          revert HN1 hEq
          generalize nthR r0 r2 i = nr
          generalize nthK r0 r1 r2 i = nk
          intro HN1 hEq
          cases hsm : sameB 0 0 ⟨#[]⟩ false 0 vt vn vs vb vc
          · have hs : sameB 0 0 ⟨#[]⟩ false 0 vt vn vs vb vc = false := hsm
            have HF : Hid (hitB r0 r1 r2 es vt vn vs vb vc i = false) := (show hitB r0 r1 r2 es vt vn vs vb vc i = false from HV.out.trans hsm)
            clear hsm
            go_wp2
            go_region_held3 (fun w' => w'.cell? ⟨w.heap.size, 6, none⟩ = some (.int .i64 r0) ∧ w'.cell? ⟨w.heap.size, 7, none⟩ = some (.int .i64 r1) ∧ w'.cell? ⟨w.heap.size, 8, none⟩ = some (.int .i64 r2) ∧ w'.cell? ⟨w.heap.size, 9, none⟩ = some (.int .i64 r3) ∧ w'.cell? ⟨b, o + mm * 7, none⟩ = some (.int .i64 x.r) ∧ w'.cell? ⟨b, o + mm * 7 + 1, none⟩ = some (.int .i64 x.k)) ((repeat' apply And.intro) <;> (first | (go_keep; done) | (go_simp; done))) (first | (go_at_call 130; refine (HN1.out _).mono ?_; rintro e wn ⟨rfl, hbn⟩; have hBr : Below wr.heap.size wr wn := bup (by with_reducible (repeat' first | assumption | exact Below.refl _ _ | refine Below.drew ?_ | refine bdrewN ?_ _ | refine Below.setCell ?_ (by first | exact Nat.le_refl _ | (simp; done) | (simp; omega) | omega) _ | refine Below.alloc ?_ (by first | exact Nat.le_refl _ | (simp; done) | (simp; omega) | omega) _)) hbn; have hBn : Below w.heap.size w wn := bup hB3 hBr; have zn := hBn.size; have zr := hBr.size; have o0wn : Own wn (w.heap.size) #[.bool m, .int .i64 t0, .int .i64 n0, .string s0, .bool b0, .int .i64 c0', .int .i64 r0, .int .i64 r1, .int .i64 r2, .int .i64 r3, .slice (some ⟨b, o, none⟩) n c] := Own.keep (by with_reducible (repeat' first | assumption | refine Own.drew ?_ | refine Own.drewN ?_ _ | (refine Own.at ?_; first | rfl | (simp; done)) | refine Own.past ?_ _)) hbn; have ca0 := o0wn.cell; have fa0 := o0wn.fro; have la0 := o0wn.lt; have o1wn : Own wn (w.heap.size + 1) #[.int .i64 vt, .int .i64 vn, .string vs, .bool vb, .int .i64 vc] := Own.keep (by with_reducible (repeat' first | assumption | refine Own.drew ?_ | refine Own.drewN ?_ _ | (refine Own.at ?_; first | rfl | (simp; done)) | refine Own.past ?_ _)) hbn; have ca1 := o1wn.cell; have fa1 := o1wn.fro; have la1 := o1wn.lt; have o2wn : Own wn (wr.heap.size) #[.int .i64 0, .int .i64 0, .string ⟨#[]⟩, .bool false, .int .i64 0] := Own.keep (by with_reducible (repeat' first | assumption | refine Own.drew ?_ | refine Own.drewN ?_ _ | (refine Own.at ?_; first | rfl | (simp; done)) | refine Own.past ?_ _)) hbn; have ca2 := o2wn.cell; have fa2 := o2wn.fro; have la2 := o2wn.lt; have ya0 := (hBr.cell (p := ⟨b, o + mm * 7, none⟩) hbw).trans y0; have ya1 := (hBr.cell (p := ⟨b, o + mm * 7 + 1, none⟩) hbw).trans y1; have ya2 := (hBr.cell (p := ⟨b, o + mm * 7 + 2, none⟩) hbw).trans y2; have ya3 := (hBr.cell (p := ⟨b, o + mm * 7 + 3, none⟩) hbw).trans y3; have ya4 := (hBr.cell (p := ⟨b, o + mm * 7 + 4, none⟩) hbw).trans y4; have ya5 := (hBr.cell (p := ⟨b, o + mm * 7 + 5, none⟩) hbw).trans y5; have ya6 := (hBr.cell (p := ⟨b, o + mm * 7 + 6, none⟩) hbw).trans y6))
            go_wp2_with (go_at_call 124; refine (sameV _ _ _ _ _ _ _ _ _ _ _).mono ?_; rintro e ws ⟨rfl, hbs⟩; have hBq : Below wn.heap.size wn ws := bup (by with_reducible (repeat' first | assumption | exact Below.refl _ _ | refine Below.drew ?_ | refine bdrewN ?_ _ | refine Below.setCell ?_ (by first | exact Nat.le_refl _ | (simp; done) | (simp; omega) | omega) _ | refine Below.alloc ?_ (by first | exact Nat.le_refl _ | (simp; done) | (simp; omega) | omega) _)) hbs; have hBs : Below w.heap.size w ws := bup hBn hBq; have o0ws : Own ws w.heap.size #[.bool m, .int .i64 t0, .int .i64 n0, .string s0, .bool b0, .int .i64 c0', .int .i64 r0, .int .i64 r1, .int .i64 r2, .int .i64 r3, .slice (some ⟨b, o, none⟩) n c] := Own.keep o0wn hBq; have o1ws : Own ws (w.heap.size + 1) #[.int .i64 vt, .int .i64 vn, .string vs, .bool vb, .int .i64 vc] := Own.keep o1wn hBq; rw [hs])
            exact ⟨⟨q, c2, i + 1, mm, some ⟨b, o + mm * 7, none⟩, by have := HQ.out; omega, rfl, by go_num, by omega, by omega, (fun _ => rfl), by omega, HC2, (show Hid _ from no_next hNo.out HF.out), hBs, o0ws, o1ws⟩, by simp [intOf]; omega⟩
          · have hs : sameB 0 0 ⟨#[]⟩ false 0 vt vn vs vb vc = true := hsm
            have HF : Hid (hitB r0 r1 r2 es vt vn vs vb vc i = true) := (show hitB r0 r1 r2 es vt vn vs vb vc i = true from HV.out.trans hsm)
            clear hsm
            go_wp2
            go_region_held3 (fun w' => w'.cell? ⟨w.heap.size, 6, none⟩ = some (.int .i64 r0) ∧ w'.cell? ⟨w.heap.size, 7, none⟩ = some (.int .i64 r1) ∧ w'.cell? ⟨w.heap.size, 8, none⟩ = some (.int .i64 r2) ∧ w'.cell? ⟨w.heap.size, 9, none⟩ = some (.int .i64 r3) ∧ w'.cell? ⟨b, o + mm * 7, none⟩ = some (.int .i64 x.r) ∧ w'.cell? ⟨b, o + mm * 7 + 1, none⟩ = some (.int .i64 x.k)) ((repeat' apply And.intro) <;> (first | (go_keep; done) | (go_simp; done))) (first | (go_at_call 130; refine (HN1.out _).mono ?_; rintro e wn ⟨rfl, hbn⟩; have hBr : Below wr.heap.size wr wn := bup (by with_reducible (repeat' first | assumption | exact Below.refl _ _ | refine Below.drew ?_ | refine bdrewN ?_ _ | refine Below.setCell ?_ (by first | exact Nat.le_refl _ | (simp; done) | (simp; omega) | omega) _ | refine Below.alloc ?_ (by first | exact Nat.le_refl _ | (simp; done) | (simp; omega) | omega) _)) hbn; have hBn : Below w.heap.size w wn := bup hB3 hBr; have zn := hBn.size; have zr := hBr.size; have o0wn : Own wn (w.heap.size) #[.bool m, .int .i64 t0, .int .i64 n0, .string s0, .bool b0, .int .i64 c0', .int .i64 r0, .int .i64 r1, .int .i64 r2, .int .i64 r3, .slice (some ⟨b, o, none⟩) n c] := Own.keep (by with_reducible (repeat' first | assumption | refine Own.drew ?_ | refine Own.drewN ?_ _ | (refine Own.at ?_; first | rfl | (simp; done)) | refine Own.past ?_ _)) hbn; have ca0 := o0wn.cell; have fa0 := o0wn.fro; have la0 := o0wn.lt; have o1wn : Own wn (w.heap.size + 1) #[.int .i64 vt, .int .i64 vn, .string vs, .bool vb, .int .i64 vc] := Own.keep (by with_reducible (repeat' first | assumption | refine Own.drew ?_ | refine Own.drewN ?_ _ | (refine Own.at ?_; first | rfl | (simp; done)) | refine Own.past ?_ _)) hbn; have ca1 := o1wn.cell; have fa1 := o1wn.fro; have la1 := o1wn.lt; have o2wn : Own wn (wr.heap.size) #[.int .i64 0, .int .i64 0, .string ⟨#[]⟩, .bool false, .int .i64 0] := Own.keep (by with_reducible (repeat' first | assumption | refine Own.drew ?_ | refine Own.drewN ?_ _ | (refine Own.at ?_; first | rfl | (simp; done)) | refine Own.past ?_ _)) hbn; have ca2 := o2wn.cell; have fa2 := o2wn.fro; have la2 := o2wn.lt; have ya0 := (hBr.cell (p := ⟨b, o + mm * 7, none⟩) hbw).trans y0; have ya1 := (hBr.cell (p := ⟨b, o + mm * 7 + 1, none⟩) hbw).trans y1; have ya2 := (hBr.cell (p := ⟨b, o + mm * 7 + 2, none⟩) hbw).trans y2; have ya3 := (hBr.cell (p := ⟨b, o + mm * 7 + 3, none⟩) hbw).trans y3; have ya4 := (hBr.cell (p := ⟨b, o + mm * 7 + 4, none⟩) hbw).trans y4; have ya5 := (hBr.cell (p := ⟨b, o + mm * 7 + 5, none⟩) hbw).trans y5; have ya6 := (hBr.cell (p := ⟨b, o + mm * 7 + 6, none⟩) hbw).trans y6))
            go_wp2_with (go_at_call 124; refine (sameV _ _ _ _ _ _ _ _ _ _ _).mono ?_; rintro e ws ⟨rfl, hbs⟩; have hBq : Below wn.heap.size wn ws := bup (by with_reducible (repeat' first | assumption | exact Below.refl _ _ | refine Below.drew ?_ | refine bdrewN ?_ _ | refine Below.setCell ?_ (by first | exact Nat.le_refl _ | (simp; done) | (simp; omega) | omega) _ | refine Below.alloc ?_ (by first | exact Nat.le_refl _ | (simp; done) | (simp; omega) | omega) _)) hbs; have hBs : Below w.heap.size w ws := bup hBn hBq; have o0ws : Own ws w.heap.size #[.bool m, .int .i64 t0, .int .i64 n0, .string s0, .bool b0, .int .i64 c0', .int .i64 r0, .int .i64 r1, .int .i64 r2, .int .i64 r3, .slice (some ⟨b, o, none⟩) n c] := Own.keep o0wn hBq; have o1ws : Own ws (w.heap.size + 1) #[.int .i64 vt, .int .i64 vn, .string vs, .bool vb, .int .i64 vc] := Own.keep o1wn hBq; rw [hs])
            exact bodyPost_ret (v := .tuple #[.int .i64 i, .bool true]) (by simp [results, Tryz.results128, go_sem]) rfl ⟨⟨i, true, rfl, fst_at (by rw [HAR.out]; exact hlt) HF.out hNo.out⟩, hBs⟩
      · have hh := cut_end hL.out hCu.out (by rw [HL.out]; omega)
        have hv0 : hitB r0 r1 r2 es vt vn vs vb vc i = sameB 0 0 ⟨#[]⟩ false 0 vt vn vs vb vc := by unfold hitB smE; rw [hh.1]; rfl
        have HV : Hid _ := hv0
        have HC2 : Hid (Cut r0 r1 es mm ((i : Int) + 1)) := hh.2
        have q0 : q = 0 := by omega
        have HM : Hid (mm = n) := (show mm = n from by omega)
        clear hh hv0 hq hp2
        subst q0
        cases hsm : sameB 0 0 ⟨#[]⟩ false 0 vt vn vs vb vc
        · have hs : sameB 0 0 ⟨#[]⟩ false 0 vt vn vs vb vc = false := hsm
          have HF : Hid (hitB r0 r1 r2 es vt vn vs vb vc i = false) := (show hitB r0 r1 r2 es vt vn vs vb vc i = false from HV.out.trans hsm)
          clear hsm
          go_wp2
          refine wp_region_held_drew (S := fun w' => w'.cell? ⟨w.heap.size, 6, none⟩ = some (.int .i64 r0)) (by kernel_rfl) (by (try dsimp only); ((repeat' apply And.intro) <;> (first | (go_keep; done) | (go_simp; done)))) (fun hHeld => ?_)
          refine wpAnyH_take (i := 0) (v := .slice p2 0 c2) rfl (by kernel_rfl) (by kernel_rfl) (by kernel_rfl) (fun _ _ _ h => h) (Or.inl ⟨by first | rfl | kernel_rfl, by intro wz hSw; (try dsimp only at hSw); go_simp⟩) (by assumption) ?_
          (try simp only [Act.put, List.getElem_toArray, List.getElem_cons_succ, List.getElem_cons_zero, List.setIfInBounds_toArray, List.set_cons_zero, List.set_cons_succ])
          refine wpAnyH_take (i := 1) (v := .int .i64 0) rfl (by kernel_rfl) (by kernel_rfl) (by kernel_rfl) (fun _ _ _ h => h) (Or.inl ⟨by first | rfl | kernel_rfl, by intro wz hSw; (try dsimp only at hSw); go_simp⟩) (by assumption) ?_
          (try simp only [Act.put, List.getElem_toArray, List.getElem_cons_succ, List.getElem_cons_zero, List.setIfInBounds_toArray, List.set_cons_zero, List.set_cons_succ])
          refine wpAnyH_take (i := 2) (v := .bool false) rfl (by kernel_rfl) (by kernel_rfl) (by kernel_rfl) (fun _ _ _ h => h) (Or.inl ⟨by first | rfl | kernel_rfl, by intro wz hSw; (try dsimp only at hSw); go_simp⟩) (by assumption) ?_
          (try simp only [Act.put, List.getElem_toArray, List.getElem_cons_succ, List.getElem_cons_zero, List.setIfInBounds_toArray, List.set_cons_zero, List.set_cons_succ])
          refine wpAnyH_take (i := 3) (v := .bool false) rfl (by kernel_rfl) (by kernel_rfl) (by kernel_rfl) (fun _ _ _ h => h) (Or.inl ⟨by first | rfl | kernel_rfl, by intro wz hSw; (try dsimp only at hSw); go_simp⟩) (by assumption) ?_
          (try simp only [Act.put, List.getElem_toArray, List.getElem_cons_succ, List.getElem_cons_zero, List.setIfInBounds_toArray, List.set_cons_zero, List.set_cons_succ])
          refine wpAnyH_take (i := 4) (v := undef) rfl (by kernel_rfl) (by kernel_rfl) (by kernel_rfl) (fun _ _ _ h => h) (Or.inr ⟨by kernel_rfl, rfl⟩) (by assumption) ?_
          (try simp only [Act.put, List.getElem_toArray, List.getElem_cons_succ, List.getElem_cons_zero, List.setIfInBounds_toArray, List.set_cons_zero, List.set_cons_succ])
          refine wpAnyH_take (i := 5) (v := undef) rfl (by kernel_rfl) (by kernel_rfl) (by kernel_rfl) (fun _ _ _ h => h) (Or.inr ⟨by kernel_rfl, rfl⟩) (by assumption) ?_
          (try simp only [Act.put, List.getElem_toArray, List.getElem_cons_succ, List.getElem_cons_zero, List.setIfInBounds_toArray, List.set_cons_zero, List.set_cons_succ])
          refine wpAnyH_take (i := 6) (v := undef) rfl (by kernel_rfl) (by kernel_rfl) (by kernel_rfl) (fun _ _ _ h => h) (Or.inr ⟨by kernel_rfl, rfl⟩) (by assumption) ?_
          (try simp only [Act.put, List.getElem_toArray, List.getElem_cons_succ, List.getElem_cons_zero, List.setIfInBounds_toArray, List.set_cons_zero, List.set_cons_succ])
          refine wpAnyH_take (i := 7) (v := undef) rfl (by kernel_rfl) (by kernel_rfl) (by kernel_rfl) (fun _ _ _ h => h) (Or.inr ⟨by kernel_rfl, rfl⟩) (by assumption) ?_
          (try simp only [Act.put, List.getElem_toArray, List.getElem_cons_succ, List.getElem_cons_zero, List.setIfInBounds_toArray, List.set_cons_zero, List.set_cons_succ])
          refine wpAnyH_take (i := 8) (v := undef) rfl (by kernel_rfl) (by kernel_rfl) (by kernel_rfl) (fun _ _ _ h => h) (Or.inr ⟨by kernel_rfl, rfl⟩) (by assumption) ?_
          (try simp only [Act.put, List.getElem_toArray, List.getElem_cons_succ, List.getElem_cons_zero, List.setIfInBounds_toArray, List.set_cons_zero, List.set_cons_succ])
          refine wpAnyH_take (i := 9) (v := undef) rfl (by kernel_rfl) (by kernel_rfl) (by kernel_rfl) (fun _ _ _ h => h) (Or.inr ⟨by kernel_rfl, rfl⟩) (by assumption) ?_
          (try simp only [Act.put, List.getElem_toArray, List.getElem_cons_succ, List.getElem_cons_zero, List.setIfInBounds_toArray, List.set_cons_zero, List.set_cons_succ])
          refine wpAnyH_take (i := 10) (v := undef) rfl (by kernel_rfl) (by kernel_rfl) (by kernel_rfl) (fun _ _ _ h => h) (Or.inr ⟨by kernel_rfl, rfl⟩) (by assumption) ?_
          (try simp only [Act.put, List.getElem_toArray, List.getElem_cons_succ, List.getElem_cons_zero, List.setIfInBounds_toArray, List.set_cons_zero, List.set_cons_succ])
          refine wpAnyH_take (i := 11) (v := undef) rfl (by kernel_rfl) (by kernel_rfl) (by kernel_rfl) (fun _ _ _ h => h) (Or.inr ⟨by kernel_rfl, rfl⟩) (by assumption) ?_
          (try simp only [Act.put, List.getElem_toArray, List.getElem_cons_succ, List.getElem_cons_zero, List.setIfInBounds_toArray, List.set_cons_zero, List.set_cons_succ])
          refine wpAnyH_take (i := 12) (v := undef) rfl (by kernel_rfl) (by kernel_rfl) (by kernel_rfl) (fun _ _ _ h => h) (Or.inr ⟨by kernel_rfl, rfl⟩) (by assumption) ?_
          (try simp only [Act.put, List.getElem_toArray, List.getElem_cons_succ, List.getElem_cons_zero, List.setIfInBounds_toArray, List.set_cons_zero, List.set_cons_succ])
          refine wpAnyH_take (i := 13) (v := .bool false) rfl (by kernel_rfl) (by kernel_rfl) (by kernel_rfl) (fun _ _ _ h => h) (Or.inl ⟨by first | rfl | kernel_rfl, by intro wz hSw; (try dsimp only at hSw); go_simp⟩) (by assumption) ?_
          (try simp only [Act.put, List.getElem_toArray, List.getElem_cons_succ, List.getElem_cons_zero, List.setIfInBounds_toArray, List.set_cons_zero, List.set_cons_succ])
          refine wpAnyH_done (by kernel_rfl) ?_ _
          go_wp2_with (go_at_call 124; refine (sameV _ _ _ _ _ _ _ _ _ _ _).mono ?_; rintro e ws ⟨rfl, hbs⟩; have hBq : Below wr.heap.size wr ws := bup (by with_reducible (repeat' first | assumption | exact Below.refl _ _ | refine Below.drew ?_ | refine bdrewN ?_ _ | refine Below.setCell ?_ (by first | exact Nat.le_refl _ | (simp; done) | (simp; omega) | omega) _ | refine Below.alloc ?_ (by first | exact Nat.le_refl _ | (simp; done) | (simp; omega) | omega) _)) hbs; have hBs : Below w.heap.size w ws := bup hB3 hBq; have o0ws : Own ws w.heap.size #[.bool m, .int .i64 t0, .int .i64 n0, .string s0, .bool b0, .int .i64 c0', .int .i64 r0, .int .i64 r1, .int .i64 r2, .int .i64 r3, .slice (some ⟨b, o, none⟩) n c] := Own.keep o3 hBq; have o1ws : Own ws (w.heap.size + 1) #[.int .i64 vt, .int .i64 vn, .string vs, .bool vb, .int .i64 vc] := Own.keep o4 hBq; rw [hs])
          exact ⟨⟨0, c2, i + 1, mm, p2, by have := HM.out; omega, rfl, by go_num, by omega, by omega, (fun h => absurd h (by have := HM.out; omega)), by omega, HC2, (show Hid _ from no_next hNo.out HF.out), hBs, o0ws, o1ws⟩, by simp [intOf]; omega⟩
        · have hs : sameB 0 0 ⟨#[]⟩ false 0 vt vn vs vb vc = true := hsm
          have HF : Hid (hitB r0 r1 r2 es vt vn vs vb vc i = true) := (show hitB r0 r1 r2 es vt vn vs vb vc i = true from HV.out.trans hsm)
          clear hsm
          go_wp2
          refine wp_region_held_drew (S := fun w' => w'.cell? ⟨w.heap.size, 6, none⟩ = some (.int .i64 r0)) (by kernel_rfl) (by (try dsimp only); ((repeat' apply And.intro) <;> (first | (go_keep; done) | (go_simp; done)))) (fun hHeld => ?_)
          refine wpAnyH_take (i := 0) (v := .slice p2 0 c2) rfl (by kernel_rfl) (by kernel_rfl) (by kernel_rfl) (fun _ _ _ h => h) (Or.inl ⟨by first | rfl | kernel_rfl, by intro wz hSw; (try dsimp only at hSw); go_simp⟩) (by assumption) ?_
          (try simp only [Act.put, List.getElem_toArray, List.getElem_cons_succ, List.getElem_cons_zero, List.setIfInBounds_toArray, List.set_cons_zero, List.set_cons_succ])
          refine wpAnyH_take (i := 1) (v := .int .i64 0) rfl (by kernel_rfl) (by kernel_rfl) (by kernel_rfl) (fun _ _ _ h => h) (Or.inl ⟨by first | rfl | kernel_rfl, by intro wz hSw; (try dsimp only at hSw); go_simp⟩) (by assumption) ?_
          (try simp only [Act.put, List.getElem_toArray, List.getElem_cons_succ, List.getElem_cons_zero, List.setIfInBounds_toArray, List.set_cons_zero, List.set_cons_succ])
          refine wpAnyH_take (i := 2) (v := .bool false) rfl (by kernel_rfl) (by kernel_rfl) (by kernel_rfl) (fun _ _ _ h => h) (Or.inl ⟨by first | rfl | kernel_rfl, by intro wz hSw; (try dsimp only at hSw); go_simp⟩) (by assumption) ?_
          (try simp only [Act.put, List.getElem_toArray, List.getElem_cons_succ, List.getElem_cons_zero, List.setIfInBounds_toArray, List.set_cons_zero, List.set_cons_succ])
          refine wpAnyH_take (i := 3) (v := .bool false) rfl (by kernel_rfl) (by kernel_rfl) (by kernel_rfl) (fun _ _ _ h => h) (Or.inl ⟨by first | rfl | kernel_rfl, by intro wz hSw; (try dsimp only at hSw); go_simp⟩) (by assumption) ?_
          (try simp only [Act.put, List.getElem_toArray, List.getElem_cons_succ, List.getElem_cons_zero, List.setIfInBounds_toArray, List.set_cons_zero, List.set_cons_succ])
          refine wpAnyH_take (i := 4) (v := undef) rfl (by kernel_rfl) (by kernel_rfl) (by kernel_rfl) (fun _ _ _ h => h) (Or.inr ⟨by kernel_rfl, rfl⟩) (by assumption) ?_
          (try simp only [Act.put, List.getElem_toArray, List.getElem_cons_succ, List.getElem_cons_zero, List.setIfInBounds_toArray, List.set_cons_zero, List.set_cons_succ])
          refine wpAnyH_take (i := 5) (v := undef) rfl (by kernel_rfl) (by kernel_rfl) (by kernel_rfl) (fun _ _ _ h => h) (Or.inr ⟨by kernel_rfl, rfl⟩) (by assumption) ?_
          (try simp only [Act.put, List.getElem_toArray, List.getElem_cons_succ, List.getElem_cons_zero, List.setIfInBounds_toArray, List.set_cons_zero, List.set_cons_succ])
          refine wpAnyH_take (i := 6) (v := undef) rfl (by kernel_rfl) (by kernel_rfl) (by kernel_rfl) (fun _ _ _ h => h) (Or.inr ⟨by kernel_rfl, rfl⟩) (by assumption) ?_
          (try simp only [Act.put, List.getElem_toArray, List.getElem_cons_succ, List.getElem_cons_zero, List.setIfInBounds_toArray, List.set_cons_zero, List.set_cons_succ])
          refine wpAnyH_take (i := 7) (v := undef) rfl (by kernel_rfl) (by kernel_rfl) (by kernel_rfl) (fun _ _ _ h => h) (Or.inr ⟨by kernel_rfl, rfl⟩) (by assumption) ?_
          (try simp only [Act.put, List.getElem_toArray, List.getElem_cons_succ, List.getElem_cons_zero, List.setIfInBounds_toArray, List.set_cons_zero, List.set_cons_succ])
          refine wpAnyH_take (i := 8) (v := undef) rfl (by kernel_rfl) (by kernel_rfl) (by kernel_rfl) (fun _ _ _ h => h) (Or.inr ⟨by kernel_rfl, rfl⟩) (by assumption) ?_
          (try simp only [Act.put, List.getElem_toArray, List.getElem_cons_succ, List.getElem_cons_zero, List.setIfInBounds_toArray, List.set_cons_zero, List.set_cons_succ])
          refine wpAnyH_take (i := 9) (v := undef) rfl (by kernel_rfl) (by kernel_rfl) (by kernel_rfl) (fun _ _ _ h => h) (Or.inr ⟨by kernel_rfl, rfl⟩) (by assumption) ?_
          (try simp only [Act.put, List.getElem_toArray, List.getElem_cons_succ, List.getElem_cons_zero, List.setIfInBounds_toArray, List.set_cons_zero, List.set_cons_succ])
          refine wpAnyH_take (i := 10) (v := undef) rfl (by kernel_rfl) (by kernel_rfl) (by kernel_rfl) (fun _ _ _ h => h) (Or.inr ⟨by kernel_rfl, rfl⟩) (by assumption) ?_
          (try simp only [Act.put, List.getElem_toArray, List.getElem_cons_succ, List.getElem_cons_zero, List.setIfInBounds_toArray, List.set_cons_zero, List.set_cons_succ])
          refine wpAnyH_take (i := 11) (v := undef) rfl (by kernel_rfl) (by kernel_rfl) (by kernel_rfl) (fun _ _ _ h => h) (Or.inr ⟨by kernel_rfl, rfl⟩) (by assumption) ?_
          (try simp only [Act.put, List.getElem_toArray, List.getElem_cons_succ, List.getElem_cons_zero, List.setIfInBounds_toArray, List.set_cons_zero, List.set_cons_succ])
          refine wpAnyH_take (i := 12) (v := undef) rfl (by kernel_rfl) (by kernel_rfl) (by kernel_rfl) (fun _ _ _ h => h) (Or.inr ⟨by kernel_rfl, rfl⟩) (by assumption) ?_
          (try simp only [Act.put, List.getElem_toArray, List.getElem_cons_succ, List.getElem_cons_zero, List.setIfInBounds_toArray, List.set_cons_zero, List.set_cons_succ])
          refine wpAnyH_take (i := 13) (v := .bool false) rfl (by kernel_rfl) (by kernel_rfl) (by kernel_rfl) (fun _ _ _ h => h) (Or.inl ⟨by first | rfl | kernel_rfl, by intro wz hSw; (try dsimp only at hSw); go_simp⟩) (by assumption) ?_
          (try simp only [Act.put, List.getElem_toArray, List.getElem_cons_succ, List.getElem_cons_zero, List.setIfInBounds_toArray, List.set_cons_zero, List.set_cons_succ])
          refine wpAnyH_done (by kernel_rfl) ?_ _
          go_wp2_with (go_at_call 124; refine (sameV _ _ _ _ _ _ _ _ _ _ _).mono ?_; rintro e ws ⟨rfl, hbs⟩; have hBq : Below wr.heap.size wr ws := bup (by with_reducible (repeat' first | assumption | exact Below.refl _ _ | refine Below.drew ?_ | refine bdrewN ?_ _ | refine Below.setCell ?_ (by first | exact Nat.le_refl _ | (simp; done) | (simp; omega) | omega) _ | refine Below.alloc ?_ (by first | exact Nat.le_refl _ | (simp; done) | (simp; omega) | omega) _)) hbs; have hBs : Below w.heap.size w ws := bup hB3 hBq; have o0ws : Own ws w.heap.size #[.bool m, .int .i64 t0, .int .i64 n0, .string s0, .bool b0, .int .i64 c0', .int .i64 r0, .int .i64 r1, .int .i64 r2, .int .i64 r3, .slice (some ⟨b, o, none⟩) n c] := Own.keep o3 hBq; have o1ws : Own ws (w.heap.size + 1) #[.int .i64 vt, .int .i64 vn, .string vs, .bool vb, .int .i64 vc] := Own.keep o4 hBq; rw [hs])
          exact bodyPost_ret (v := .tuple #[.int .i64 i, .bool true]) (by simp [results, Tryz.results128, go_sem]) rfl ⟨⟨i, true, rfl, fst_at (by rw [HAR.out]; exact hlt) HF.out hNo.out⟩, hBs⟩
    · have hfi : FstP r0 r1 r2 r3 es vt vn vs vb vc 0 false := ⟨(fun h => nomatch h), (fun _ p hp => hNo.out p (by have := HAR.out; omega))⟩
      have HFi : Hid (FstP r0 r1 r2 r3 es vt vn vs vb vc 0 false) := hfi
      clear hfi
      go_wp2
      exact bodyPost_ret (v := .tuple #[.int .i64 0, .bool false]) (by simp [results, Tryz.results128, go_sem]) rfl ⟨⟨0, false, rfl, HFi.out⟩, by with_reducible (repeat' first | assumption | exact Below.refl _ _ | refine Below.drew ?_ | refine bdrewN ?_ _ | refine Below.setCell ?_ (by first | exact Nat.le_refl _ | (simp; done) | (simp; omega) | omega) _ | refine Below.alloc ?_ (by first | exact Nat.le_refl _ | (simp; done) | (simp; omega) | omega) _)⟩
end Go.Proofs.YtcgcnpcimfaecaaGreatDoor
namespace Go.Proofs.YtcgcnpcimfaecaaGreatDoor
open Go.RowKit
set_option linter.all false
set_option maxRecDepth 100000 in
set_option maxHeartbeats 2000000 in
theorem indexed_in (w : World) (ab ao an ac ub uo un uc : Nat) (x : Int) (a : Ag) (es : List En) (i j : Int) (hab : ab < w.heap.size) (han : 0 < an) (hac : an ≤ ac) (HA : ∀ j, j < 11 → w.cell? ⟨ab, ao + j, none⟩ = (Ag.cells a)[j]?) (hub : ub < w.heap.size) (hun : 1 < un) (huc : un ≤ uc) (wu0 : w.cell? ⟨ub, uo, none⟩ = some (.int .i64 i)) (wu1 : w.cell? ⟨ub, uo + 1, none⟩ = some (.int .i64 j)) (hE : Hid (AgE w (a, es))) (hS : Hid (OrdE es)) (h1 : 0 ≤ a.r0) (h2 : a.r0 ≤ a.r2) (h3 : a.r2 ≤ 1048576) (h4 : 0 ≤ a.r1) (h5 : a.r1 ≤ a.r3) (h6 : a.r3 ≤ 1048576) (hi1 : 1 ≤ i) (hi2 : i ≤ a.r2 - a.r0 + 1) (hj1 : 1 ≤ j) (hj2 : j ≤ a.r3 - a.r1 + 1) (hsz : Hid ((atE es (a.r0 + i - 1) (a.r1 + j - 1)).s.size ≤ 281474976710656)) :
    Calls Tryz.prog 92 #[.agg #[.slice (some ⟨ab, ao, none⟩) an ac, .slice (some ⟨ub, uo, none⟩) un uc, .int .i64 x]] w fun e w' => e = .returned (.agg #[.int .i64 (atE es (a.r0 + i - 1) (a.r1 + j - 1)).t, .int .i64 (atE es (a.r0 + i - 1) (a.r1 + j - 1)).n, .string (atE es (a.r0 + i - 1) (a.r1 + j - 1)).s, .bool (atE es (a.r0 + i - 1) (a.r1 + j - 1)).b, .int .i64 (atE es (a.r0 + i - 1) (a.r1 + j - 1)).c]) ∧ Below w.heap.size w w' := by
  have mixed : Tryz.prog.follows .mixedOrders = true := by kernel_rfl
  have y0 : w.cell? ⟨ab, ao, none⟩ = some (.bool a.many) := HA 0 (by decide)
  have y1 : w.cell? ⟨ab, ao + 1, none⟩ = some (.int .i64 a.t) := HA 1 (by decide)
  have y2 : w.cell? ⟨ab, ao + 2, none⟩ = some (.int .i64 a.n) := HA 2 (by decide)
  have y3 : w.cell? ⟨ab, ao + 3, none⟩ = some (.string a.s) := HA 3 (by decide)
  have y4 : w.cell? ⟨ab, ao + 4, none⟩ = some (.bool a.b) := HA 4 (by decide)
  have y5 : w.cell? ⟨ab, ao + 5, none⟩ = some (.int .i64 a.c) := HA 5 (by decide)
  have y6 : w.cell? ⟨ab, ao + 6, none⟩ = some (.int .i64 a.r0) := HA 6 (by decide)
  have y7 : w.cell? ⟨ab, ao + 7, none⟩ = some (.int .i64 a.r1) := HA 7 (by decide)
  have y8 : w.cell? ⟨ab, ao + 8, none⟩ = some (.int .i64 a.r2) := HA 8 (by decide)
  have y9 : w.cell? ⟨ab, ao + 9, none⟩ = some (.int .i64 a.r3) := HA 9 (by decide)
  have y10 : w.cell? ⟨ab, ao + 10, none⟩ = some (.slice a.ep a.en a.ec) := HA 10 (by decide)
  clear HA
  have HH : Hid (∀ W : World, Below w.heap.size w W → Calls Tryz.prog 125 #[.agg #[.bool a.many, .int .i64 a.t, .int .i64 a.n, .string a.s, .bool a.b, .int .i64 a.c, .int .i64 a.r0, .int .i64 a.r1, .int .i64 a.r2, .int .i64 a.r3, .slice a.ep a.en a.ec], .agg #[.int .i64 (a.r0 + i - 1), .int .i64 (a.r1 + j - 1)]] W fun e w' => e = .returned (.agg #[.int .i64 (atE es (a.r0 + i - 1) (a.r1 + j - 1)).t, .int .i64 (atE es (a.r0 + i - 1) (a.r1 + j - 1)).n, .string (atE es (a.r0 + i - 1) (a.r1 + j - 1)).s, .bool (atE es (a.r0 + i - 1) (a.r1 + j - 1)).b, .int .i64 (atE es (a.r0 + i - 1) (a.r1 + j - 1)).c]) ∧ Below W.heap.size W w') := (show _ from fun W hb => has_any W _ _ _ _ _ _ _ _ _ _ _ _ _ _ _ es (View.keep hE.out.vw hb) hE.out.few hS)
  have HP : Hid (∀ W : World, Calls Tryz.prog 129 #[.agg #[.int .i64 (atE es (a.r0 + i - 1) (a.r1 + j - 1)).t, .int .i64 (atE es (a.r0 + i - 1) (a.r1 + j - 1)).n, .string (atE es (a.r0 + i - 1) (a.r1 + j - 1)).s, .bool (atE es (a.r0 + i - 1) (a.r1 + j - 1)).b, .int .i64 (atE es (a.r0 + i - 1) (a.r1 + j - 1)).c]] W fun e w' => e = .returned (.agg #[.int .i64 (atE es (a.r0 + i - 1) (a.r1 + j - 1)).t, .int .i64 (atE es (a.r0 + i - 1) (a.r1 + j - 1)).n, .string (atE es (a.r0 + i - 1) (a.r1 + j - 1)).s, .bool (atE es (a.r0 + i - 1) (a.r1 + j - 1)).b, .int .i64 (atE es (a.r0 + i - 1) (a.r1 + j - 1)).c]) ∧ Below W.heap.size W w') := (show _ from fun W => copied_any _ W hsz.out)
  revert HH HP
  generalize atE es (a.r0 + i - 1) (a.r1 + j - 1) = g
  intro HH HP
  have han' : (0 : Int) < an := by omega
  have hun0 : 0 < un := by omega
  have hun' : (1 : Int) < un := by omega
  have ne1 : ¬ ub = w.heap.size + 1 + 1 := by omega
  have ne2 : ¬ ab = w.heap.size + 1 + 1 := by omega
  have ne3 : ¬ w.heap.size = w.heap.size + 1 + 1 := by omega
  have ne4 : ub < w.heap.size + 1 + 1 := by omega
  have ne5 : ab < w.heap.size + 1 + 1 := by omega
  go_enter Tryz.func92, Tryz.ntmps92
  go_wp2
  go_region_held3 (fun w' => w'.cell? ⟨w.heap.size, 0, none⟩ = some (.slice (some ⟨ab, ao, none⟩) an ac) ∧ w'.cell? ⟨w.heap.size, 1, none⟩ = some (.slice (some ⟨ub, uo, none⟩) un uc) ∧ w'.cell? ⟨ab, ao, none⟩ = some (.bool a.many) ∧ w'.cell? ⟨ab, ao + 1, none⟩ = some (.int .i64 a.t) ∧ w'.cell? ⟨ab, ao + 2, none⟩ = some (.int .i64 a.n) ∧ w'.cell? ⟨ab, ao + 3, none⟩ = some (.string a.s) ∧ w'.cell? ⟨ab, ao + 4, none⟩ = some (.bool a.b) ∧ w'.cell? ⟨ab, ao + 5, none⟩ = some (.int .i64 a.c) ∧ w'.cell? ⟨ab, ao + 6, none⟩ = some (.int .i64 a.r0) ∧ w'.cell? ⟨ab, ao + 7, none⟩ = some (.int .i64 a.r1) ∧ w'.cell? ⟨ab, ao + 8, none⟩ = some (.int .i64 a.r2) ∧ w'.cell? ⟨ab, ao + 9, none⟩ = some (.int .i64 a.r3) ∧ w'.cell? ⟨ab, ao + 10, none⟩ = some (.slice a.ep a.en a.ec) ∧ w'.cell? ⟨ub, uo, none⟩ = some (.int .i64 i) ∧ w'.cell? ⟨ub, uo + 1, none⟩ = some (.int .i64 j)) ((repeat' apply And.intro) <;> (first | (go_keep; done) | (go_simp; done))) (first | fail)
  have q1 : ¬ i < 1 := by omega
  have q2 : ¬ a.r2 - a.r0 + 1 < i := by omega
  have q3 : ¬ j < 1 := by omega
  have q4 : ¬ a.r3 - a.r1 + 1 < j := by omega
  clear ne1 ne2 ne3 ne4 ne5
  go_wp2_with (first | (go_at_call 131; refine (rows_any _ _ _ _ _ (by omega) (by omega) (by omega) (by omega)).mono ?_; rintro e wa ⟨rfl, hbwa⟩; have hBwa : Below w.heap.size w wa := bup (by with_reducible (repeat' first | assumption | exact Below.refl _ _ | refine Below.drew ?_ | refine bdrewN ?_ _ | refine Below.setCell ?_ (by first | exact Nat.le_refl _ | (simp; done) | (simp; omega) | omega) _ | refine Below.alloc ?_ (by first | exact Nat.le_refl _ | (simp; done) | (simp; omega) | omega) _)) hbwa; have zwa := hBwa.size; have o0wa : Own wa (w.heap.size + 1 + 1) #[.bool a.many, .int .i64 a.t, .int .i64 a.n, .string a.s, .bool a.b, .int .i64 a.c, .int .i64 a.r0, .int .i64 a.r1, .int .i64 a.r2, .int .i64 a.r3, .slice a.ep a.en a.ec] := Own.keep (by with_reducible (repeat' first | assumption | refine Own.drew ?_ | refine Own.drewN ?_ _ | (refine Own.at ?_; first | rfl | (simp; done)) | refine Own.past ?_ _)) hbwa; have c0 := o0wa.cell; have f0 := o0wa.fro; have l0 := o0wa.lt; have o1wa : Own wa (w.heap.size + 1) #[.int .i64 0, .int .i64 0, .string ⟨#[]⟩, .bool false, .int .i64 0] := Own.keep (by with_reducible (repeat' first | assumption | refine Own.drew ?_ | refine Own.drewN ?_ _ | (refine Own.at ?_; first | rfl | (simp; done)) | refine Own.past ?_ _)) hbwa; have c1 := o1wa.cell; have f1 := o1wa.fro; have l1 := o1wa.lt) | (go_at_call 132; refine (cols_any _ _ _ _ _ (by omega) (by omega) (by omega) (by omega)).mono ?_; rintro e wb ⟨rfl, hbwb⟩; have hBwb : Below w.heap.size w wb := bup (by with_reducible (repeat' first | assumption | exact Below.refl _ _ | refine Below.drew ?_ | refine bdrewN ?_ _ | refine Below.setCell ?_ (by first | exact Nat.le_refl _ | (simp; done) | (simp; omega) | omega) _ | refine Below.alloc ?_ (by first | exact Nat.le_refl _ | (simp; done) | (simp; omega) | omega) _)) hbwb; have zwb := hBwb.size; have o0wb : Own wb (w.heap.size + 1 + 1) #[.bool a.many, .int .i64 a.t, .int .i64 a.n, .string a.s, .bool a.b, .int .i64 a.c, .int .i64 a.r0, .int .i64 a.r1, .int .i64 a.r2, .int .i64 a.r3, .slice a.ep a.en a.ec] := Own.keep (by with_reducible (repeat' first | assumption | refine Own.drew ?_ | refine Own.drewN ?_ _ | (refine Own.at ?_; first | rfl | (simp; done)) | refine Own.past ?_ _)) hbwb; have c0 := o0wb.cell; have f0 := o0wb.fro; have l0 := o0wb.lt; have o1wb : Own wb (w.heap.size + 1) #[.int .i64 0, .int .i64 0, .string ⟨#[]⟩, .bool false, .int .i64 0] := Own.keep (by with_reducible (repeat' first | assumption | refine Own.drew ?_ | refine Own.drewN ?_ _ | (refine Own.at ?_; first | rfl | (simp; done)) | refine Own.past ?_ _)) hbwb; have c1 := o1wb.cell; have f1 := o1wb.fro; have l1 := o1wb.lt) | (go_at_call 125; refine (HH.out _ (by with_reducible (repeat' first | assumption | exact Below.refl _ _ | refine Below.drew ?_ | refine bdrewN ?_ _ | refine Below.setCell ?_ (by first | exact Nat.le_refl _ | (simp; done) | (simp; omega) | omega) _ | refine Below.alloc ?_ (by first | exact Nat.le_refl _ | (simp; done) | (simp; omega) | omega) _))).mono ?_; rintro e wc ⟨rfl, hbwc⟩; have hBwc : Below w.heap.size w wc := bup (by with_reducible (repeat' first | assumption | exact Below.refl _ _ | refine Below.drew ?_ | refine bdrewN ?_ _ | refine Below.setCell ?_ (by first | exact Nat.le_refl _ | (simp; done) | (simp; omega) | omega) _ | refine Below.alloc ?_ (by first | exact Nat.le_refl _ | (simp; done) | (simp; omega) | omega) _)) hbwc; have zwc := hBwc.size; have o0wc : Own wc (w.heap.size + 1 + 1) #[.bool a.many, .int .i64 a.t, .int .i64 a.n, .string a.s, .bool a.b, .int .i64 a.c, .int .i64 a.r0, .int .i64 a.r1, .int .i64 a.r2, .int .i64 a.r3, .slice a.ep a.en a.ec] := Own.keep (by with_reducible (repeat' first | assumption | refine Own.drew ?_ | refine Own.drewN ?_ _ | (refine Own.at ?_; first | rfl | (simp; done)) | refine Own.past ?_ _)) hbwc; have c0 := o0wc.cell; have f0 := o0wc.fro; have l0 := o0wc.lt; have o1wc : Own wc (w.heap.size + 1) #[.int .i64 0, .int .i64 0, .string ⟨#[]⟩, .bool false, .int .i64 0] := Own.keep (by with_reducible (repeat' first | assumption | refine Own.drew ?_ | refine Own.drewN ?_ _ | (refine Own.at ?_; first | rfl | (simp; done)) | refine Own.past ?_ _)) hbwc; have c1 := o1wc.cell; have f1 := o1wc.fro; have l1 := o1wc.lt) | (go_at_call 129; refine (HP.out _).mono ?_; rintro e wd ⟨rfl, hbwd⟩; have hBwd : Below w.heap.size w wd := bup (by with_reducible (repeat' first | assumption | exact Below.refl _ _ | refine Below.drew ?_ | refine bdrewN ?_ _ | refine Below.setCell ?_ (by first | exact Nat.le_refl _ | (simp; done) | (simp; omega) | omega) _ | refine Below.alloc ?_ (by first | exact Nat.le_refl _ | (simp; done) | (simp; omega) | omega) _)) hbwd; have zwd := hBwd.size; have o0wd : Own wd (w.heap.size + 1 + 1) #[.bool a.many, .int .i64 a.t, .int .i64 a.n, .string a.s, .bool a.b, .int .i64 a.c, .int .i64 a.r0, .int .i64 a.r1, .int .i64 a.r2, .int .i64 a.r3, .slice a.ep a.en a.ec] := Own.keep (by with_reducible (repeat' first | assumption | refine Own.drew ?_ | refine Own.drewN ?_ _ | (refine Own.at ?_; first | rfl | (simp; done)) | refine Own.past ?_ _)) hbwd; have c0 := o0wd.cell; have f0 := o0wd.fro; have l0 := o0wd.lt; have o1wd : Own wd (w.heap.size + 1) #[.int .i64 0, .int .i64 0, .string ⟨#[]⟩, .bool false, .int .i64 0] := Own.keep (by with_reducible (repeat' first | assumption | refine Own.drew ?_ | refine Own.drewN ?_ _ | (refine Own.at ?_; first | rfl | (simp; done)) | refine Own.past ?_ _)) hbwd; have c1 := o1wd.cell; have f1 := o1wd.fro; have l1 := o1wd.lt))
  have o9 := own_put5 (y0 := .int .i64 g.t) (y1 := .int .i64 g.n) (y2 := .string g.s) (y3 := .bool g.b) (y4 := .int .i64 g.c) o1wd
  have c9 := o9.cell
  exact bodyPost_ret (v := .agg #[.int .i64 g.t, .int .i64 g.n, .string g.s, .bool g.b, .int .i64 g.c]) (by simp [results, Tryz.results92, go_sem, c9]) rfl ⟨rfl, by with_reducible (repeat' first | assumption | exact Below.refl _ _ | refine Below.drew ?_ | refine bdrewN ?_ _ | refine Below.setCell ?_ (by first | exact Nat.le_refl _ | (simp; done) | (simp; omega) | omega) _ | refine Below.alloc ?_ (by first | exact Nat.le_refl _ | (simp; done) | (simp; omega) | omega) _)⟩
/-- The first place that has the value. -/
def At1 (r0 r1 r2 r3 : Int) (es : List En) (vt vn : Int) (vs : ByteArray) (vb : Bool) (vc : Int) (q : Nat) : Prop := (q : Int) < ((r2 - r0 + 1) * (r3 - r1 + 1)) ∧ hitB r0 r1 r2 es vt vn vs vb vc q = true ∧ ∀ p : Nat, p < q → hitB r0 r1 r2 es vt vn vs vb vc p = false
theorem fp_hit (w : World) (m : Bool) (t0 n0 : Int) (s0 : ByteArray) (b0 : Bool) (c0' r0 r1 r2 r3 : Int) (ep : Option Addr) (en ec : Nat) (vt vn : Int) (vs : ByteArray) (vb : Bool) (vc : Int) (es : List En) (q : Nat) (hv : View En.cells 7 w (.slice ep en ec) es) (hl : es.length ≤ 1099511627776) (h0 : 0 < es.length) (hL : Ln r0 r1 r2 r3 es) (h1 : 0 ≤ r0) (h2 : r0 ≤ r2) (h3 : r2 ≤ 1048576) (h4 : 0 ≤ r1) (h5 : r1 ≤ r3) (h6 : r3 ≤ 1048576) (h40 : ((r2 - r0 + 1) * (r3 - r1 + 1)) ≤ 549755813888) (hq : At1 r0 r1 r2 r3 es vt vn vs vb vc q) :
    Calls Tryz.prog 128 #[.agg #[.bool m, .int .i64 t0, .int .i64 n0, .string s0, .bool b0, .int .i64 c0', .int .i64 r0, .int .i64 r1, .int .i64 r2, .int .i64 r3, .slice ep en ec], .agg #[.int .i64 vt, .int .i64 vn, .string vs, .bool vb, .int .i64 vc]] w fun e w' => e = .returned (.tuple #[.int .i64 q, .bool true]) ∧ Below w.heap.size w w' := by
  obtain ⟨q1, q2, q3⟩ := hq
  obtain ⟨p, cap, e0, hc, hf⟩ := hv
  injection e0 with e1 e2 e3
  subst e1 e2 e3
  obtain ⟨b, o, rfl, hla, HA⟩ := hf h0
  refine (fp_y w m t0 n0 s0 b0 c0' r0 r1 r2 r3 b o es.length ec vt vn vs vb vc es hla HA rfl hc hl hL h1 h2 h3 h4 h5 h6 h40).mono ?_
  rintro e w' ⟨⟨i, f, rfl, hF⟩, hb⟩
  refine ⟨?_, hb⟩
  cases f
  · rw [hF.2 rfl q q1] at q2; cases q2
  · obtain ⟨q', rfl, g1, g2, g3⟩ := hF.1 rfl
    have e : q' = q := by
      rcases Nat.lt_trichotomy q' q with g | g | g
      · rw [q3 q' g] at g2; cases g2
      · exact g
      · rw [g3 q g] at q2; cases q2
    rw [e]
set_option maxRecDepth 100000 in
set_option maxHeartbeats 2000000 in
theorem matched_hit (w : World) (ab ao an ac : Nat) (up : Option Addr) (un uc : Nat) (x : Int) (s a : Ag) (es : List En) (q : Nat) (hab : ab < w.heap.size) (han : 1 < an) (hac : an ≤ ac) (HB : ∀ j, j < 11 → w.cell? ⟨ab, ao + j, none⟩ = (Ag.cells s)[j]?) (HA : ∀ j, j < 11 → w.cell? ⟨ab, ao + 11 + j, none⟩ = (Ag.cells a)[j]?) (hE : Hid (AgE w (a, es))) (h0 : Hid (0 < es.length)) (hL : Hid (Ln a.r0 a.r1 a.r2 a.r3 es)) (h1 : 0 ≤ a.r0) (h2 : a.r0 ≤ a.r2) (h3 : a.r2 ≤ 1048576) (h4 : 0 ≤ a.r1) (h5 : a.r1 ≤ a.r3) (h6 : a.r3 ≤ 1048576) (h40 : (a.r2 - a.r0 + 1) * (a.r3 - a.r1 + 1) ≤ 549755813888) (hq : Hid (At1 a.r0 a.r1 a.r2 a.r3 es s.t s.n s.s s.b s.c q)) :
    Calls Tryz.prog 90 #[.agg #[.slice (some ⟨ab, ao, none⟩) an ac, .slice up un uc, .int .i64 x]] w fun e w' => e = .returned (.agg #[.int .i64 1, .int .i64 (((q : Int) + 1) * 10000), .string ⟨#[]⟩, .bool false, .int .i64 0]) ∧ Below w.heap.size w w' := by
  have mixed : Tryz.prog.follows .mixedOrders = true := by kernel_rfl
  have x1 : w.cell? ⟨ab, ao + 1, none⟩ = some (.int .i64 s.t) := HB 1 (by decide)
  have x2 : w.cell? ⟨ab, ao + 2, none⟩ = some (.int .i64 s.n) := HB 2 (by decide)
  have x3 : w.cell? ⟨ab, ao + 3, none⟩ = some (.string s.s) := HB 3 (by decide)
  have x4 : w.cell? ⟨ab, ao + 4, none⟩ = some (.bool s.b) := HB 4 (by decide)
  have x5 : w.cell? ⟨ab, ao + 5, none⟩ = some (.int .i64 s.c) := HB 5 (by decide)
  have y0 : w.cell? ⟨ab, ao + 11, none⟩ = some (.bool a.many) := by have := HA 0 (by decide); rw [Nat.add_assoc] at this; exact this
  have y1 : w.cell? ⟨ab, ao + 12, none⟩ = some (.int .i64 a.t) := by have := HA 1 (by decide); rw [Nat.add_assoc] at this; exact this
  have y2 : w.cell? ⟨ab, ao + 13, none⟩ = some (.int .i64 a.n) := by have := HA 2 (by decide); rw [Nat.add_assoc] at this; exact this
  have y3 : w.cell? ⟨ab, ao + 14, none⟩ = some (.string a.s) := by have := HA 3 (by decide); rw [Nat.add_assoc] at this; exact this
  have y4 : w.cell? ⟨ab, ao + 15, none⟩ = some (.bool a.b) := by have := HA 4 (by decide); rw [Nat.add_assoc] at this; exact this
  have y5 : w.cell? ⟨ab, ao + 16, none⟩ = some (.int .i64 a.c) := by have := HA 5 (by decide); rw [Nat.add_assoc] at this; exact this
  have y6 : w.cell? ⟨ab, ao + 17, none⟩ = some (.int .i64 a.r0) := by have := HA 6 (by decide); rw [Nat.add_assoc] at this; exact this
  have y7 : w.cell? ⟨ab, ao + 18, none⟩ = some (.int .i64 a.r1) := by have := HA 7 (by decide); rw [Nat.add_assoc] at this; exact this
  have y8 : w.cell? ⟨ab, ao + 19, none⟩ = some (.int .i64 a.r2) := by have := HA 8 (by decide); rw [Nat.add_assoc] at this; exact this
  have y9 : w.cell? ⟨ab, ao + 20, none⟩ = some (.int .i64 a.r3) := by have := HA 9 (by decide); rw [Nat.add_assoc] at this; exact this
  have y10 : w.cell? ⟨ab, ao + 21, none⟩ = some (.slice a.ep a.en a.ec) := by have := HA 10 (by decide); rw [Nat.add_assoc] at this; exact this
  clear HA HB
  have hq40 : (q : Int) ≤ 549755813888 := by have := hq.out.1; omega
  have HI : Hid (∀ W : World, Calls Tryz.prog 127 #[.agg #[.int .i64 a.r0, .int .i64 a.r1, .int .i64 a.r2, .int .i64 a.r3]] W fun e w' => e = .returned (.bool true) ∧ Below W.heap.size W w') := (show _ from fun W => by have := line_any a.r0 a.r1 a.r2 a.r3 W h1 h2 h3 h4 h5 h6; rw [hL.out.line] at this; exact this)
  have HF : Hid (∀ W : World, Below w.heap.size w W → Calls Tryz.prog 128 #[.agg #[.bool a.many, .int .i64 a.t, .int .i64 a.n, .string a.s, .bool a.b, .int .i64 a.c, .int .i64 a.r0, .int .i64 a.r1, .int .i64 a.r2, .int .i64 a.r3, .slice a.ep a.en a.ec], .agg #[.int .i64 s.t, .int .i64 s.n, .string s.s, .bool s.b, .int .i64 s.c]] W fun e w' => e = .returned (.tuple #[.int .i64 q, .bool true]) ∧ Below W.heap.size W w') := (show _ from fun W hb => fp_hit W _ _ _ _ _ _ _ _ _ _ _ _ _ _ _ _ _ _ es q (View.keep hE.out.vw hb) hE.out.few h0.out hL.out h1 h2 h3 h4 h5 h6 h40 hq.out)
  have HD : Hid (∀ W : World, Calls Tryz.prog 121 #[.int .i64 ((q : Int) + 1)] W fun e w' => e = .returned (.agg #[.int .i64 1, .int .i64 (((q : Int) + 1) * 10000), .string ⟨#[]⟩, .bool false, .int .i64 0]) ∧ Below W.heap.size W w') := (show _ from fun W => counted_any _ W (by omega) (by omega))
  have han' : (1 : Int) < an := by omega
  have han0 : 0 < an := by omega
  have ne2 : ¬ ab = w.heap.size + 1 + 1 := by omega
  have ne5 : ab < w.heap.size + 1 + 1 := by omega
  have ne6 : ¬ ab = w.heap.size + 1 + 1 + 1 := by omega
  have ne7 : ab < w.heap.size + 1 + 1 + 1 := by omega
  have ne3 : ¬ w.heap.size = w.heap.size + 1 + 1 := by omega
  have ne8 : ¬ w.heap.size = w.heap.size + 1 + 1 + 1 := by omega
  have ne9 : ¬ w.heap.size + 1 + 1 = w.heap.size + 1 + 1 + 1 := by omega
  go_enter Tryz.func90, Tryz.ntmps90
  go_wp2
  go_region_held3 (fun w' => w'.cell? ⟨w.heap.size, 0, none⟩ = some (.slice (some ⟨ab, ao, none⟩) an ac) ∧ w'.cell? ⟨ab, ao + 1, none⟩ = some (.int .i64 s.t) ∧ w'.cell? ⟨ab, ao + 2, none⟩ = some (.int .i64 s.n) ∧ w'.cell? ⟨ab, ao + 3, none⟩ = some (.string s.s) ∧ w'.cell? ⟨ab, ao + 4, none⟩ = some (.bool s.b) ∧ w'.cell? ⟨ab, ao + 5, none⟩ = some (.int .i64 s.c) ∧ w'.cell? ⟨ab, ao + 11, none⟩ = some (.bool a.many) ∧ w'.cell? ⟨ab, ao + 12, none⟩ = some (.int .i64 a.t) ∧ w'.cell? ⟨ab, ao + 13, none⟩ = some (.int .i64 a.n) ∧ w'.cell? ⟨ab, ao + 14, none⟩ = some (.string a.s) ∧ w'.cell? ⟨ab, ao + 15, none⟩ = some (.bool a.b) ∧ w'.cell? ⟨ab, ao + 16, none⟩ = some (.int .i64 a.c) ∧ w'.cell? ⟨ab, ao + 17, none⟩ = some (.int .i64 a.r0) ∧ w'.cell? ⟨ab, ao + 18, none⟩ = some (.int .i64 a.r1) ∧ w'.cell? ⟨ab, ao + 19, none⟩ = some (.int .i64 a.r2) ∧ w'.cell? ⟨ab, ao + 20, none⟩ = some (.int .i64 a.r3) ∧ w'.cell? ⟨ab, ao + 21, none⟩ = some (.slice a.ep a.en a.ec)) ((repeat' apply And.intro) <;> (first | (go_keep; done) | (go_simp; done))) (first | fail)
  all_goals clear ne2 ne5 ne6 ne7 ne3 ne8 ne9
  · go_wp2_with (first | (go_at_call 127; refine (HI.out _).mono ?_; rintro e wa ⟨rfl, hbwa⟩; have hBwa : Below w.heap.size w wa := bup (by with_reducible (repeat' first | assumption | exact Below.refl _ _ | refine Below.drew ?_ | refine bdrewN ?_ _ | refine Below.setCell ?_ (by first | exact Nat.le_refl _ | (simp; done) | (simp; omega) | omega) _ | refine Below.alloc ?_ (by first | exact Nat.le_refl _ | (simp; done) | (simp; omega) | omega) _)) hbwa; have zwa := hBwa.size; have orwa : Own wa (w.heap.size + 1) #[.int .i64 0, .int .i64 0, .string ⟨#[]⟩, .bool false, .int .i64 0] := Own.keep (by with_reducible (repeat' first | assumption | refine Own.drew ?_ | refine Own.drewN ?_ _ | (refine Own.at ?_; first | rfl | (simp; done)) | refine Own.past ?_ _)) hbwa; have cr := orwa.cell; have fr := orwa.fro; have lr := orwa.lt; have o0wa : Own wa (w.heap.size + 1 + 1) #[.int .i64 s.t, .int .i64 s.n, .string s.s, .bool s.b, .int .i64 s.c] := Own.keep (by with_reducible (repeat' first | assumption | refine Own.drew ?_ | refine Own.drewN ?_ _ | (refine Own.at ?_; first | rfl | (simp; done)) | refine Own.past ?_ _)) hbwa; have o1wa : Own wa (w.heap.size + 1 + 1 + 1) #[.bool a.many, .int .i64 a.t, .int .i64 a.n, .string a.s, .bool a.b, .int .i64 a.c, .int .i64 a.r0, .int .i64 a.r1, .int .i64 a.r2, .int .i64 a.r3, .slice a.ep a.en a.ec] := Own.keep (by with_reducible (repeat' first | assumption | refine Own.drew ?_ | refine Own.drewN ?_ _ | (refine Own.at ?_; first | rfl | (simp; done)) | refine Own.past ?_ _)) hbwa; have cx0 := o0wa.cell; have fx0 := o0wa.fro; have lx0 := o0wa.lt; have cx1 := o1wa.cell; have fx1 := o1wa.fro; have lx1 := o1wa.lt) | (go_at_call 128; refine (HF.out _ (by with_reducible (repeat' first | assumption | exact Below.refl _ _ | refine Below.drew ?_ | refine bdrewN ?_ _ | refine Below.setCell ?_ (by first | exact Nat.le_refl _ | (simp; done) | (simp; omega) | omega) _ | refine Below.alloc ?_ (by first | exact Nat.le_refl _ | (simp; done) | (simp; omega) | omega) _))).mono ?_; rintro e wb ⟨rfl, hbwb⟩; have hBwb : Below w.heap.size w wb := bup (by with_reducible (repeat' first | assumption | exact Below.refl _ _ | refine Below.drew ?_ | refine bdrewN ?_ _ | refine Below.setCell ?_ (by first | exact Nat.le_refl _ | (simp; done) | (simp; omega) | omega) _ | refine Below.alloc ?_ (by first | exact Nat.le_refl _ | (simp; done) | (simp; omega) | omega) _)) hbwb; have zwb := hBwb.size; have orwb : Own wb (w.heap.size + 1) #[.int .i64 0, .int .i64 0, .string ⟨#[]⟩, .bool false, .int .i64 0] := Own.keep (by with_reducible (repeat' first | assumption | refine Own.drew ?_ | refine Own.drewN ?_ _ | (refine Own.at ?_; first | rfl | (simp; done)) | refine Own.past ?_ _)) hbwb; have cr := orwb.cell; have fr := orwb.fro; have lr := orwb.lt; have o0wb : Own wb (w.heap.size + 1 + 1) #[.int .i64 s.t, .int .i64 s.n, .string s.s, .bool s.b, .int .i64 s.c] := Own.keep (by with_reducible (repeat' first | assumption | refine Own.drew ?_ | refine Own.drewN ?_ _ | (refine Own.at ?_; first | rfl | (simp; done)) | refine Own.past ?_ _)) hbwb; have o1wb : Own wb (w.heap.size + 1 + 1 + 1) #[.bool a.many, .int .i64 a.t, .int .i64 a.n, .string a.s, .bool a.b, .int .i64 a.c, .int .i64 a.r0, .int .i64 a.r1, .int .i64 a.r2, .int .i64 a.r3, .slice a.ep a.en a.ec] := Own.keep (by with_reducible (repeat' first | assumption | refine Own.drew ?_ | refine Own.drewN ?_ _ | (refine Own.at ?_; first | rfl | (simp; done)) | refine Own.past ?_ _)) hbwb; have cx0 := o0wb.cell; have fx0 := o0wb.fro; have lx0 := o0wb.lt; have cx1 := o1wb.cell; have fx1 := o1wb.fro; have lx1 := o1wb.lt) | (go_at_call 121; refine (HD.out _).mono ?_; rintro e wc ⟨rfl, hbwc⟩; have hBwc : Below w.heap.size w wc := bup (by with_reducible (repeat' first | assumption | exact Below.refl _ _ | refine Below.drew ?_ | refine bdrewN ?_ _ | refine Below.setCell ?_ (by first | exact Nat.le_refl _ | (simp; done) | (simp; omega) | omega) _ | refine Below.alloc ?_ (by first | exact Nat.le_refl _ | (simp; done) | (simp; omega) | omega) _)) hbwc; have zwc := hBwc.size; have orwc : Own wc (w.heap.size + 1) #[.int .i64 0, .int .i64 0, .string ⟨#[]⟩, .bool false, .int .i64 0] := Own.keep (by with_reducible (repeat' first | assumption | refine Own.drew ?_ | refine Own.drewN ?_ _ | (refine Own.at ?_; first | rfl | (simp; done)) | refine Own.past ?_ _)) hbwc; have cr := orwc.cell; have fr := orwc.fro; have lr := orwc.lt; have o0wc : Own wc (w.heap.size + 1 + 1) #[.int .i64 s.t, .int .i64 s.n, .string s.s, .bool s.b, .int .i64 s.c] := Own.keep (by with_reducible (repeat' first | assumption | refine Own.drew ?_ | refine Own.drewN ?_ _ | (refine Own.at ?_; first | rfl | (simp; done)) | refine Own.past ?_ _)) hbwc; have o1wc : Own wc (w.heap.size + 1 + 1 + 1) #[.bool a.many, .int .i64 a.t, .int .i64 a.n, .string a.s, .bool a.b, .int .i64 a.c, .int .i64 a.r0, .int .i64 a.r1, .int .i64 a.r2, .int .i64 a.r3, .slice a.ep a.en a.ec] := Own.keep (by with_reducible (repeat' first | assumption | refine Own.drew ?_ | refine Own.drewN ?_ _ | (refine Own.at ?_; first | rfl | (simp; done)) | refine Own.past ?_ _)) hbwc; have cx0 := o0wc.cell; have fx0 := o0wc.fro; have lx0 := o0wc.lt; have cx1 := o1wc.cell; have fx1 := o1wc.fro; have lx1 := o1wc.lt))
    have o9 := own_put5 (y0 := .int .i64 1) (y1 := .int .i64 (((q : Int) + 1) * 10000)) (y2 := .string ⟨#[]⟩) (y3 := .bool false) (y4 := .int .i64 0) orwc
    have c9 := o9.cell
    exact bodyPost_ret (v := .agg #[.int .i64 1, .int .i64 (((q : Int) + 1) * 10000), .string ⟨#[]⟩, .bool false, .int .i64 0]) (by simp [results, Tryz.results90, go_sem, c9]) rfl ⟨rfl, by with_reducible (repeat' first | assumption | exact Below.refl _ _ | refine Below.drew ?_ | refine bdrewN ?_ _ | refine Below.setCell ?_ (by first | exact Nat.le_refl _ | (simp; done) | (simp; omega) | omega) _ | refine Below.alloc ?_ (by first | exact Nat.le_refl _ | (simp; done) | (simp; omega) | omega) _)⟩
  · go_wp2_with (first | (go_at_call 127; refine (HI.out _).mono ?_; rintro e wa ⟨rfl, hbwa⟩; have hBwa : Below w.heap.size w wa := bup (by with_reducible (repeat' first | assumption | exact Below.refl _ _ | refine Below.drew ?_ | refine bdrewN ?_ _ | refine Below.setCell ?_ (by first | exact Nat.le_refl _ | (simp; done) | (simp; omega) | omega) _ | refine Below.alloc ?_ (by first | exact Nat.le_refl _ | (simp; done) | (simp; omega) | omega) _)) hbwa; have zwa := hBwa.size; have orwa : Own wa (w.heap.size + 1) #[.int .i64 0, .int .i64 0, .string ⟨#[]⟩, .bool false, .int .i64 0] := Own.keep (by with_reducible (repeat' first | assumption | refine Own.drew ?_ | refine Own.drewN ?_ _ | (refine Own.at ?_; first | rfl | (simp; done)) | refine Own.past ?_ _)) hbwa; have cr := orwa.cell; have fr := orwa.fro; have lr := orwa.lt; have o0wa : Own wa (w.heap.size + 1 + 1) #[.bool a.many, .int .i64 a.t, .int .i64 a.n, .string a.s, .bool a.b, .int .i64 a.c, .int .i64 a.r0, .int .i64 a.r1, .int .i64 a.r2, .int .i64 a.r3, .slice a.ep a.en a.ec] := Own.keep (by with_reducible (repeat' first | assumption | refine Own.drew ?_ | refine Own.drewN ?_ _ | (refine Own.at ?_; first | rfl | (simp; done)) | refine Own.past ?_ _)) hbwa; have o1wa : Own wa (w.heap.size + 1 + 1 + 1) #[.int .i64 s.t, .int .i64 s.n, .string s.s, .bool s.b, .int .i64 s.c] := Own.keep (by with_reducible (repeat' first | assumption | refine Own.drew ?_ | refine Own.drewN ?_ _ | (refine Own.at ?_; first | rfl | (simp; done)) | refine Own.past ?_ _)) hbwa; have cx0 := o0wa.cell; have fx0 := o0wa.fro; have lx0 := o0wa.lt; have cx1 := o1wa.cell; have fx1 := o1wa.fro; have lx1 := o1wa.lt) | (go_at_call 128; refine (HF.out _ (by with_reducible (repeat' first | assumption | exact Below.refl _ _ | refine Below.drew ?_ | refine bdrewN ?_ _ | refine Below.setCell ?_ (by first | exact Nat.le_refl _ | (simp; done) | (simp; omega) | omega) _ | refine Below.alloc ?_ (by first | exact Nat.le_refl _ | (simp; done) | (simp; omega) | omega) _))).mono ?_; rintro e wb ⟨rfl, hbwb⟩; have hBwb : Below w.heap.size w wb := bup (by with_reducible (repeat' first | assumption | exact Below.refl _ _ | refine Below.drew ?_ | refine bdrewN ?_ _ | refine Below.setCell ?_ (by first | exact Nat.le_refl _ | (simp; done) | (simp; omega) | omega) _ | refine Below.alloc ?_ (by first | exact Nat.le_refl _ | (simp; done) | (simp; omega) | omega) _)) hbwb; have zwb := hBwb.size; have orwb : Own wb (w.heap.size + 1) #[.int .i64 0, .int .i64 0, .string ⟨#[]⟩, .bool false, .int .i64 0] := Own.keep (by with_reducible (repeat' first | assumption | refine Own.drew ?_ | refine Own.drewN ?_ _ | (refine Own.at ?_; first | rfl | (simp; done)) | refine Own.past ?_ _)) hbwb; have cr := orwb.cell; have fr := orwb.fro; have lr := orwb.lt; have o0wb : Own wb (w.heap.size + 1 + 1) #[.bool a.many, .int .i64 a.t, .int .i64 a.n, .string a.s, .bool a.b, .int .i64 a.c, .int .i64 a.r0, .int .i64 a.r1, .int .i64 a.r2, .int .i64 a.r3, .slice a.ep a.en a.ec] := Own.keep (by with_reducible (repeat' first | assumption | refine Own.drew ?_ | refine Own.drewN ?_ _ | (refine Own.at ?_; first | rfl | (simp; done)) | refine Own.past ?_ _)) hbwb; have o1wb : Own wb (w.heap.size + 1 + 1 + 1) #[.int .i64 s.t, .int .i64 s.n, .string s.s, .bool s.b, .int .i64 s.c] := Own.keep (by with_reducible (repeat' first | assumption | refine Own.drew ?_ | refine Own.drewN ?_ _ | (refine Own.at ?_; first | rfl | (simp; done)) | refine Own.past ?_ _)) hbwb; have cx0 := o0wb.cell; have fx0 := o0wb.fro; have lx0 := o0wb.lt; have cx1 := o1wb.cell; have fx1 := o1wb.fro; have lx1 := o1wb.lt) | (go_at_call 121; refine (HD.out _).mono ?_; rintro e wc ⟨rfl, hbwc⟩; have hBwc : Below w.heap.size w wc := bup (by with_reducible (repeat' first | assumption | exact Below.refl _ _ | refine Below.drew ?_ | refine bdrewN ?_ _ | refine Below.setCell ?_ (by first | exact Nat.le_refl _ | (simp; done) | (simp; omega) | omega) _ | refine Below.alloc ?_ (by first | exact Nat.le_refl _ | (simp; done) | (simp; omega) | omega) _)) hbwc; have zwc := hBwc.size; have orwc : Own wc (w.heap.size + 1) #[.int .i64 0, .int .i64 0, .string ⟨#[]⟩, .bool false, .int .i64 0] := Own.keep (by with_reducible (repeat' first | assumption | refine Own.drew ?_ | refine Own.drewN ?_ _ | (refine Own.at ?_; first | rfl | (simp; done)) | refine Own.past ?_ _)) hbwc; have cr := orwc.cell; have fr := orwc.fro; have lr := orwc.lt; have o0wc : Own wc (w.heap.size + 1 + 1) #[.bool a.many, .int .i64 a.t, .int .i64 a.n, .string a.s, .bool a.b, .int .i64 a.c, .int .i64 a.r0, .int .i64 a.r1, .int .i64 a.r2, .int .i64 a.r3, .slice a.ep a.en a.ec] := Own.keep (by with_reducible (repeat' first | assumption | refine Own.drew ?_ | refine Own.drewN ?_ _ | (refine Own.at ?_; first | rfl | (simp; done)) | refine Own.past ?_ _)) hbwc; have o1wc : Own wc (w.heap.size + 1 + 1 + 1) #[.int .i64 s.t, .int .i64 s.n, .string s.s, .bool s.b, .int .i64 s.c] := Own.keep (by with_reducible (repeat' first | assumption | refine Own.drew ?_ | refine Own.drewN ?_ _ | (refine Own.at ?_; first | rfl | (simp; done)) | refine Own.past ?_ _)) hbwc; have cx0 := o0wc.cell; have fx0 := o0wc.fro; have lx0 := o0wc.lt; have cx1 := o1wc.cell; have fx1 := o1wc.fro; have lx1 := o1wc.lt))
    have o9 := own_put5 (y0 := .int .i64 1) (y1 := .int .i64 (((q : Int) + 1) * 10000)) (y2 := .string ⟨#[]⟩) (y3 := .bool false) (y4 := .int .i64 0) orwc
    have c9 := o9.cell
    exact bodyPost_ret (v := .agg #[.int .i64 1, .int .i64 (((q : Int) + 1) * 10000), .string ⟨#[]⟩, .bool false, .int .i64 0]) (by simp [results, Tryz.results90, go_sem, c9]) rfl ⟨rfl, by with_reducible (repeat' first | assumption | exact Below.refl _ _ | refine Below.drew ?_ | refine bdrewN ?_ _ | refine Below.setCell ?_ (by first | exact Nat.le_refl _ | (simp; done) | (simp; omega) | omega) _ | refine Below.alloc ?_ (by first | exact Nat.le_refl _ | (simp; done) | (simp; omega) | omega) _)⟩
theorem line_no {r0 r1 r2 r3 : Int} (h : lineB r0 r1 r2 r3 = false) : lineB r0 r1 r2 r3 = false := h
set_option maxRecDepth 100000 in
set_option maxHeartbeats 2000000 in
theorem matched_no (w : World) (ab ao an ac : Nat) (up : Option Addr) (un uc : Nat) (x : Int) (s a : Ag) (hab : ab < w.heap.size) (han : 1 < an) (hac : an ≤ ac) (HB : ∀ j, j < 11 → w.cell? ⟨ab, ao + j, none⟩ = (Ag.cells s)[j]?) (HA : ∀ j, j < 11 → w.cell? ⟨ab, ao + 11 + j, none⟩ = (Ag.cells a)[j]?) (h1 : 0 ≤ a.r0) (h2 : a.r0 ≤ a.r2) (h3 : a.r2 ≤ 1048576) (h4 : 0 ≤ a.r1) (h5 : a.r1 ≤ a.r3) (h6 : a.r3 ≤ 1048576) (hL : lineB a.r0 a.r1 a.r2 a.r3 = false) :
    Calls Tryz.prog 90 #[.agg #[.slice (some ⟨ab, ao, none⟩) an ac, .slice up un uc, .int .i64 x]] w fun e w' => e = .returned (.agg #[.int .i64 4, .int .i64 0, .string ⟨#[]⟩, .bool false, .int .i64 8]) ∧ Below w.heap.size w w' := by
  have mixed : Tryz.prog.follows .mixedOrders = true := by kernel_rfl
  have x1 : w.cell? ⟨ab, ao + 1, none⟩ = some (.int .i64 s.t) := HB 1 (by decide)
  have x2 : w.cell? ⟨ab, ao + 2, none⟩ = some (.int .i64 s.n) := HB 2 (by decide)
  have x3 : w.cell? ⟨ab, ao + 3, none⟩ = some (.string s.s) := HB 3 (by decide)
  have x4 : w.cell? ⟨ab, ao + 4, none⟩ = some (.bool s.b) := HB 4 (by decide)
  have x5 : w.cell? ⟨ab, ao + 5, none⟩ = some (.int .i64 s.c) := HB 5 (by decide)
  have y0 : w.cell? ⟨ab, ao + 11, none⟩ = some (.bool a.many) := by have := HA 0 (by decide); rw [Nat.add_assoc] at this; exact this
  have y1 : w.cell? ⟨ab, ao + 12, none⟩ = some (.int .i64 a.t) := by have := HA 1 (by decide); rw [Nat.add_assoc] at this; exact this
  have y2 : w.cell? ⟨ab, ao + 13, none⟩ = some (.int .i64 a.n) := by have := HA 2 (by decide); rw [Nat.add_assoc] at this; exact this
  have y3 : w.cell? ⟨ab, ao + 14, none⟩ = some (.string a.s) := by have := HA 3 (by decide); rw [Nat.add_assoc] at this; exact this
  have y4 : w.cell? ⟨ab, ao + 15, none⟩ = some (.bool a.b) := by have := HA 4 (by decide); rw [Nat.add_assoc] at this; exact this
  have y5 : w.cell? ⟨ab, ao + 16, none⟩ = some (.int .i64 a.c) := by have := HA 5 (by decide); rw [Nat.add_assoc] at this; exact this
  have y6 : w.cell? ⟨ab, ao + 17, none⟩ = some (.int .i64 a.r0) := by have := HA 6 (by decide); rw [Nat.add_assoc] at this; exact this
  have y7 : w.cell? ⟨ab, ao + 18, none⟩ = some (.int .i64 a.r1) := by have := HA 7 (by decide); rw [Nat.add_assoc] at this; exact this
  have y8 : w.cell? ⟨ab, ao + 19, none⟩ = some (.int .i64 a.r2) := by have := HA 8 (by decide); rw [Nat.add_assoc] at this; exact this
  have y9 : w.cell? ⟨ab, ao + 20, none⟩ = some (.int .i64 a.r3) := by have := HA 9 (by decide); rw [Nat.add_assoc] at this; exact this
  have y10 : w.cell? ⟨ab, ao + 21, none⟩ = some (.slice a.ep a.en a.ec) := by have := HA 10 (by decide); rw [Nat.add_assoc] at this; exact this
  clear HA HB
  have HI : Hid (∀ W : World, Calls Tryz.prog 127 #[.agg #[.int .i64 a.r0, .int .i64 a.r1, .int .i64 a.r2, .int .i64 a.r3]] W fun e w' => e = .returned (.bool false) ∧ Below W.heap.size W w') := (show _ from fun W => by have := line_any a.r0 a.r1 a.r2 a.r3 W h1 h2 h3 h4 h5 h6; rw [hL] at this; exact this)
  clear hL
  have han' : (1 : Int) < an := by omega
  have han0 : 0 < an := by omega
  have ne2 : ¬ ab = w.heap.size + 1 + 1 := by omega
  have ne5 : ab < w.heap.size + 1 + 1 := by omega
  have ne6 : ¬ ab = w.heap.size + 1 + 1 + 1 := by omega
  have ne7 : ab < w.heap.size + 1 + 1 + 1 := by omega
  have ne3 : ¬ w.heap.size = w.heap.size + 1 + 1 := by omega
  have ne8 : ¬ w.heap.size = w.heap.size + 1 + 1 + 1 := by omega
  have ne9 : ¬ w.heap.size + 1 + 1 = w.heap.size + 1 + 1 + 1 := by omega
  go_enter Tryz.func90, Tryz.ntmps90
  go_wp2
  go_region_held3 (fun w' => w'.cell? ⟨w.heap.size, 0, none⟩ = some (.slice (some ⟨ab, ao, none⟩) an ac) ∧ w'.cell? ⟨ab, ao + 1, none⟩ = some (.int .i64 s.t) ∧ w'.cell? ⟨ab, ao + 2, none⟩ = some (.int .i64 s.n) ∧ w'.cell? ⟨ab, ao + 3, none⟩ = some (.string s.s) ∧ w'.cell? ⟨ab, ao + 4, none⟩ = some (.bool s.b) ∧ w'.cell? ⟨ab, ao + 5, none⟩ = some (.int .i64 s.c) ∧ w'.cell? ⟨ab, ao + 11, none⟩ = some (.bool a.many) ∧ w'.cell? ⟨ab, ao + 12, none⟩ = some (.int .i64 a.t) ∧ w'.cell? ⟨ab, ao + 13, none⟩ = some (.int .i64 a.n) ∧ w'.cell? ⟨ab, ao + 14, none⟩ = some (.string a.s) ∧ w'.cell? ⟨ab, ao + 15, none⟩ = some (.bool a.b) ∧ w'.cell? ⟨ab, ao + 16, none⟩ = some (.int .i64 a.c) ∧ w'.cell? ⟨ab, ao + 17, none⟩ = some (.int .i64 a.r0) ∧ w'.cell? ⟨ab, ao + 18, none⟩ = some (.int .i64 a.r1) ∧ w'.cell? ⟨ab, ao + 19, none⟩ = some (.int .i64 a.r2) ∧ w'.cell? ⟨ab, ao + 20, none⟩ = some (.int .i64 a.r3) ∧ w'.cell? ⟨ab, ao + 21, none⟩ = some (.slice a.ep a.en a.ec)) ((repeat' apply And.intro) <;> (first | (go_keep; done) | (go_simp; done))) (first | fail)
  all_goals clear ne2 ne5 ne6 ne7 ne3 ne8 ne9
  · go_wp2_with (first | (go_at_call 127; refine (HI.out _).mono ?_; rintro e wa ⟨rfl, hbwa⟩; have hBwa : Below w.heap.size w wa := bup (by with_reducible (repeat' first | assumption | exact Below.refl _ _ | refine Below.drew ?_ | refine bdrewN ?_ _ | refine Below.setCell ?_ (by first | exact Nat.le_refl _ | (simp; done) | (simp; omega) | omega) _ | refine Below.alloc ?_ (by first | exact Nat.le_refl _ | (simp; done) | (simp; omega) | omega) _)) hbwa; have zwa := hBwa.size; have orwa : Own wa (w.heap.size + 1) #[.int .i64 0, .int .i64 0, .string ⟨#[]⟩, .bool false, .int .i64 0] := Own.keep (by with_reducible (repeat' first | assumption | refine Own.drew ?_ | refine Own.drewN ?_ _ | (refine Own.at ?_; first | rfl | (simp; done)) | refine Own.past ?_ _)) hbwa; have cr := orwa.cell; have fr := orwa.fro; have lr := orwa.lt; have o0wa : Own wa (w.heap.size + 1 + 1) #[.int .i64 s.t, .int .i64 s.n, .string s.s, .bool s.b, .int .i64 s.c] := Own.keep (by with_reducible (repeat' first | assumption | refine Own.drew ?_ | refine Own.drewN ?_ _ | (refine Own.at ?_; first | rfl | (simp; done)) | refine Own.past ?_ _)) hbwa; have o1wa : Own wa (w.heap.size + 1 + 1 + 1) #[.bool a.many, .int .i64 a.t, .int .i64 a.n, .string a.s, .bool a.b, .int .i64 a.c, .int .i64 a.r0, .int .i64 a.r1, .int .i64 a.r2, .int .i64 a.r3, .slice a.ep a.en a.ec] := Own.keep (by with_reducible (repeat' first | assumption | refine Own.drew ?_ | refine Own.drewN ?_ _ | (refine Own.at ?_; first | rfl | (simp; done)) | refine Own.past ?_ _)) hbwa; have cx0 := o0wa.cell; have fx0 := o0wa.fro; have lx0 := o0wa.lt; have cx1 := o1wa.cell; have fx1 := o1wa.fro; have lx1 := o1wa.lt) | (go_at_call 27; refine (err_ok 8 _ (by decide) (by decide)).mono ?_; rintro e wc ⟨rfl, hbwc⟩; have hBwc : Below w.heap.size w wc := bup (by with_reducible (repeat' first | assumption | exact Below.refl _ _ | refine Below.drew ?_ | refine bdrewN ?_ _ | refine Below.setCell ?_ (by first | exact Nat.le_refl _ | (simp; done) | (simp; omega) | omega) _ | refine Below.alloc ?_ (by first | exact Nat.le_refl _ | (simp; done) | (simp; omega) | omega) _)) hbwc; have zwc := hBwc.size; have orwc : Own wc (w.heap.size + 1) #[.int .i64 0, .int .i64 0, .string ⟨#[]⟩, .bool false, .int .i64 0] := Own.keep (by with_reducible (repeat' first | assumption | refine Own.drew ?_ | refine Own.drewN ?_ _ | (refine Own.at ?_; first | rfl | (simp; done)) | refine Own.past ?_ _)) hbwc; have cr := orwc.cell; have fr := orwc.fro; have lr := orwc.lt; have o0wc : Own wc (w.heap.size + 1 + 1) #[.int .i64 s.t, .int .i64 s.n, .string s.s, .bool s.b, .int .i64 s.c] := Own.keep (by with_reducible (repeat' first | assumption | refine Own.drew ?_ | refine Own.drewN ?_ _ | (refine Own.at ?_; first | rfl | (simp; done)) | refine Own.past ?_ _)) hbwc; have o1wc : Own wc (w.heap.size + 1 + 1 + 1) #[.bool a.many, .int .i64 a.t, .int .i64 a.n, .string a.s, .bool a.b, .int .i64 a.c, .int .i64 a.r0, .int .i64 a.r1, .int .i64 a.r2, .int .i64 a.r3, .slice a.ep a.en a.ec] := Own.keep (by with_reducible (repeat' first | assumption | refine Own.drew ?_ | refine Own.drewN ?_ _ | (refine Own.at ?_; first | rfl | (simp; done)) | refine Own.past ?_ _)) hbwc; have cx0 := o0wc.cell; have fx0 := o0wc.fro; have lx0 := o0wc.lt; have cx1 := o1wc.cell; have fx1 := o1wc.fro; have lx1 := o1wc.lt))
    have o9 := own_put5 (y0 := .int .i64 4) (y1 := .int .i64 0) (y2 := .string ⟨#[]⟩) (y3 := .bool false) (y4 := .int .i64 8) orwc
    have c9 := o9.cell
    exact bodyPost_ret (v := .agg #[.int .i64 4, .int .i64 0, .string ⟨#[]⟩, .bool false, .int .i64 8]) (by simp [results, Tryz.results90, go_sem, c9]) rfl ⟨rfl, by with_reducible (repeat' first | assumption | exact Below.refl _ _ | refine Below.drew ?_ | refine bdrewN ?_ _ | refine Below.setCell ?_ (by first | exact Nat.le_refl _ | (simp; done) | (simp; omega) | omega) _ | refine Below.alloc ?_ (by first | exact Nat.le_refl _ | (simp; done) | (simp; omega) | omega) _)⟩
  · go_wp2_with (first | (go_at_call 127; refine (HI.out _).mono ?_; rintro e wa ⟨rfl, hbwa⟩; have hBwa : Below w.heap.size w wa := bup (by with_reducible (repeat' first | assumption | exact Below.refl _ _ | refine Below.drew ?_ | refine bdrewN ?_ _ | refine Below.setCell ?_ (by first | exact Nat.le_refl _ | (simp; done) | (simp; omega) | omega) _ | refine Below.alloc ?_ (by first | exact Nat.le_refl _ | (simp; done) | (simp; omega) | omega) _)) hbwa; have zwa := hBwa.size; have orwa : Own wa (w.heap.size + 1) #[.int .i64 0, .int .i64 0, .string ⟨#[]⟩, .bool false, .int .i64 0] := Own.keep (by with_reducible (repeat' first | assumption | refine Own.drew ?_ | refine Own.drewN ?_ _ | (refine Own.at ?_; first | rfl | (simp; done)) | refine Own.past ?_ _)) hbwa; have cr := orwa.cell; have fr := orwa.fro; have lr := orwa.lt; have o0wa : Own wa (w.heap.size + 1 + 1) #[.bool a.many, .int .i64 a.t, .int .i64 a.n, .string a.s, .bool a.b, .int .i64 a.c, .int .i64 a.r0, .int .i64 a.r1, .int .i64 a.r2, .int .i64 a.r3, .slice a.ep a.en a.ec] := Own.keep (by with_reducible (repeat' first | assumption | refine Own.drew ?_ | refine Own.drewN ?_ _ | (refine Own.at ?_; first | rfl | (simp; done)) | refine Own.past ?_ _)) hbwa; have o1wa : Own wa (w.heap.size + 1 + 1 + 1) #[.int .i64 s.t, .int .i64 s.n, .string s.s, .bool s.b, .int .i64 s.c] := Own.keep (by with_reducible (repeat' first | assumption | refine Own.drew ?_ | refine Own.drewN ?_ _ | (refine Own.at ?_; first | rfl | (simp; done)) | refine Own.past ?_ _)) hbwa; have cx0 := o0wa.cell; have fx0 := o0wa.fro; have lx0 := o0wa.lt; have cx1 := o1wa.cell; have fx1 := o1wa.fro; have lx1 := o1wa.lt) | (go_at_call 27; refine (err_ok 8 _ (by decide) (by decide)).mono ?_; rintro e wc ⟨rfl, hbwc⟩; have hBwc : Below w.heap.size w wc := bup (by with_reducible (repeat' first | assumption | exact Below.refl _ _ | refine Below.drew ?_ | refine bdrewN ?_ _ | refine Below.setCell ?_ (by first | exact Nat.le_refl _ | (simp; done) | (simp; omega) | omega) _ | refine Below.alloc ?_ (by first | exact Nat.le_refl _ | (simp; done) | (simp; omega) | omega) _)) hbwc; have zwc := hBwc.size; have orwc : Own wc (w.heap.size + 1) #[.int .i64 0, .int .i64 0, .string ⟨#[]⟩, .bool false, .int .i64 0] := Own.keep (by with_reducible (repeat' first | assumption | refine Own.drew ?_ | refine Own.drewN ?_ _ | (refine Own.at ?_; first | rfl | (simp; done)) | refine Own.past ?_ _)) hbwc; have cr := orwc.cell; have fr := orwc.fro; have lr := orwc.lt; have o0wc : Own wc (w.heap.size + 1 + 1) #[.bool a.many, .int .i64 a.t, .int .i64 a.n, .string a.s, .bool a.b, .int .i64 a.c, .int .i64 a.r0, .int .i64 a.r1, .int .i64 a.r2, .int .i64 a.r3, .slice a.ep a.en a.ec] := Own.keep (by with_reducible (repeat' first | assumption | refine Own.drew ?_ | refine Own.drewN ?_ _ | (refine Own.at ?_; first | rfl | (simp; done)) | refine Own.past ?_ _)) hbwc; have o1wc : Own wc (w.heap.size + 1 + 1 + 1) #[.int .i64 s.t, .int .i64 s.n, .string s.s, .bool s.b, .int .i64 s.c] := Own.keep (by with_reducible (repeat' first | assumption | refine Own.drew ?_ | refine Own.drewN ?_ _ | (refine Own.at ?_; first | rfl | (simp; done)) | refine Own.past ?_ _)) hbwc; have cx0 := o0wc.cell; have fx0 := o0wc.fro; have lx0 := o0wc.lt; have cx1 := o1wc.cell; have fx1 := o1wc.fro; have lx1 := o1wc.lt))
    have o9 := own_put5 (y0 := .int .i64 4) (y1 := .int .i64 0) (y2 := .string ⟨#[]⟩) (y3 := .bool false) (y4 := .int .i64 8) orwc
    have c9 := o9.cell
    exact bodyPost_ret (v := .agg #[.int .i64 4, .int .i64 0, .string ⟨#[]⟩, .bool false, .int .i64 8]) (by simp [results, Tryz.results90, go_sem, c9]) rfl ⟨rfl, by with_reducible (repeat' first | assumption | exact Below.refl _ _ | refine Below.drew ?_ | refine bdrewN ?_ _ | refine Below.setCell ?_ (by first | exact Nat.le_refl _ | (simp; done) | (simp; omega) | omega) _ | refine Below.alloc ?_ (by first | exact Nat.le_refl _ | (simp; done) | (simp; omega) | omega) _)⟩
end Go.Proofs.YtcgcnpcimfaecaaGreatDoor
