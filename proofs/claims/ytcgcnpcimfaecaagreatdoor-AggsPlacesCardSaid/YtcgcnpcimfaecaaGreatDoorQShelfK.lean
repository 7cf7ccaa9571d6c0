/- The library's contracts of internal/stringslite.Clone, laid at this program: the table of numbers and that the program bears these very bodies. No condition. The contracts of slices.BinarySearchFunc at a rectangle's entries, of aggs.has (what a cell of a rectangle has), isLine, oneSize, nth and of given.Copied. New memory alone is made. -/
import Derived.Ground.MpProg
import Derived.Shelf.Pu.Clone
import Derived.Test.YtcgcnpcimfaecaaGreatDoorProg
import Derived.Test.YtcgcnpcimfaecaaGreatDoorQGM1
import Derived.Test.YtcgcnpcimfaecaaGreatDoorQGR3
namespace Go.Proofs
open Go.Shelf
def Tryz.laysPu25_ren : Go.Shelf.Ren := ⟨fun | 25 => 173 | n => n, fun | 9 => 9 | 3 => 3 | 4 => 4 | 37 => 127 | 0 => 0 | 47 => 168 | 5 => 5 | n => n, fun | n => n⟩
theorem Tryz.laysPu25 : Go.Proofs.LaysPu.n25 Tryz.prog Tryz.laysPu25_ren := {
  mixed := by kernel_rfl
  f25 := Tryz.func173.trans (congrArg some (by kernel_rfl))
  t0 := Tryz.underlying0
  a0 := Tryz.isAgg0
  z0 := Tryz.sizeOf0
  v0 := Tryz.zeroValue0
  i0 := by kernel_rfl
  t3 := Tryz.underlying3
  a3 := Tryz.isAgg3
  z3 := Tryz.sizeOf3
  v3 := Tryz.zeroValue3
  i3 := by kernel_rfl
  t4 := Tryz.underlying4
  a4 := Tryz.isAgg4
  z4 := Tryz.sizeOf4
  v4 := Tryz.zeroValue4
  i4 := by kernel_rfl
  t5 := Tryz.underlying5
  a5 := Tryz.isAgg5
  z5 := Tryz.sizeOf5
  v5 := Tryz.zeroValue5
  i5 := by kernel_rfl
  t9 := Tryz.underlying9
  a9 := Tryz.isAgg9
  z9 := Tryz.sizeOf9
  v9 := Tryz.zeroValue9
  i9 := by kernel_rfl
  t37 := Tryz.underlying127
  a37 := Tryz.isAgg127
  z37 := Tryz.sizeOf127
  v37 := Tryz.zeroValue127
  i37 := by kernel_rfl
  t47 := Tryz.underlying168
  a47 := Tryz.isAgg168
  z47 := Tryz.sizeOf168
  v47 := Tryz.zeroValue168
  i47 := by kernel_rfl }
end Go.Proofs
namespace Go.Proofs.YtcgcnpcimfaecaaGreatDoor
open Go.Shelf Go.RowKit
set_option linter.all false
theorem bs_0 (w : World) (p : Option Addr) (c : Nat) (r k : Int) : Calls Tryz.prog 153 #[.slice p 0 c, .agg #[.int .i64 r, .int .i64 k], (.func (.func 154) #[] #[])] w fun e w' => e = .returned (.tuple #[.int .i64 0, .bool false]) ∧ Below w.heap.size w w' := by
  have mixed : Tryz.prog.follows .mixedOrders = true := by kernel_rfl
  go_enter Tryz.func153, Tryz.ntmps153
  go_wp2
  go_loopw [9, 10] (fun u v w' => u = .int .i64 0 ∧ v = .int .i64 0 ∧ Below w.heap.size w w' ∧ Own w' w.heap.size #[.int .i64 r, .int .i64 k]) (fun _ _ _ => 0)
  case atStart => exact ⟨rfl, rfl, by with_reducible (repeat' first | assumption | exact Below.refl _ _ | refine Below.drew ?_ | refine bdrewN ?_ _ | refine Below.setCell ?_ (by first | exact Nat.le_refl _ | (simp; done) | (simp; omega) | omega) _ | refine Below.alloc ?_ (by first | exact Nat.le_refl _ | (simp; done) | (simp; omega) | omega) _), by with_reducible (repeat' first | assumption | refine Own.drew ?_ | refine Own.drewN ?_ _ | (refine Own.at ?_; first | rfl | (simp; done)) | refine Own.past ?_ _)⟩
  case round =>
    obtain ⟨rfl, rfl, hB3, o3⟩ := hrel
    have c0 := o3.cell
    have f0 := o3.fro
    have l0 := o3.lt
    go_wp2
    refine wp_region_held_drew (S := fun w' => w'.cell? ⟨w.heap.size, 0, none⟩ = some (.int .i64 r)) (by kernel_rfl) (by (try dsimp only); ((repeat' apply And.intro) <;> (first | (go_keep; done) | (go_simp; done)))) (fun hHeld => ?_)
    refine wpAnyH_take (i := 0) (v := .int .i64 0) rfl (by kernel_rfl) (by kernel_rfl) (by kernel_rfl) (fun _ _ _ h => h) (Or.inl ⟨by first | rfl | kernel_rfl, by intro wz hSw; (try dsimp only at hSw); go_simp⟩) (by assumption) ?_
    (try simp only [Act.put, List.getElem_toArray, List.getElem_cons_succ, List.getElem_cons_zero, List.setIfInBounds_toArray, List.set_cons_zero, List.set_cons_succ])
    refine wpAnyH_take (i := 1) (v := .int .i64 0) rfl (by kernel_rfl) (by kernel_rfl) (by kernel_rfl) (fun _ _ _ h => h) (Or.inl ⟨by first | rfl | kernel_rfl, by intro wz hSw; (try dsimp only at hSw); go_simp⟩) (by assumption) ?_
    (try simp only [Act.put, List.getElem_toArray, List.getElem_cons_succ, List.getElem_cons_zero, List.setIfInBounds_toArray, List.set_cons_zero, List.set_cons_succ])
    refine wpAnyH_take (i := 2) (v := .int .i64 0) rfl (by kernel_rfl) (by kernel_rfl) (by kernel_rfl) (fun _ _ _ h => h) (Or.inl ⟨by first | rfl | kernel_rfl, by intro wz hSw; (try dsimp only at hSw); go_simp⟩) (by assumption) ?_
    (try simp only [Act.put, List.getElem_toArray, List.getElem_cons_succ, List.getElem_cons_zero, List.setIfInBounds_toArray, List.set_cons_zero, List.set_cons_succ])
    refine wpAnyH_take (i := 3) (v := .bool false) rfl (by kernel_rfl) (by kernel_rfl) (by kernel_rfl) (fun _ _ _ h => h) (Or.inl ⟨by first | rfl | kernel_rfl, by intro wz hSw; (try dsimp only at hSw); go_simp⟩) (by assumption) ?_
    (try simp only [Act.put, List.getElem_toArray, List.getElem_cons_succ, List.getElem_cons_zero, List.setIfInBounds_toArray, List.set_cons_zero, List.set_cons_succ])
    refine wpAnyH_take (i := 4) (v := .bool false) rfl (by kernel_rfl) (by kernel_rfl) (by kernel_rfl) (fun _ _ _ h => h) (Or.inl ⟨by first | rfl | kernel_rfl, by intro wz hSw; (try dsimp only at hSw); go_simp⟩) (by assumption) ?_
    (try simp only [Act.put, List.getElem_toArray, List.getElem_cons_succ, List.getElem_cons_zero, List.setIfInBounds_toArray, List.set_cons_zero, List.set_cons_succ])
    refine wpAnyH_take (i := 5) (v := undef) rfl (by kernel_rfl) (by kernel_rfl) (by kernel_rfl) (fun _ _ _ h => h) (Or.inr ⟨by kernel_rfl, rfl⟩) (by assumption) ?_
    (try simp only [Act.put, List.getElem_toArray, List.getElem_cons_succ, List.getElem_cons_zero, List.setIfInBounds_toArray, List.set_cons_zero, List.set_cons_succ])
    refine wpAnyH_take (i := 6) (v := undef) rfl (by kernel_rfl) (by kernel_rfl) (by kernel_rfl) (fun _ _ _ h => h) (Or.inr ⟨by kernel_rfl, rfl⟩) (by assumption) ?_
    (try simp only [Act.put, List.getElem_toArray, List.getElem_cons_succ, List.getElem_cons_zero, List.setIfInBounds_toArray, List.set_cons_zero, List.set_cons_succ])
    refine wpAnyH_take (i := 7) (v := undef) rfl (by kernel_rfl) (by kernel_rfl) (by kernel_rfl) (fun _ _ _ h => h) (Or.inr ⟨by kernel_rfl, rfl⟩) (by assumption) ?_
    (try simp only [Act.put, List.getElem_toArray, List.getElem_cons_succ, List.getElem_cons_zero, List.setIfInBounds_toArray, List.set_cons_zero, List.set_cons_succ])
    refine wpAnyH_take (i := 8) (v := undef) rfl (by kernel_rfl) (by kernel_rfl) (by kernel_rfl) (fun _ _ _ h => h) (Or.inr ⟨by kernel_rfl, rfl⟩) (by assumption) ?_
    (try simp only [Act.put, List.getElem_toArray, List.getElem_cons_succ, List.getElem_cons_zero, List.setIfInBounds_toArray, List.set_cons_zero, List.set_cons_succ])
    refine wpAnyH_take (i := 9) (v := undef) rfl (by kernel_rfl) (by kernel_rfl) (by kernel_rfl) (fun _ _ _ h => h) (Or.inr ⟨by kernel_rfl, rfl⟩) (by assumption) ?_
    (try simp only [Act.put, List.getElem_toArray, List.getElem_cons_succ, List.getElem_cons_zero, List.setIfInBounds_toArray, List.set_cons_zero, List.set_cons_succ])
    refine wpAnyH_take (i := 10) (v := undef) rfl (by kernel_rfl) (by kernel_rfl) (by kernel_rfl) (fun _ _ _ h => h) (Or.inr ⟨by kernel_rfl, rfl⟩) (by assumption) ?_
    (try simp only [Act.put, List.getElem_toArray, List.getElem_cons_succ, List.getElem_cons_zero, List.setIfInBounds_toArray, List.set_cons_zero, List.set_cons_succ])
    refine wpAnyH_take (i := 11) (v := undef) rfl (by kernel_rfl) (by kernel_rfl) (by kernel_rfl) (fun _ _ _ h => h) (Or.inr ⟨by kernel_rfl, rfl⟩) (by assumption) ?_
    (try simp only [Act.put, List.getElem_toArray, List.getElem_cons_succ, List.getElem_cons_zero, List.setIfInBounds_toArray, List.set_cons_zero, List.set_cons_succ])
    refine wpAnyH_take (i := 12) (v := undef) rfl (by kernel_rfl) (by kernel_rfl) (by kernel_rfl) (fun _ _ _ h => h) (Or.inr ⟨by kernel_rfl, rfl⟩) (by assumption) ?_
    (try simp only [Act.put, List.getElem_toArray, List.getElem_cons_succ, List.getElem_cons_zero, List.setIfInBounds_toArray, List.set_cons_zero, List.set_cons_succ])
    refine wpAnyH_take (i := 13) (v := .bool false) rfl (by kernel_rfl) (by kernel_rfl) (by kernel_rfl) (fun _ _ _ h => h) (Or.inl ⟨by first | rfl | kernel_rfl, by intro wz hSw; (try dsimp only at hSw); go_simp⟩) (by assumption) ?_
    (try simp only [Act.put, List.getElem_toArray, List.getElem_cons_succ, List.getElem_cons_zero, List.setIfInBounds_toArray, List.set_cons_zero, List.set_cons_succ])
    refine wpAnyH_take (i := 14) (v := .int .i64 0) rfl (by kernel_rfl) (by kernel_rfl) (by kernel_rfl) (fun _ _ _ h => h) (Or.inl ⟨by first | rfl | kernel_rfl, by intro wz hSw; (try dsimp only at hSw); go_simp⟩) (by assumption) ?_
    (try simp only [Act.put, List.getElem_toArray, List.getElem_cons_succ, List.getElem_cons_zero, List.setIfInBounds_toArray, List.set_cons_zero, List.set_cons_succ])
    refine wpAnyH_take (i := 15) (v := .bool false) rfl (by kernel_rfl) (by kernel_rfl) (by kernel_rfl) (fun _ _ _ h => h) (Or.inl ⟨by first | rfl | kernel_rfl, by intro wz hSw; (try dsimp only at hSw); go_simp⟩) (by assumption) ?_
    (try simp only [Act.put, List.getElem_toArray, List.getElem_cons_succ, List.getElem_cons_zero, List.setIfInBounds_toArray, List.set_cons_zero, List.set_cons_succ])
    refine wpAnyH_done (by kernel_rfl) ?_ _
    go_wp2
    exact bodyPost_ret (v := .tuple #[.int .i64 0, .bool false]) (by simp [results, Tryz.results153, go_sem]) rfl ⟨rfl, by with_reducible (repeat' first | assumption | exact Below.refl _ _ | refine Below.drew ?_ | refine bdrewN ?_ _ | refine Below.setCell ?_ (by first | exact Nat.le_refl _ | (simp; done) | (simp; omega) | omega) _ | refine Below.alloc ?_ (by first | exact Nat.le_refl _ | (simp; done) | (simp; omega) | omega) _)⟩
theorem bs_any (w : World) (p : Option Addr) (n c : Nat) (es : List En) (r k : Int) (hv : View En.cells 7 w (.slice p n c) es) (hl : es.length ≤ 1099511627776) (hS : OrdE es) : Calls Tryz.prog 153 #[.slice p n c, .agg #[.int .i64 r, .int .i64 k], (.func (.func 154) #[] #[])] w fun e w' => (∃ (i : Nat) (f : Bool), e = .returned (.tuple #[.int .i64 i, .bool f]) ∧ i ≤ n ∧ Fnd es r k i f) ∧ Below w.heap.size w w' := by
  obtain ⟨q, cap, e0, hc, hf⟩ := hv
  injection e0 with e1 e2 e3
  subst e1 e2 e3
  by_cases h0 : 0 < es.length
  · obtain ⟨b, o, rfl, hla, HA⟩ := hf h0
    exact bs_y w b o c es.length es r k hla HA rfl hc h0 hl hS
  · have e : es = [] := List.eq_nil_of_length_eq_zero (by omega)
    subst e
    exact (bs_0 w p c r k).mono fun e w' ⟨h1, h2⟩ => ⟨⟨0, false, h1, Nat.zero_le _, ⟨(fun h => nomatch h), (fun _ x hx => nomatch hx)⟩⟩, h2⟩
/-- What a cell of a rectangle has. -/
def atE (es : List En) (r k : Int) : En := (es.find? (fun x => decide (x.r = r ∧ x.k = k))).getD ⟨r, k, 0, 0, ⟨#[]⟩, false, 0⟩
theorem atE_no {es : List En} {r k : Int} (h : ∀ x ∈ es, ¬ (x.r = r ∧ x.k = k)) : atE es r k = ⟨r, k, 0, 0, ⟨#[]⟩, false, 0⟩ := by
  unfold atE
  rw [List.find?_eq_none.2 (fun x hx => by have := h x hx; simpa using this)]
  rfl
theorem atE_at {es : List En} {r k : Int} {i : Nat} {x : En} (hS : OrdE es) (hx : es[i]? = some x) (h1 : x.r = r) (h2 : x.k = k) : atE es r k = x := by
  unfold atE
  have h : es.find? (fun x => decide (x.r = r ∧ x.k = k)) = some x := by
    rw [List.find?_eq_some_iff_getElem]
    obtain ⟨hi, e⟩ := List.getElem?_eq_some_iff.1 hx
    refine ⟨by simp [h1, h2], i, hi, e, fun j hj => ?_⟩
    have hjl : j < es.length := by omega
    have := hS j i es[j] x hj (List.getElem?_eq_getElem hjl) hx
    have g : ¬ (es[j].r = r ∧ es[j].k = k) := by omega
    rw [decide_eq_false g]; rfl
  rw [h]; rfl
theorem bs_at (w : World) (p : Option Addr) (n c : Nat) (es : List En) (r k : Int) (i0 : Nat) (x : En) (hv : View En.cells 7 w (.slice p n c) es) (hl : es.length ≤ 1099511627776) (hS : OrdE es) (hx : es[i0]? = some x) (h1 : x.r = r) (h2 : x.k = k) : Calls Tryz.prog 153 #[.slice p n c, .agg #[.int .i64 r, .int .i64 k], (.func (.func 154) #[] #[])] w fun e w' => e = .returned (.tuple #[.int .i64 i0, .bool true]) ∧ Below w.heap.size w w' := by
  refine (bs_any w p n c es r k hv hl hS).mono ?_
  rintro e w' ⟨⟨i, f, rfl, _, hF⟩, hb⟩
  refine ⟨?_, hb⟩
  cases f
  · exact absurd ⟨h1, h2⟩ (hF.2 rfl x (List.mem_of_getElem? hx))
  · obtain ⟨y, hy, g1, g2⟩ := hF.1 rfl
    have e : i = i0 := by
      rcases Nat.lt_trichotomy i i0 with q | q | q
      · have := hS i i0 y x q hy hx; omega
      · exact q
      · have := hS i0 i x y q hx hy; omega
    rw [e]
theorem bs_none (w : World) (p : Option Addr) (n c : Nat) (es : List En) (r k : Int) (hv : View En.cells 7 w (.slice p n c) es) (hl : es.length ≤ 1099511627776) (hS : OrdE es) (hx : ∀ x ∈ es, ¬ (x.r = r ∧ x.k = k)) : Calls Tryz.prog 153 #[.slice p n c, .agg #[.int .i64 r, .int .i64 k], (.func (.func 154) #[] #[])] w fun e w' => (∃ i : Int, e = .returned (.tuple #[.int .i64 i, .bool false])) ∧ Below w.heap.size w w' := by
  refine (bs_any w p n c es r k hv hl hS).mono ?_
  rintro e w' ⟨⟨i, f, rfl, _, hF⟩, hb⟩
  refine ⟨⟨i, ?_⟩, hb⟩
  cases f
  · rfl
  · obtain ⟨y, hy, g1, g2⟩ := hF.1 rfl
    exact absurd ⟨g1, g2⟩ (hx y (List.mem_of_getElem? hy))
set_option maxRecDepth 100000 in
theorem has_y (w : World) (m : Bool) (t0 n0 : Int) (s0 : ByteArray) (b0 : Bool) (c0' r0 r1 r2 r3 : Int) (ep : Option Addr) (en ec : Nat) (r k : Int) (es : List En) (i0 : Nat) (x : En) (hv : Hid (View En.cells 7 w (.slice ep en ec) es)) (hl : es.length ≤ 1099511627776) (hS : Hid (OrdE es)) (hx : Hid (es[i0]? = some x)) (h1 : Hid (x.r = r)) (h2 : Hid (x.k = k)) : Calls Tryz.prog 125 #[.agg #[.bool m, .int .i64 t0, .int .i64 n0, .string s0, .bool b0, .int .i64 c0', .int .i64 r0, .int .i64 r1, .int .i64 r2, .int .i64 r3, .slice ep en ec], .agg #[.int .i64 r, .int .i64 k]] w fun e w' => e = .returned (.agg #[.int .i64 x.t, .int .i64 x.n, .string x.s, .bool x.b, .int .i64 x.c]) ∧ Below w.heap.size w w' := by
  obtain ⟨q, cap, e0, hc, hf⟩ := hv.out
  injection e0 with e1 e2 e3
  have hi := (List.getElem?_eq_some_iff.1 hx.out).1
  obtain ⟨b, o, hp, hla, HA⟩ := hf (by omega)
  rw [hp] at e1
  subst e1
  have hil : (i0 : Int) < en := by omega
  have hec : en ≤ ec := by omega
  have he : en ≤ 1099511627776 := by omega
  have HE : Hid (en ≤ 1099511627776) := he
  clear he
  clear e2 e3 hf hi
  have x2 : w.cell? ⟨b, o + i0 * 7 + 2, none⟩ = some (.int .i64 x.t) := HA i0 x hx.out 2 (by decide)
  have x3 : w.cell? ⟨b, o + i0 * 7 + 3, none⟩ = some (.int .i64 x.n) := HA i0 x hx.out 3 (by decide)
  have x4 : w.cell? ⟨b, o + i0 * 7 + 4, none⟩ = some (.string x.s) := HA i0 x hx.out 4 (by decide)
  have x5 : w.cell? ⟨b, o + i0 * 7 + 5, none⟩ = some (.bool x.b) := HA i0 x hx.out 5 (by decide)
  have x6 : w.cell? ⟨b, o + i0 * 7 + 6, none⟩ = some (.int .i64 x.c) := HA i0 x hx.out 6 (by decide)
  clear HA
  go_enter Tryz.func125, Tryz.ntmps125
  go_wp2_with (go_at_call 153; refine (bs_at _ _ en ec es r k i0 x (View.keep hv.out (by with_reducible (repeat' first | assumption | exact Below.refl _ _ | refine Below.drew ?_ | refine bdrewN ?_ _ | refine Below.setCell ?_ (by first | exact Nat.le_refl _ | (simp; done) | (simp; omega) | omega) _ | refine Below.alloc ?_ (by first | exact Nat.le_refl _ | (simp; done) | (simp; omega) | omega) _))) hl hS.out hx.out h1.out h2.out).mono ?_; rintro e wa ⟨rfl, hbwa⟩; have hBwa : Below w.heap.size w wa := bup (by with_reducible (repeat' first | assumption | exact Below.refl _ _ | refine Below.drew ?_ | refine bdrewN ?_ _ | refine Below.setCell ?_ (by first | exact Nat.le_refl _ | (simp; done) | (simp; omega) | omega) _ | refine Below.alloc ?_ (by first | exact Nat.le_refl _ | (simp; done) | (simp; omega) | omega) _)) hbwa; have zwa := hBwa.size; have o0wa : Own wa (w.heap.size) #[.bool m, .int .i64 t0, .int .i64 n0, .string s0, .bool b0, .int .i64 c0', .int .i64 r0, .int .i64 r1, .int .i64 r2, .int .i64 r3, .slice (some ⟨b, o, none⟩) en ec] := Own.keep (by with_reducible (repeat' first | assumption | refine Own.drew ?_ | refine Own.drewN ?_ _ | (refine Own.at ?_; first | rfl | (simp; done)) | refine Own.past ?_ _)) hbwa; have c0 := o0wa.cell; have f0 := o0wa.fro; have l0 := o0wa.lt; have o1wa : Own wa (w.heap.size + 2) #[.int .i64 0, .int .i64 0, .string ⟨#[]⟩, .bool false, .int .i64 0] := Own.keep (by with_reducible (repeat' first | assumption | refine Own.drew ?_ | refine Own.drewN ?_ _ | (refine Own.at ?_; first | rfl | (simp; done)) | refine Own.past ?_ _)) hbwa; have c1 := o1wa.cell; have f1 := o1wa.fro; have l1 := o1wa.lt; have y2 := (hBwa.cell (p := ⟨b, o + i0 * 7 + 2, none⟩) hla).trans x2; have y3 := (hBwa.cell (p := ⟨b, o + i0 * 7 + 3, none⟩) hla).trans x3; have y4 := (hBwa.cell (p := ⟨b, o + i0 * 7 + 4, none⟩) hla).trans x4; have y5 := (hBwa.cell (p := ⟨b, o + i0 * 7 + 5, none⟩) hla).trans x5; have y6 := (hBwa.cell (p := ⟨b, o + i0 * 7 + 6, none⟩) hla).trans x6)
  have o9 := own_put5 (y0 := .int .i64 x.t) (y1 := .int .i64 x.n) (y2 := .string x.s) (y3 := .bool x.b) (y4 := .int .i64 x.c) o1wa
  have c9 := o9.cell
  exact bodyPost_ret (v := .agg #[.int .i64 x.t, .int .i64 x.n, .string x.s, .bool x.b, .int .i64 x.c]) (by simp [results, Tryz.results125, go_sem, c9]) rfl ⟨rfl, by with_reducible (repeat' first | assumption | exact Below.refl _ _ | refine Below.drew ?_ | refine bdrewN ?_ _ | refine Below.setCell ?_ (by first | exact Nat.le_refl _ | (simp; done) | (simp; omega) | omega) _ | refine Below.alloc ?_ (by first | exact Nat.le_refl _ | (simp; done) | (simp; omega) | omega) _)⟩
set_option maxRecDepth 100000 in
theorem has_n (w : World) (m : Bool) (t0 n0 : Int) (s0 : ByteArray) (b0 : Bool) (c0' r0 r1 r2 r3 : Int) (ep : Option Addr) (en ec : Nat) (r k : Int) (es : List En) (hv : Hid (View En.cells 7 w (.slice ep en ec) es)) (hl : es.length ≤ 1099511627776) (hS : Hid (OrdE es)) (hx : Hid (∀ x ∈ es, ¬ (x.r = r ∧ x.k = k))) : Calls Tryz.prog 125 #[.agg #[.bool m, .int .i64 t0, .int .i64 n0, .string s0, .bool b0, .int .i64 c0', .int .i64 r0, .int .i64 r1, .int .i64 r2, .int .i64 r3, .slice ep en ec], .agg #[.int .i64 r, .int .i64 k]] w fun e w' => e = .returned (.agg #[.int .i64 0, .int .i64 0, .string ⟨#[]⟩, .bool false, .int .i64 0]) ∧ Below w.heap.size w w' := by
  go_enter Tryz.func125, Tryz.ntmps125
  go_wp2_with (go_at_call 153; refine (bs_none _ ep en ec es r k (View.keep hv.out (by with_reducible (repeat' first | assumption | exact Below.refl _ _ | refine Below.drew ?_ | refine bdrewN ?_ _ | refine Below.setCell ?_ (by first | exact Nat.le_refl _ | (simp; done) | (simp; omega) | omega) _ | refine Below.alloc ?_ (by first | exact Nat.le_refl _ | (simp; done) | (simp; omega) | omega) _))) hl hS.out hx.out).mono ?_; rintro e wa ⟨⟨i, rfl⟩, hbwa⟩; have hBwa : Below w.heap.size w wa := bup (by with_reducible (repeat' first | assumption | exact Below.refl _ _ | refine Below.drew ?_ | refine bdrewN ?_ _ | refine Below.setCell ?_ (by first | exact Nat.le_refl _ | (simp; done) | (simp; omega) | omega) _ | refine Below.alloc ?_ (by first | exact Nat.le_refl _ | (simp; done) | (simp; omega) | omega) _)) hbwa; have zwa := hBwa.size; have o0wa : Own wa (w.heap.size) #[.bool m, .int .i64 t0, .int .i64 n0, .string s0, .bool b0, .int .i64 c0', .int .i64 r0, .int .i64 r1, .int .i64 r2, .int .i64 r3, .slice ep en ec] := Own.keep (by with_reducible (repeat' first | assumption | refine Own.drew ?_ | refine Own.drewN ?_ _ | (refine Own.at ?_; first | rfl | (simp; done)) | refine Own.past ?_ _)) hbwa; have c0 := o0wa.cell; have f0 := o0wa.fro; have l0 := o0wa.lt; have o1wa : Own wa (w.heap.size + 2) #[.int .i64 0, .int .i64 0, .string ⟨#[]⟩, .bool false, .int .i64 0] := Own.keep (by with_reducible (repeat' first | assumption | refine Own.drew ?_ | refine Own.drewN ?_ _ | (refine Own.at ?_; first | rfl | (simp; done)) | refine Own.past ?_ _)) hbwa; have c1 := o1wa.cell; have f1 := o1wa.fro; have l1 := o1wa.lt)
  have o9 := own_put5 (y0 := .int .i64 0) (y1 := .int .i64 0) (y2 := .string ⟨#[]⟩) (y3 := .bool false) (y4 := .int .i64 0) o1wa
  have c9 := o9.cell
  exact bodyPost_ret (v := .agg #[.int .i64 0, .int .i64 0, .string ⟨#[]⟩, .bool false, .int .i64 0]) (by simp [results, Tryz.results125, go_sem, c9]) rfl ⟨rfl, by with_reducible (repeat' first | assumption | exact Below.refl _ _ | refine Below.drew ?_ | refine bdrewN ?_ _ | refine Below.setCell ?_ (by first | exact Nat.le_refl _ | (simp; done) | (simp; omega) | omega) _ | refine Below.alloc ?_ (by first | exact Nat.le_refl _ | (simp; done) | (simp; omega) | omega) _)⟩
theorem has_any (w : World) (m : Bool) (t0 n0 : Int) (s0 : ByteArray) (b0 : Bool) (c0' r0 r1 r2 r3 : Int) (ep : Option Addr) (en ec : Nat) (r k : Int) (es : List En) (hv : Hid (View En.cells 7 w (.slice ep en ec) es)) (hl : es.length ≤ 1099511627776) (hS : Hid (OrdE es)) : Calls Tryz.prog 125 #[.agg #[.bool m, .int .i64 t0, .int .i64 n0, .string s0, .bool b0, .int .i64 c0', .int .i64 r0, .int .i64 r1, .int .i64 r2, .int .i64 r3, .slice ep en ec], .agg #[.int .i64 r, .int .i64 k]] w fun e w' => e = .returned (.agg #[.int .i64 (atE es r k).t, .int .i64 (atE es r k).n, .string (atE es r k).s, .bool (atE es r k).b, .int .i64 (atE es r k).c]) ∧ Below w.heap.size w w' := by
  by_cases h : ∀ x ∈ es, ¬ (x.r = r ∧ x.k = k)
  · rw [atE_no h]
    exact has_n w m t0 n0 s0 b0 c0' r0 r1 r2 r3 ep en ec r k es hv hl hS h
  · obtain ⟨x, hx, h1, h2⟩ : ∃ x, x ∈ es ∧ x.r = r ∧ x.k = k := by
      apply Classical.byContradiction
      intro g
      exact h (fun x hx q => g ⟨x, hx, q.1, q.2⟩)
    obtain ⟨i, hi⟩ := List.getElem?_of_mem hx
    rw [atE_at hS.out hi h1 h2]
    exact has_y w m t0 n0 s0 b0 c0' r0 r1 r2 r3 ep en ec r k es i x hv hl hS hi h1 h2
theorem slc_any (s : ByteArray) (w : World) (h : s.size ≤ 281474976710656) : Calls Tryz.prog 173 #[.string s] w fun e w' => e = .returned (.string s) ∧ Below w.heap.size w w' := AnyPu.stringslite_Clone Tryz.laysPu25 s w h
theorem clone_any (s : ByteArray) (w : World) (h : s.size ≤ 281474976710656) : Calls Tryz.prog 155 #[.string s] w fun e w' => e = .returned (.string s) ∧ Below w.heap.size w w' := by
  have HC : Hid _ := fun W : World => slc_any s W h
  go_enter Tryz.func155, Tryz.ntmps155
  go_wp2_with (go_at_call 173; refine (HC.out _).mono ?_; rintro e w1 ⟨rfl, hb⟩; have hB : Below w.heap.size w w1 := bup (by with_reducible (repeat' first | assumption | exact Below.refl _ _ | refine Below.drew ?_ | refine bdrewN ?_ _ | refine Below.setCell ?_ (by first | exact Nat.le_refl _ | (simp; done) | (simp; omega) | omega) _ | refine Below.alloc ?_ (by first | exact Nat.le_refl _ | (simp; done) | (simp; omega) | omega) _)) hb)
  go_ret
  exact ⟨rfl, by with_reducible (repeat' first | assumption | exact Below.refl _ _ | refine Below.drew ?_ | refine bdrewN ?_ _ | refine Below.setCell ?_ (by first | exact Nat.le_refl _ | (simp; done) | (simp; omega) | omega) _ | refine Below.alloc ?_ (by first | exact Nat.le_refl _ | (simp; done) | (simp; omega) | omega) _)⟩
theorem copied_any (x : En) (w : World) (h : x.s.size ≤ 281474976710656) : Calls Tryz.prog 129 #[.agg #[.int .i64 x.t, .int .i64 x.n, .string x.s, .bool x.b, .int .i64 x.c]] w fun e w' => e = .returned (.agg #[.int .i64 x.t, .int .i64 x.n, .string x.s, .bool x.b, .int .i64 x.c]) ∧ Below w.heap.size w w' := by
  have HC : Hid _ := fun W : World => clone_any x.s W h
  go_enter Tryz.func129, Tryz.ntmps129
  go_wp2_with (go_at_call 155; refine (HC.out _).mono ?_; rintro e wa ⟨rfl, hbwa⟩; have hBwa : Below w.heap.size w wa := bup (by with_reducible (repeat' first | assumption | exact Below.refl _ _ | refine Below.drew ?_ | refine bdrewN ?_ _ | refine Below.setCell ?_ (by first | exact Nat.le_refl _ | (simp; done) | (simp; omega) | omega) _ | refine Below.alloc ?_ (by first | exact Nat.le_refl _ | (simp; done) | (simp; omega) | omega) _)) hbwa; have zwa := hBwa.size; have o0wa : Own wa (w.heap.size) #[.int .i64 x.t, .int .i64 x.n, .string x.s, .bool x.b, .int .i64 x.c] := Own.keep (by with_reducible (repeat' first | assumption | refine Own.drew ?_ | refine Own.drewN ?_ _ | (refine Own.at ?_; first | rfl | (simp; done)) | refine Own.past ?_ _)) hbwa; have c0 := o0wa.cell; have f0 := o0wa.fro; have l0 := o0wa.lt; have o1wa : Own wa (w.heap.size + 1) #[.int .i64 0, .int .i64 0, .string ⟨#[]⟩, .bool false, .int .i64 0] := Own.keep (by with_reducible (repeat' first | assumption | refine Own.drew ?_ | refine Own.drewN ?_ _ | (refine Own.at ?_; first | rfl | (simp; done)) | refine Own.past ?_ _)) hbwa; have c1 := o1wa.cell; have f1 := o1wa.fro; have l1 := o1wa.lt)
  have o9 := own_put5 (y0 := .int .i64 x.t) (y1 := .int .i64 x.n) (y2 := .string x.s) (y3 := .bool x.b) (y4 := .int .i64 x.c) (o1wa.aside (a := ⟨w.heap.size, 2, none⟩) (by simp) (.string x.s))
  have c9 := o9.cell
  exact bodyPost_ret (v := .agg #[.int .i64 x.t, .int .i64 x.n, .string x.s, .bool x.b, .int .i64 x.c]) (by simp [results, Tryz.results129, go_sem, c9]) rfl ⟨rfl, by with_reducible (repeat' first | assumption | exact Below.refl _ _ | refine Below.drew ?_ | refine bdrewN ?_ _ | refine Below.setCell ?_ (by first | exact Nat.le_refl _ | (simp; done) | (simp; omega) | omega) _ | refine Below.alloc ?_ (by first | exact Nat.le_refl _ | (simp; done) | (simp; omega) | omega) _)⟩
/-- A rectangle of one row or one column. -/
def lineB (r0 r1 r2 r3 : Int) : Bool := decide (r0 = r2) || decide (r1 = r3)
theorem line_any (r0 r1 r2 r3 : Int) (w : World) (h1 : 0 ≤ r0) (h2 : r0 ≤ r2) (h3 : r2 ≤ 1048576) (h4 : 0 ≤ r1) (h5 : r1 ≤ r3) (h6 : r3 ≤ 1048576) : Calls Tryz.prog 127 #[.agg #[.int .i64 r0, .int .i64 r1, .int .i64 r2, .int .i64 r3]] w fun e w' => e = .returned (.bool (lineB r0 r1 r2 r3)) ∧ Below w.heap.size w w' := by
  unfold lineB
  by_cases a : r0 = r2
  · have e : (r2 - r0 + 1 == 1) = true := by simp; omega
    rw [decide_eq_true a, Bool.true_or]
    clear a
    go_enter Tryz.func127, Tryz.ntmps127
    go_wp2_with (go_at_call 131; refine (rows_any _ _ _ _ _ (by omega) (by omega) (by omega) (by omega)).mono ?_; rintro e wa ⟨rfl, hbwa⟩; have hBwa : Below w.heap.size w wa := bup (by with_reducible (repeat' first | assumption | exact Below.refl _ _ | refine Below.drew ?_ | refine bdrewN ?_ _ | refine Below.setCell ?_ (by first | exact Nat.le_refl _ | (simp; done) | (simp; omega) | omega) _ | refine Below.alloc ?_ (by first | exact Nat.le_refl _ | (simp; done) | (simp; omega) | omega) _)) hbwa; have zwa := hBwa.size; have o0wa : Own wa (w.heap.size) #[.int .i64 r0, .int .i64 r1, .int .i64 r2, .int .i64 r3] := Own.keep (by with_reducible (repeat' first | assumption | refine Own.drew ?_ | refine Own.drewN ?_ _ | (refine Own.at ?_; first | rfl | (simp; done)) | refine Own.past ?_ _)) hbwa; have c0 := o0wa.cell; have f0 := o0wa.fro; have l0 := o0wa.lt)
    go_ret
    exact ⟨rfl, by with_reducible (repeat' first | assumption | exact Below.refl _ _ | refine Below.drew ?_ | refine bdrewN ?_ _ | refine Below.setCell ?_ (by first | exact Nat.le_refl _ | (simp; done) | (simp; omega) | omega) _ | refine Below.alloc ?_ (by first | exact Nat.le_refl _ | (simp; done) | (simp; omega) | omega) _)⟩
  · have e : (r2 - r0 + 1 == 1) = false := by simp; omega
    rw [decide_eq_false a, Bool.false_or]
    clear a
    by_cases a : r1 = r3
    · have e2 : (r3 - r1 + 1 == 1) = true := by simp; omega
      rw [decide_eq_true a]
      clear a
      go_enter Tryz.func127, Tryz.ntmps127
      go_wp2_with (first | (go_at_call 131; refine (rows_any _ _ _ _ _ (by omega) (by omega) (by omega) (by omega)).mono ?_; rintro e wa ⟨rfl, hbwa⟩; have hBwa : Below w.heap.size w wa := bup (by with_reducible (repeat' first | assumption | exact Below.refl _ _ | refine Below.drew ?_ | refine bdrewN ?_ _ | refine Below.setCell ?_ (by first | exact Nat.le_refl _ | (simp; done) | (simp; omega) | omega) _ | refine Below.alloc ?_ (by first | exact Nat.le_refl _ | (simp; done) | (simp; omega) | omega) _)) hbwa; have zwa := hBwa.size; have o0wa : Own wa (w.heap.size) #[.int .i64 r0, .int .i64 r1, .int .i64 r2, .int .i64 r3] := Own.keep (by with_reducible (repeat' first | assumption | refine Own.drew ?_ | refine Own.drewN ?_ _ | (refine Own.at ?_; first | rfl | (simp; done)) | refine Own.past ?_ _)) hbwa; have c0 := o0wa.cell; have f0 := o0wa.fro; have l0 := o0wa.lt) | (go_at_call 132; refine (cols_any _ _ _ _ _ (by omega) (by omega) (by omega) (by omega)).mono ?_; rintro e wb ⟨rfl, hbwb⟩; have hBwb : Below w.heap.size w wb := bup (by with_reducible (repeat' first | assumption | exact Below.refl _ _ | refine Below.drew ?_ | refine bdrewN ?_ _ | refine Below.setCell ?_ (by first | exact Nat.le_refl _ | (simp; done) | (simp; omega) | omega) _ | refine Below.alloc ?_ (by first | exact Nat.le_refl _ | (simp; done) | (simp; omega) | omega) _)) hbwb; have zwb := hBwb.size; have o0wb : Own wb (w.heap.size) #[.int .i64 r0, .int .i64 r1, .int .i64 r2, .int .i64 r3] := Own.keep (by with_reducible (repeat' first | assumption | refine Own.drew ?_ | refine Own.drewN ?_ _ | (refine Own.at ?_; first | rfl | (simp; done)) | refine Own.past ?_ _)) hbwb; have c0 := o0wb.cell; have f0 := o0wb.fro; have l0 := o0wb.lt))
      go_ret
      exact ⟨rfl, by with_reducible (repeat' first | assumption | exact Below.refl _ _ | refine Below.drew ?_ | refine bdrewN ?_ _ | refine Below.setCell ?_ (by first | exact Nat.le_refl _ | (simp; done) | (simp; omega) | omega) _ | refine Below.alloc ?_ (by first | exact Nat.le_refl _ | (simp; done) | (simp; omega) | omega) _)⟩
    · have e2 : (r3 - r1 + 1 == 1) = false := by simp; omega
      rw [decide_eq_false a]
      clear a
      go_enter Tryz.func127, Tryz.ntmps127
      go_wp2_with (first | (go_at_call 131; refine (rows_any _ _ _ _ _ (by omega) (by omega) (by omega) (by omega)).mono ?_; rintro e wa ⟨rfl, hbwa⟩; have hBwa : Below w.heap.size w wa := bup (by with_reducible (repeat' first | assumption | exact Below.refl _ _ | refine Below.drew ?_ | refine bdrewN ?_ _ | refine Below.setCell ?_ (by first | exact Nat.le_refl _ | (simp; done) | (simp; omega) | omega) _ | refine Below.alloc ?_ (by first | exact Nat.le_refl _ | (simp; done) | (simp; omega) | omega) _)) hbwa; have zwa := hBwa.size; have o0wa : Own wa (w.heap.size) #[.int .i64 r0, .int .i64 r1, .int .i64 r2, .int .i64 r3] := Own.keep (by with_reducible (repeat' first | assumption | refine Own.drew ?_ | refine Own.drewN ?_ _ | (refine Own.at ?_; first | rfl | (simp; done)) | refine Own.past ?_ _)) hbwa; have c0 := o0wa.cell; have f0 := o0wa.fro; have l0 := o0wa.lt) | (go_at_call 132; refine (cols_any _ _ _ _ _ (by omega) (by omega) (by omega) (by omega)).mono ?_; rintro e wb ⟨rfl, hbwb⟩; have hBwb : Below w.heap.size w wb := bup (by with_reducible (repeat' first | assumption | exact Below.refl _ _ | refine Below.drew ?_ | refine bdrewN ?_ _ | refine Below.setCell ?_ (by first | exact Nat.le_refl _ | (simp; done) | (simp; omega) | omega) _ | refine Below.alloc ?_ (by first | exact Nat.le_refl _ | (simp; done) | (simp; omega) | omega) _)) hbwb; have zwb := hBwb.size; have o0wb : Own wb (w.heap.size) #[.int .i64 r0, .int .i64 r1, .int .i64 r2, .int .i64 r3] := Own.keep (by with_reducible (repeat' first | assumption | refine Own.drew ?_ | refine Own.drewN ?_ _ | (refine Own.at ?_; first | rfl | (simp; done)) | refine Own.past ?_ _)) hbwb; have c0 := o0wb.cell; have f0 := o0wb.fro; have l0 := o0wb.lt))
      go_ret
      exact ⟨rfl, by with_reducible (repeat' first | assumption | exact Below.refl _ _ | refine Below.drew ?_ | refine bdrewN ?_ _ | refine Below.setCell ?_ (by first | exact Nat.le_refl _ | (simp; done) | (simp; omega) | omega) _ | refine Below.alloc ?_ (by first | exact Nat.le_refl _ | (simp; done) | (simp; omega) | omega) _)⟩
/-- The cell of a line that so many places stand ahead of. -/
def nthR (r0 r2 i : Int) : Int := if r0 = r2 then r0 else r0 + i
def nthK (r0 r1 r2 i : Int) : Int := if r0 = r2 then r1 + i else r1
theorem nth_any (r0 r1 r2 r3 i : Int) (w : World) (h1 : 0 ≤ r0) (h2 : r0 ≤ r2) (h3 : r2 ≤ 1048576) (h4 : 0 ≤ r1) (h5 : r1 ≤ r3) (h6 : r3 ≤ 1048576) (h7 : 0 ≤ i) (h8 : i ≤ 1099511627776) : Calls Tryz.prog 130 #[.agg #[.int .i64 r0, .int .i64 r1, .int .i64 r2, .int .i64 r3], .int .i64 i] w fun e w' => e = .returned (.agg #[.int .i64 (nthR r0 r2 i), .int .i64 (nthK r0 r1 r2 i)]) ∧ Below w.heap.size w w' := by
  unfold nthR nthK
  by_cases a : r0 = r2
  · have e : (r2 - r0 + 1 == 1) = true := by simp; omega
    rw [if_pos a, if_pos a]
    clear a
    go_enter Tryz.func130, Tryz.ntmps130
    go_wp2_with (go_at_call 131; refine (rows_any _ _ _ _ _ (by omega) (by omega) (by omega) (by omega)).mono ?_; rintro e wa ⟨rfl, hbwa⟩; have hBwa : Below w.heap.size w wa := bup (by with_reducible (repeat' first | assumption | exact Below.refl _ _ | refine Below.drew ?_ | refine bdrewN ?_ _ | refine Below.setCell ?_ (by first | exact Nat.le_refl _ | (simp; done) | (simp; omega) | omega) _ | refine Below.alloc ?_ (by first | exact Nat.le_refl _ | (simp; done) | (simp; omega) | omega) _)) hbwa; have zwa := hBwa.size; have o0wa : Own wa (w.heap.size) #[.int .i64 r0, .int .i64 r1, .int .i64 r2, .int .i64 r3] := Own.keep (by with_reducible (repeat' first | assumption | refine Own.drew ?_ | refine Own.drewN ?_ _ | (refine Own.at ?_; first | rfl | (simp; done)) | refine Own.past ?_ _)) hbwa; have c0 := o0wa.cell; have f0 := o0wa.fro; have l0 := o0wa.lt; have o1wa : Own wa (w.heap.size + 1) #[.int .i64 0, .int .i64 0] := Own.keep (by with_reducible (repeat' first | assumption | refine Own.drew ?_ | refine Own.drewN ?_ _ | (refine Own.at ?_; first | rfl | (simp; done)) | refine Own.past ?_ _)) hbwa; have c1 := o1wa.cell; have f1 := o1wa.fro; have l1 := o1wa.lt)
    have o9 := own_put (own_put o1wa (k := 0) (x := .int .i64 r0) (by simp)) (k := 1) (x := .int .i64 (r1 + i)) (by simp)
    have c9 := o9.cell
    exact bodyPost_ret (v := .agg #[.int .i64 r0, .int .i64 (r1 + i)]) (by simp [results, Tryz.results130, go_sem, c9]) rfl ⟨rfl, by with_reducible (repeat' first | assumption | exact Below.refl _ _ | refine Below.drew ?_ | refine bdrewN ?_ _ | refine Below.setCell ?_ (by first | exact Nat.le_refl _ | (simp; done) | (simp; omega) | omega) _ | refine Below.alloc ?_ (by first | exact Nat.le_refl _ | (simp; done) | (simp; omega) | omega) _)⟩
  · have e : (r2 - r0 + 1 == 1) = false := by simp; omega
    rw [if_neg a, if_neg a]
    clear a
    go_enter Tryz.func130, Tryz.ntmps130
    go_wp2_with (go_at_call 131; refine (rows_any _ _ _ _ _ (by omega) (by omega) (by omega) (by omega)).mono ?_; rintro e wa ⟨rfl, hbwa⟩; have hBwa : Below w.heap.size w wa := bup (by with_reducible (repeat' first | assumption | exact Below.refl _ _ | refine Below.drew ?_ | refine bdrewN ?_ _ | refine Below.setCell ?_ (by first | exact Nat.le_refl _ | (simp; done) | (simp; omega) | omega) _ | refine Below.alloc ?_ (by first | exact Nat.le_refl _ | (simp; done) | (simp; omega) | omega) _)) hbwa; have zwa := hBwa.size; have o0wa : Own wa (w.heap.size) #[.int .i64 r0, .int .i64 r1, .int .i64 r2, .int .i64 r3] := Own.keep (by with_reducible (repeat' first | assumption | refine Own.drew ?_ | refine Own.drewN ?_ _ | (refine Own.at ?_; first | rfl | (simp; done)) | refine Own.past ?_ _)) hbwa; have c0 := o0wa.cell; have f0 := o0wa.fro; have l0 := o0wa.lt; have o1wa : Own wa (w.heap.size + 1) #[.int .i64 0, .int .i64 0] := Own.keep (by with_reducible (repeat' first | assumption | refine Own.drew ?_ | refine Own.drewN ?_ _ | (refine Own.at ?_; first | rfl | (simp; done)) | refine Own.past ?_ _)) hbwa; have c1 := o1wa.cell; have f1 := o1wa.fro; have l1 := o1wa.lt)
    have o9 := own_put (own_put o1wa (k := 0) (x := .int .i64 (r0 + i)) (by simp)) (k := 1) (x := .int .i64 r1) (by simp)
    have c9 := o9.cell
    exact bodyPost_ret (v := .agg #[.int .i64 (r0 + i), .int .i64 r1]) (by simp [results, Tryz.results130, go_sem, c9]) rfl ⟨rfl, by with_reducible (repeat' first | assumption | exact Below.refl _ _ | refine Below.drew ?_ | refine bdrewN ?_ _ | refine Below.setCell ?_ (by first | exact Nat.le_refl _ | (simp; done) | (simp; omega) | omega) _ | refine Below.alloc ?_ (by first | exact Nat.le_refl _ | (simp; done) | (simp; omega) | omega) _)⟩
theorem one_same (r0 r1 r2 r3 : Int) (w : World) (h1 : 0 ≤ r0) (h2 : r0 ≤ r2) (h3 : r2 ≤ 1048576) (h4 : 0 ≤ r1) (h5 : r1 ≤ r3) (h6 : r3 ≤ 1048576) : Calls Tryz.prog 123 #[.agg #[.int .i64 r0, .int .i64 r1, .int .i64 r2, .int .i64 r3], .agg #[.int .i64 r0, .int .i64 r1, .int .i64 r2, .int .i64 r3]] w fun e w' => e = .returned (.bool true) ∧ Below w.heap.size w w' := by
  have mixed : Tryz.prog.follows .mixedOrders = true := by kernel_rfl
  have HR : Hid (∀ W : World, Calls Tryz.prog 131 #[.agg #[.int .i64 r0, .int .i64 r1, .int .i64 r2, .int .i64 r3]] W fun e w' => e = .returned (.int .i64 (r2 - r0 + 1)) ∧ Below W.heap.size W w') := (show _ from fun W => rows_any _ _ _ _ _ (by omega) (by omega) (by omega) (by omega))
  have HC : Hid (∀ W : World, Calls Tryz.prog 132 #[.agg #[.int .i64 r0, .int .i64 r1, .int .i64 r2, .int .i64 r3]] W fun e w' => e = .returned (.int .i64 (r3 - r1 + 1)) ∧ Below W.heap.size W w') := (show _ from fun W => cols_any _ _ _ _ _ (by omega) (by omega) (by omega) (by omega))
  obtain ⟨a, ha⟩ : ∃ a, r2 - r0 + 1 = a := ⟨_, rfl⟩
  obtain ⟨b, hb⟩ : ∃ b, r3 - r1 + 1 = b := ⟨_, rfl⟩
  rw [ha] at HR
  rw [hb] at HC
  have t1 : True := trivial
  have t2 : True := trivial
  have t3 : True := trivial
  have t4 : True := trivial
  clear ha hb h1 h2 h3 h4 h5 h6
  go_enter Tryz.func123, Tryz.ntmps123
  go_wp2
  go_region_held3 (fun w' => w'.cell? ⟨w.heap.size, 0, none⟩ = some (.int .i64 r0) ∧ w'.cell? ⟨w.heap.size, 1, none⟩ = some (.int .i64 r1) ∧ w'.cell? ⟨w.heap.size, 2, none⟩ = some (.int .i64 r2) ∧ w'.cell? ⟨w.heap.size, 3, none⟩ = some (.int .i64 r3) ∧ w'.cell? ⟨w.heap.size + 1, 0, none⟩ = some (.int .i64 r0) ∧ w'.cell? ⟨w.heap.size + 1, 1, none⟩ = some (.int .i64 r1) ∧ w'.cell? ⟨w.heap.size + 1, 2, none⟩ = some (.int .i64 r2) ∧ w'.cell? ⟨w.heap.size + 1, 3, none⟩ = some (.int .i64 r3)) ((repeat' apply And.intro) <;> (first | (go_keep; done) | (go_simp; done))) (first | (go_at_call 131; clear t1; refine (HR.out _).mono ?_; rintro e w1 ⟨rfl, hb1⟩; have hB1 : Below w.heap.size w w1 := bup (by with_reducible (repeat' first | assumption | exact Below.refl _ _ | refine Below.drew ?_ | refine bdrewN ?_ _ | refine Below.setCell ?_ (by first | exact Nat.le_refl _ | (simp; done) | (simp; omega) | omega) _ | refine Below.alloc ?_ (by first | exact Nat.le_refl _ | (simp; done) | (simp; omega) | omega) _)) hb1; have z1 := hB1.size; have o0w1 : Own w1 (w.heap.size) #[.int .i64 r0, .int .i64 r1, .int .i64 r2, .int .i64 r3] := Own.keep (by with_reducible (repeat' first | assumption | refine Own.drew ?_ | refine Own.drewN ?_ _ | (refine Own.at ?_; first | rfl | (simp; done)) | refine Own.past ?_ _)) hb1; have c0 := o0w1.cell; have f0 := o0w1.fro; have l0 := o0w1.lt; have o1w1 : Own w1 (w.heap.size + 1) #[.int .i64 r0, .int .i64 r1, .int .i64 r2, .int .i64 r3] := Own.keep (by with_reducible (repeat' first | assumption | refine Own.drew ?_ | refine Own.drewN ?_ _ | (refine Own.at ?_; first | rfl | (simp; done)) | refine Own.past ?_ _)) hb1; have c1 := o1w1.cell; have f1 := o1w1.fro; have l1 := o1w1.lt) | (go_at_call 131; clear t2; refine (HR.out _).mono ?_; rintro e w2 ⟨rfl, hb2⟩; have hB2 : Below w.heap.size w w2 := bup (by with_reducible (repeat' first | assumption | exact Below.refl _ _ | refine Below.drew ?_ | refine bdrewN ?_ _ | refine Below.setCell ?_ (by first | exact Nat.le_refl _ | (simp; done) | (simp; omega) | omega) _ | refine Below.alloc ?_ (by first | exact Nat.le_refl _ | (simp; done) | (simp; omega) | omega) _)) hb2; have z2 := hB2.size; have o0w2 : Own w2 (w.heap.size) #[.int .i64 r0, .int .i64 r1, .int .i64 r2, .int .i64 r3] := Own.keep (by with_reducible (repeat' first | assumption | refine Own.drew ?_ | refine Own.drewN ?_ _ | (refine Own.at ?_; first | rfl | (simp; done)) | refine Own.past ?_ _)) hb2; have c0 := o0w2.cell; have f0 := o0w2.fro; have l0 := o0w2.lt; have o1w2 : Own w2 (w.heap.size + 1) #[.int .i64 r0, .int .i64 r1, .int .i64 r2, .int .i64 r3] := Own.keep (by with_reducible (repeat' first | assumption | refine Own.drew ?_ | refine Own.drewN ?_ _ | (refine Own.at ?_; first | rfl | (simp; done)) | refine Own.past ?_ _)) hb2; have c1 := o1w2.cell; have f1 := o1w2.fro; have l1 := o1w2.lt) | (go_at_call 132; clear t3; refine (HC.out _).mono ?_; rintro e w3 ⟨rfl, hb3⟩; have hB3 : Below w.heap.size w w3 := bup (by with_reducible (repeat' first | assumption | exact Below.refl _ _ | refine Below.drew ?_ | refine bdrewN ?_ _ | refine Below.setCell ?_ (by first | exact Nat.le_refl _ | (simp; done) | (simp; omega) | omega) _ | refine Below.alloc ?_ (by first | exact Nat.le_refl _ | (simp; done) | (simp; omega) | omega) _)) hb3; have z3 := hB3.size; have o0w3 : Own w3 (w.heap.size) #[.int .i64 r0, .int .i64 r1, .int .i64 r2, .int .i64 r3] := Own.keep (by with_reducible (repeat' first | assumption | refine Own.drew ?_ | refine Own.drewN ?_ _ | (refine Own.at ?_; first | rfl | (simp; done)) | refine Own.past ?_ _)) hb3; have c0 := o0w3.cell; have f0 := o0w3.fro; have l0 := o0w3.lt; have o1w3 : Own w3 (w.heap.size + 1) #[.int .i64 r0, .int .i64 r1, .int .i64 r2, .int .i64 r3] := Own.keep (by with_reducible (repeat' first | assumption | refine Own.drew ?_ | refine Own.drewN ?_ _ | (refine Own.at ?_; first | rfl | (simp; done)) | refine Own.past ?_ _)) hb3; have c1 := o1w3.cell; have f1 := o1w3.fro; have l1 := o1w3.lt) | (go_at_call 132; clear t4; refine (HC.out _).mono ?_; rintro e w4 ⟨rfl, hb4⟩; have hB4 : Below w.heap.size w w4 := bup (by with_reducible (repeat' first | assumption | exact Below.refl _ _ | refine Below.drew ?_ | refine bdrewN ?_ _ | refine Below.setCell ?_ (by first | exact Nat.le_refl _ | (simp; done) | (simp; omega) | omega) _ | refine Below.alloc ?_ (by first | exact Nat.le_refl _ | (simp; done) | (simp; omega) | omega) _)) hb4; have z4 := hB4.size; have o0w4 : Own w4 (w.heap.size) #[.int .i64 r0, .int .i64 r1, .int .i64 r2, .int .i64 r3] := Own.keep (by with_reducible (repeat' first | assumption | refine Own.drew ?_ | refine Own.drewN ?_ _ | (refine Own.at ?_; first | rfl | (simp; done)) | refine Own.past ?_ _)) hb4; have c0 := o0w4.cell; have f0 := o0w4.fro; have l0 := o0w4.lt; have o1w4 : Own w4 (w.heap.size + 1) #[.int .i64 r0, .int .i64 r1, .int .i64 r2, .int .i64 r3] := Own.keep (by with_reducible (repeat' first | assumption | refine Own.drew ?_ | refine Own.drewN ?_ _ | (refine Own.at ?_; first | rfl | (simp; done)) | refine Own.past ?_ _)) hb4; have c1 := o1w4.cell; have f1 := o1w4.fro; have l1 := o1w4.lt))
  go_wp2
  go_ret
  exact ⟨by first | rfl | simp, by with_reducible (repeat' first | assumption | exact Below.refl _ _ | refine Below.drew ?_ | refine bdrewN ?_ _ | refine Below.setCell ?_ (by first | exact Nat.le_refl _ | (simp; done) | (simp; omega) | omega) _ | refine Below.alloc ?_ (by first | exact Nat.le_refl _ | (simp; done) | (simp; omega) | omega) _)⟩
end Go.Proofs.YtcgcnpcimfaecaaGreatDoor
