/- The contracts of aggs.rowByRow, of slices.BinarySearchFunc at a rectangle's entries, and of aggs.has: what a cell of a rectangle has. New memory alone is made. The condition: the entries stand in their order. -/
import Derived.Test.YtcgcnpcimfaecaaGreatDoorQGX3
import Derived.Test.YtcgcnpcimfaecaaGreatDoorQGA2
import Derived.Test.YtcgcnpcimfaecaaGreatDoorQGOc
namespace Go.Proofs.YtcgcnpcimfaecaaGreatDoor
open Go.RowKit
set_option linter.all false
/-- How an entry stands to a cell. -/
def cmpE (x : En) (r k : Int) : Int := if Ad.befB x.r x.k r k = true then -1 else if Ad.befB r k x.r x.k = true then 1 else 0
theorem cmp_lo {x : En} {r k : Int} (h : Ad.befB x.r x.k r k = true) : cmpE x r k = -1 := if_pos h
theorem cmp_hi {x : En} {r k : Int} (h : Ad.befB x.r x.k r k = false) (h2 : Ad.befB r k x.r x.k = true) : cmpE x r k = 1 := by unfold cmpE; rw [if_neg (by rw [h]; decide), if_pos h2]
theorem cmp_eq {x : En} {r k : Int} (h : Ad.befB x.r x.k r k = false) (h2 : Ad.befB r k x.r x.k = false) : cmpE x r k = 0 := by unfold cmpE; rw [if_neg (by rw [h]; decide), if_neg (by rw [h2]; decide)]
theorem bef_iff (a b c d : Int) : Ad.befB a b c d = true ↔ (a < c ∨ (a = c ∧ b < d)) := by rw [Ad.befB_is]
theorem cmp_neg (x : En) (r k : Int) : cmpE x r k < 0 ↔ (x.r < r ∨ x.r = r ∧ x.k < k) := by
  rw [← bef_iff]
  unfold cmpE
  by_cases h : Ad.befB x.r x.k r k = true
  · rw [if_pos h]; exact ⟨fun _ => h, fun _ => by decide⟩
  · rw [if_neg h]
    by_cases h2 : Ad.befB r k x.r x.k = true
    · rw [if_pos h2]; exact ⟨fun q => absurd q (by decide), fun q => absurd q h⟩
    · rw [if_neg h2]; exact ⟨fun q => absurd q (by decide), fun q => absurd q h⟩
theorem cmp_zero (x : En) (r k : Int) : cmpE x r k = 0 ↔ (x.r = r ∧ x.k = k) := by
  unfold cmpE
  by_cases h : Ad.befB x.r x.k r k = true
  · rw [if_pos h]; have := (bef_iff _ _ _ _).1 h; exact ⟨fun q => absurd q (by decide), fun q => by omega⟩
  · rw [if_neg h]
    have g := fun q => h ((bef_iff x.r x.k r k).2 q)
    by_cases h2 : Ad.befB r k x.r x.k = true
    · rw [if_pos h2]; have := (bef_iff _ _ _ _).1 h2; exact ⟨fun q => absurd q (by decide), fun q => by omega⟩
    · rw [if_neg h2]
      have g2 := fun q => h2 ((bef_iff r k x.r x.k).2 q)
      refine ⟨fun _ => ?_, fun _ => rfl⟩
      have e1 : ¬ x.r < r := fun q => g (Or.inl q)
      have e2 : ¬ r < x.r := fun q => g2 (Or.inl q)
      have e3 : x.r = r := by omega
      have e4 : ¬ x.k < k := fun q => g (Or.inr ⟨e3, q⟩)
      have e5 : ¬ k < x.k := fun q => g2 (Or.inr ⟨e3.symm, q⟩)
      omega
theorem cmpE_is (x : En) (r k : Int) : cmpE x r k = Oc.cmpC x.r x.k r k := by
  unfold cmpE Oc.cmpC Oc.orI Oc.orI Oc.orI Oc.cmpI
  by_cases h1 : Ad.befB x.r x.k r k = true
  · have := (bef_iff _ _ _ _).1 h1
    rw [if_pos h1]
    repeat' split
    all_goals omega
  · have g1 : ¬ (x.r < r ∨ (x.r = r ∧ x.k < k)) := fun q => h1 ((bef_iff x.r x.k r k).2 q)
    rw [if_neg h1]
    by_cases h2 : Ad.befB r k x.r x.k = true
    · have := (bef_iff _ _ _ _).1 h2
      rw [if_pos h2]
      repeat' split
      all_goals omega
    · have g2 : ¬ (r < x.r ∨ (r = x.r ∧ k < x.k)) := fun q => h2 ((bef_iff r k x.r x.k).2 q)
      rw [if_neg h2]
      repeat' split
      all_goals omega
theorem rbr_any (x : En) (r k : Int) (w : World) : Calls Tryz.prog 154 #[.agg #[.int .i64 x.r, .int .i64 x.k, .int .i64 x.t, .int .i64 x.n, .string x.s, .bool x.b, .int .i64 x.c], .agg #[.int .i64 r, .int .i64 k]] w fun e w' => e = .returned (.int .i64 (cmpE x r k)) ∧ Below w.heap.size w w' := by
  rw [cmpE_is]
  go_enter Tryz.func154, Tryz.ntmps154
  go_wp2_with (go_at_call 172; refine (Oc.ocel_any _ _ _ _ _).mono ?_; rintro e wa ⟨rfl, hbwa⟩; have hBwa : Below w.heap.size w wa := bup (by with_reducible (repeat' first | assumption | exact Below.refl _ _ | refine Below.drew ?_ | refine bdrewN ?_ _ | refine Below.setCell ?_ (by first | exact Nat.le_refl _ | (simp; done) | (simp; omega) | omega) _ | refine Below.alloc ?_ (by first | exact Nat.le_refl _ | (simp; done) | (simp; omega) | omega) _)) hbwa; clear hbwa)
  go_ret
  exact ⟨rfl, by with_reducible (repeat' first | assumption | exact Below.refl _ _ | refine Below.drew ?_ | refine bdrewN ?_ _ | refine Below.setCell ?_ (by first | exact Nat.le_refl _ | (simp; done) | (simp; omega) | omega) _ | refine Below.alloc ?_ (by first | exact Nat.le_refl _ | (simp; done) | (simp; omega) | omega) _)⟩
/-- Entries in their order, row by row. -/
def OrdE (es : List En) : Prop := ∀ (i j : Nat) (x y : En), i < j → es[i]? = some x → es[j]? = some y → (x.r < y.r ∨ x.r = y.r ∧ x.k < y.k)
theorem ord_of {r0 r1 r2 r3 : Int} {es : List En} (h : entsB r0 r1 r2 r3 es = true) : OrdE es := by
  intro i j
  induction j with
  | zero => intro x y hij; exact absurd hij (Nat.not_lt_zero _)
  | succ j ih =>
    intro x y hij hx hy
    have hj : j < es.length := by have := (List.getElem?_eq_some_iff.1 hy).1; omega
    have hp : es[j]? = some es[j] := List.getElem?_eq_getElem hj
    generalize es[j] = p at hp
    have hn := ent_next ((ents_all _ _ _ _ _).1 h (j + 1) y hy) hp
    by_cases e : i = j
    · subst e; rw [hx] at hp; injection hp with hp; subst hp; exact hn
    · have := ih x p (by omega) hx hp; omega
/-- The cell is one of the entries' at a place, or at none. -/
def Fnd (es : List En) (r k : Int) (i : Nat) (f : Bool) : Prop := (f = true → ∃ x, es[i]? = some x ∧ x.r = r ∧ x.k = k) ∧ (f = false → ∀ x ∈ es, ¬ (x.r = r ∧ x.k = k))
theorem fnd_end {es : List En} {r k : Int} {i n : Nat} (hn : es.length = n) (hi : n ≤ i) (hlo : ∀ t x, t < i → es[t]? = some x → cmpE x r k < 0) : Fnd es r k i false := by
  refine ⟨(fun h => nomatch h), fun _ x hx => ?_⟩
  obtain ⟨t, ht⟩ := List.getElem?_of_mem hx
  have h1 := (List.getElem?_eq_some_iff.1 ht).1
  have := (cmp_neg x r k).1 (hlo t x (by omega) ht)
  omega
theorem fnd_at {es : List En} {r k : Int} {i : Nat} {x : En} (hS : OrdE es) (hx : es[i]? = some x) (hlo : ∀ t y, t < i → es[t]? = some y → cmpE y r k < 0) (hge : 0 ≤ cmpE x r k) : Fnd es r k i (decide (cmpE x r k = 0)) := by
  refine ⟨fun h => ⟨x, hx, (cmp_zero x r k).1 (of_decide_eq_true h)⟩, fun h y hy => ?_⟩
  have h0 : ¬ cmpE x r k = 0 := of_decide_eq_false h
  have g1 : ¬ (x.r < r ∨ x.r = r ∧ x.k < k) := fun q => absurd ((cmp_neg x r k).2 q) (by omega)
  have g2 := fun q => h0 ((cmp_zero x r k).2 q)
  obtain ⟨t, ht⟩ := List.getElem?_of_mem hy
  by_cases e : t < i
  · have := (cmp_neg y r k).1 (hlo t y e ht); omega
  · by_cases e2 : t = i
    · subst e2; rw [hx] at ht; injection ht with ht; subst ht; exact g2
    · have := hS i t x y (by omega) hx ht
      intro q
      apply g1
      omega
theorem lo_next {es : List En} {r k : Int} {h : Nat} {x : En} (hS : OrdE es) (hx : es[h]? = some x) (hc : cmpE x r k < 0) : ∀ t y, t < h + 1 → es[t]? = some y → cmpE y r k < 0 := by
  intro t y ht hy
  by_cases e : t = h
  · subst e; rw [hx] at hy; injection hy with hy; subst hy; exact hc
  · have h1 := hS t h y x (by omega) hy hx
    have h2 := (cmp_neg x r k).1 hc
    exact (cmp_neg y r k).2 (by omega)
theorem hi_next {es : List En} {r k : Int} {h : Nat} {x : En} (hS : OrdE es) (hx : es[h]? = some x) (hc : 0 ≤ cmpE x r k) : ∀ t y, h ≤ t → es[t]? = some y → 0 ≤ cmpE y r k := by
  intro t y ht hy
  by_cases e : t = h
  · subst e; rw [hx] at hy; injection hy with hy; subst hy; exact hc
  · have h1 := hS h t x y (by omega) hx hy
    by_cases q : cmpE y r k < 0
    · have h2 := (cmp_neg y r k).1 q
      have := (cmp_neg x r k).2 (by omega)
      omega
    · omega
theorem callf_rbr (args : Array Value) (W : World) : (callFunc 154 args).run Tryz.prog W = .ok (.enter 154 args) W := by kernel_rfl
set_option maxRecDepth 100000 in
set_option maxHeartbeats 2000000 in
theorem bs_y (w : World) (b o c n : Nat) (es : List En) (r k : Int) (hla : b < w.heap.size) (HA : ∀ i x, es[i]? = some x → ∀ j, j < 7 → w.cell? ⟨b, o + i * 7 + j, none⟩ = (En.cells x)[j]?) (hn : es.length = n) (hc : n ≤ c) (h0 : 0 < n) (hl : n ≤ 1099511627776) (hS : Hid (OrdE es)) :
    Calls Tryz.prog 153 #[.slice (some ⟨b, o, none⟩) n c, .agg #[.int .i64 r, .int .i64 k], (.func (.func 154) #[] #[])] w fun e w' => (∃ (i : Nat) (f : Bool), e = .returned (.tuple #[.int .i64 i, .bool f]) ∧ i ≤ n ∧ Fnd es r k i f) ∧ Below w.heap.size w w' := by
  have HA' : Hid _ := HA
  have HL : Hid (es.length = n) := hn
  clear HA hn
  have mixed : Tryz.prog.follows .mixedOrders = true := by kernel_rfl
  go_enter Tryz.func153, Tryz.ntmps153
  go_wp2
  go_loopw [9, 10] (fun u v w' => ∃ (i j : Nat), u = .int .i64 i ∧ v = .int .i64 j ∧ i ≤ j ∧ j ≤ n ∧ Hid (∀ t x, t < i → es[t]? = some x → cmpE x r k < 0) ∧ Hid (∀ t x, j ≤ t → es[t]? = some x → 0 ≤ cmpE x r k) ∧ Below w.heap.size w w' ∧ Own w' w.heap.size #[.int .i64 r, .int .i64 k]) (fun u v _ => (intOf v).toNat - (intOf u).toNat)
  case atStart => exact ⟨0, n, rfl, rfl, by omega, by omega, (show Hid _ from fun t x h => absurd h (Nat.not_lt_zero _)), (show Hid _ from fun t x h hx => absurd (List.getElem?_eq_some_iff.1 hx).1 (by rw [HL.out]; omega)), by with_reducible (repeat' first | assumption | exact Below.refl _ _ | refine Below.drew ?_ | refine bdrewN ?_ _ | refine Below.setCell ?_ (by first | exact Nat.le_refl _ | (simp; done) | (simp; omega) | omega) _ | refine Below.alloc ?_ (by first | exact Nat.le_refl _ | (simp; done) | (simp; omega) | omega) _), by with_reducible (repeat' first | assumption | refine Own.drew ?_ | refine Own.drewN ?_ _ | (refine Own.at ?_; first | rfl | (simp; done)) | refine Own.past ?_ _)⟩
  case round =>
    obtain ⟨i, j, rfl, rfl, hij, hjn, hlo, hhi, hB3, o3⟩ := hrel
    have z3 := hB3.size
    have c0 := o3.cell
    have f0 := o3.fro
    have l0 := o3.lt
    by_cases hlt : i < j
    · have hlt' : (i : Int) < j := by omega
      obtain ⟨h, hh⟩ : ∃ h : Nat, h = (i + j) / 2 := ⟨_, rfl⟩
      have h1 : i ≤ h := by omega
      have h2 : h < j := by omega
      have h3 : (h : Int) < n := by omega
      have h4 : (0 : Int) ≤ h := by omega
      have hd1 : ((i : Int) + j) / 2 = h := by omega
      have hd2 : ((i : Int) + j) >>> 1 = h := by rw [Int.shiftRight_eq_div_pow]; omega
      have hai : es[h]? = some (es[h]'(by rw [HL.out]; omega)) := List.getElem?_eq_getElem _
      have ca' := fun q hq => (hB3.cell (p := ⟨b, o + h * 7 + q, none⟩) hla).trans (HA'.out h _ hai q hq)
      have HAi : Hid _ := hai
      have HH : Hid (h = (i + j) / 2) := hh
      revert ca' HAi
      clear hai
      generalize (es[h]'(by rw [HL.out]; omega)) = x
      intro ca' HAi
      clear hh
      have y0 : wr.cell? ⟨b, o + h * 7, none⟩ = some (.int .i64 x.r) := ca' 0 (by decide)
      have y1 : wr.cell? ⟨b, o + h * 7 + 1, none⟩ = some (.int .i64 x.k) := ca' 1 (by decide)
      have y2 : wr.cell? ⟨b, o + h * 7 + 2, none⟩ = some (.int .i64 x.t) := ca' 2 (by decide)
      have y3 : wr.cell? ⟨b, o + h * 7 + 3, none⟩ = some (.int .i64 x.n) := ca' 3 (by decide)
      have y4 : wr.cell? ⟨b, o + h * 7 + 4, none⟩ = some (.string x.s) := ca' 4 (by decide)
      have y5 : wr.cell? ⟨b, o + h * 7 + 5, none⟩ = some (.bool x.b) := ca' 5 (by decide)
      have y6 : wr.cell? ⟨b, o + h * 7 + 6, none⟩ = some (.int .i64 x.c) := ca' 6 (by decide)
      clear ca'
      obtain ⟨q, hq⟩ : ∃ q : Int, cmpE x r k = q := ⟨_, rfl⟩
      have HK : Hid (∀ W : World, Calls Tryz.prog 154 #[.agg #[.int .i64 x.r, .int .i64 x.k, .int .i64 x.t, .int .i64 x.n, .string x.s, .bool x.b, .int .i64 x.c], .agg #[.int .i64 r, .int .i64 k]] W fun e w' => e = .returned (.int .i64 q) ∧ Below W.heap.size W w') := (show _ from fun W => by rw [← hq]; exact rbr_any x r k W)
      have HQ : Hid (cmpE x r k = q) := hq
      clear hq
      by_cases hneg : q < 0
      · go_wp2
        go_region_held3 (fun w' => w'.cell? ⟨b, o + h * 7, none⟩ = some (.int .i64 x.r) ∧ w'.cell? ⟨b, o + h * 7 + 1, none⟩ = some (.int .i64 x.k) ∧ w'.cell? ⟨b, o + h * 7 + 2, none⟩ = some (.int .i64 x.t) ∧ w'.cell? ⟨b, o + h * 7 + 3, none⟩ = some (.int .i64 x.n) ∧ w'.cell? ⟨b, o + h * 7 + 4, none⟩ = some (.string x.s) ∧ w'.cell? ⟨b, o + h * 7 + 5, none⟩ = some (.bool x.b) ∧ w'.cell? ⟨b, o + h * 7 + 6, none⟩ = some (.int .i64 x.c) ∧ w'.cell? ⟨w.heap.size, 0, none⟩ = some (.int .i64 r) ∧ w'.cell? ⟨w.heap.size, 1, none⟩ = some (.int .i64 k)) ((repeat' apply And.intro) <;> (first | (go_keep; done) | (go_simp; done))) (first | (go_at_call 154; refine (HK.out _).mono ?_; rintro e wa ⟨rfl, hbwa⟩; have hBwa : Below w.heap.size w wa := bup (by with_reducible (repeat' first | assumption | exact Below.refl _ _ | refine Below.drew ?_ | refine bdrewN ?_ _ | refine Below.setCell ?_ (by first | exact Nat.le_refl _ | (simp; done) | (simp; omega) | omega) _ | refine Below.alloc ?_ (by first | exact Nat.le_refl _ | (simp; done) | (simp; omega) | omega) _)) hbwa; have hBr : Below wr.heap.size wr wa := bup (by with_reducible (repeat' first | assumption | exact Below.refl _ _ | refine Below.drew ?_ | refine bdrewN ?_ _ | refine Below.setCell ?_ (by first | exact Nat.le_refl _ | (simp; done) | (simp; omega) | omega) _ | refine Below.alloc ?_ (by first | exact Nat.le_refl _ | (simp; done) | (simp; omega) | omega) _)) hbwa; have zwa := hBwa.size; have o0wa : Own wa (w.heap.size) #[.int .i64 r, .int .i64 k] := Own.keep o3 hBr; clear c0 f0 l0; have c0 := o0wa.cell; have f0 := o0wa.fro; have l0 := o0wa.lt; have d0 := (hBwa.cell (p := ⟨b, o + h * 7, none⟩) hla).trans ((hB3.cell (p := ⟨b, o + h * 7, none⟩) hla).symm.trans y0); have d1 := (hBwa.cell (p := ⟨b, o + h * 7 + 1, none⟩) hla).trans ((hB3.cell (p := ⟨b, o + h * 7 + 1, none⟩) hla).symm.trans y1); have d2 := (hBwa.cell (p := ⟨b, o + h * 7 + 2, none⟩) hla).trans ((hB3.cell (p := ⟨b, o + h * 7 + 2, none⟩) hla).symm.trans y2); have d3 := (hBwa.cell (p := ⟨b, o + h * 7 + 3, none⟩) hla).trans ((hB3.cell (p := ⟨b, o + h * 7 + 3, none⟩) hla).symm.trans y3); have d4 := (hBwa.cell (p := ⟨b, o + h * 7 + 4, none⟩) hla).trans ((hB3.cell (p := ⟨b, o + h * 7 + 4, none⟩) hla).symm.trans y4); have d5 := (hBwa.cell (p := ⟨b, o + h * 7 + 5, none⟩) hla).trans ((hB3.cell (p := ⟨b, o + h * 7 + 5, none⟩) hla).symm.trans y5); have d6 := (hBwa.cell (p := ⟨b, o + h * 7 + 6, none⟩) hla).trans ((hB3.cell (p := ⟨b, o + h * 7 + 6, none⟩) hla).symm.trans y6)))
        go_wp2
        exact ⟨⟨h + 1, j, by go_num, rfl, by omega, by omega, (show Hid _ from lo_next hS.out HAi.out (by rw [HQ.out]; exact hneg)), hhi, by with_reducible (repeat' first | assumption | exact Below.refl _ _ | refine Below.drew ?_ | refine bdrewN ?_ _ | refine Below.setCell ?_ (by first | exact Nat.le_refl _ | (simp; done) | (simp; omega) | omega) _ | refine Below.alloc ?_ (by first | exact Nat.le_refl _ | (simp; done) | (simp; omega) | omega) _), o0wa⟩, by simp [intOf]; omega⟩
      · go_wp2
        go_region_held3 (fun w' => w'.cell? ⟨b, o + h * 7, none⟩ = some (.int .i64 x.r) ∧ w'.cell? ⟨b, o + h * 7 + 1, none⟩ = some (.int .i64 x.k) ∧ w'.cell? ⟨b, o + h * 7 + 2, none⟩ = some (.int .i64 x.t) ∧ w'.cell? ⟨b, o + h * 7 + 3, none⟩ = some (.int .i64 x.n) ∧ w'.cell? ⟨b, o + h * 7 + 4, none⟩ = some (.string x.s) ∧ w'.cell? ⟨b, o + h * 7 + 5, none⟩ = some (.bool x.b) ∧ w'.cell? ⟨b, o + h * 7 + 6, none⟩ = some (.int .i64 x.c) ∧ w'.cell? ⟨w.heap.size, 0, none⟩ = some (.int .i64 r) ∧ w'.cell? ⟨w.heap.size, 1, none⟩ = some (.int .i64 k)) ((repeat' apply And.intro) <;> (first | (go_keep; done) | (go_simp; done))) (first | (go_at_call 154; refine (HK.out _).mono ?_; rintro e wa ⟨rfl, hbwa⟩; have hBwa : Below w.heap.size w wa := bup (by with_reducible (repeat' first | assumption | exact Below.refl _ _ | refine Below.drew ?_ | refine bdrewN ?_ _ | refine Below.setCell ?_ (by first | exact Nat.le_refl _ | (simp; done) | (simp; omega) | omega) _ | refine Below.alloc ?_ (by first | exact Nat.le_refl _ | (simp; done) | (simp; omega) | omega) _)) hbwa; have hBr : Below wr.heap.size wr wa := bup (by with_reducible (repeat' first | assumption | exact Below.refl _ _ | refine Below.drew ?_ | refine bdrewN ?_ _ | refine Below.setCell ?_ (by first | exact Nat.le_refl _ | (simp; done) | (simp; omega) | omega) _ | refine Below.alloc ?_ (by first | exact Nat.le_refl _ | (simp; done) | (simp; omega) | omega) _)) hbwa; have zwa := hBwa.size; have o0wa : Own wa (w.heap.size) #[.int .i64 r, .int .i64 k] := Own.keep o3 hBr; clear c0 f0 l0; have c0 := o0wa.cell; have f0 := o0wa.fro; have l0 := o0wa.lt; have d0 := (hBwa.cell (p := ⟨b, o + h * 7, none⟩) hla).trans ((hB3.cell (p := ⟨b, o + h * 7, none⟩) hla).symm.trans y0); have d1 := (hBwa.cell (p := ⟨b, o + h * 7 + 1, none⟩) hla).trans ((hB3.cell (p := ⟨b, o + h * 7 + 1, none⟩) hla).symm.trans y1); have d2 := (hBwa.cell (p := ⟨b, o + h * 7 + 2, none⟩) hla).trans ((hB3.cell (p := ⟨b, o + h * 7 + 2, none⟩) hla).symm.trans y2); have d3 := (hBwa.cell (p := ⟨b, o + h * 7 + 3, none⟩) hla).trans ((hB3.cell (p := ⟨b, o + h * 7 + 3, none⟩) hla).symm.trans y3); have d4 := (hBwa.cell (p := ⟨b, o + h * 7 + 4, none⟩) hla).trans ((hB3.cell (p := ⟨b, o + h * 7 + 4, none⟩) hla).symm.trans y4); have d5 := (hBwa.cell (p := ⟨b, o + h * 7 + 5, none⟩) hla).trans ((hB3.cell (p := ⟨b, o + h * 7 + 5, none⟩) hla).symm.trans y5); have d6 := (hBwa.cell (p := ⟨b, o + h * 7 + 6, none⟩) hla).trans ((hB3.cell (p := ⟨b, o + h * 7 + 6, none⟩) hla).symm.trans y6)))
        go_wp2
        exact ⟨⟨i, h, rfl, rfl, by omega, by omega, hlo, (show Hid _ from hi_next hS.out HAi.out (by rw [HQ.out]; omega)), by with_reducible (repeat' first | assumption | exact Below.refl _ _ | refine Below.drew ?_ | refine bdrewN ?_ _ | refine Below.setCell ?_ (by first | exact Nat.le_refl _ | (simp; done) | (simp; omega) | omega) _ | refine Below.alloc ?_ (by first | exact Nat.le_refl _ | (simp; done) | (simp; omega) | omega) _), o0wa⟩, by simp [intOf]; omega⟩
    · have hlt' : ¬ (i : Int) < j := by omega
      by_cases hin : i < n
      · have hin' : (i : Int) < n := by omega
        have hai : es[i]? = some (es[i]'(by rw [HL.out]; omega)) := List.getElem?_eq_getElem _
        have ca' := fun q hq => (hB3.cell (p := ⟨b, o + i * 7 + q, none⟩) hla).trans (HA'.out i _ hai q hq)
        have HAi : Hid _ := hai
        revert ca' HAi
        clear hai
        generalize (es[i]'(by rw [HL.out]; omega)) = x
        intro ca' HAi
        have y0 : wr.cell? ⟨b, o + i * 7, none⟩ = some (.int .i64 x.r) := ca' 0 (by decide)
        have y1 : wr.cell? ⟨b, o + i * 7 + 1, none⟩ = some (.int .i64 x.k) := ca' 1 (by decide)
        have y2 : wr.cell? ⟨b, o + i * 7 + 2, none⟩ = some (.int .i64 x.t) := ca' 2 (by decide)
        have y3 : wr.cell? ⟨b, o + i * 7 + 3, none⟩ = some (.int .i64 x.n) := ca' 3 (by decide)
        have y4 : wr.cell? ⟨b, o + i * 7 + 4, none⟩ = some (.string x.s) := ca' 4 (by decide)
        have y5 : wr.cell? ⟨b, o + i * 7 + 5, none⟩ = some (.bool x.b) := ca' 5 (by decide)
        have y6 : wr.cell? ⟨b, o + i * 7 + 6, none⟩ = some (.int .i64 x.c) := ca' 6 (by decide)
        clear ca'
        obtain ⟨q, hq⟩ : ∃ q : Int, cmpE x r k = q := ⟨_, rfl⟩
        have HK : Hid (∀ W : World, Calls Tryz.prog 154 #[.agg #[.int .i64 x.r, .int .i64 x.k, .int .i64 x.t, .int .i64 x.n, .string x.s, .bool x.b, .int .i64 x.c], .agg #[.int .i64 r, .int .i64 k]] W fun e w' => e = .returned (.int .i64 q) ∧ Below W.heap.size W w') := (show _ from fun W => by rw [← hq]; exact rbr_any x r k W)
        have HF : Hid (Fnd es r k i (decide (q = 0))) := (show _ from by rw [← hq]; exact fnd_at hS.out HAi.out hlo.out (hhi.out i x (by omega) HAi.out))
        clear hq
        by_cases hz : q = 0
        · have HF2 : Hid (Fnd es r k i true) := (show _ from by have := HF.out; rw [decide_eq_true hz] at this; exact this)
          subst hz
          clear HF
          go_wp2
          go_region_held3 (fun w' => w'.cell? ⟨b, o + i * 7, none⟩ = some (.int .i64 x.r) ∧ w'.cell? ⟨b, o + i * 7 + 1, none⟩ = some (.int .i64 x.k) ∧ w'.cell? ⟨b, o + i * 7 + 2, none⟩ = some (.int .i64 x.t) ∧ w'.cell? ⟨b, o + i * 7 + 3, none⟩ = some (.int .i64 x.n) ∧ w'.cell? ⟨b, o + i * 7 + 4, none⟩ = some (.string x.s) ∧ w'.cell? ⟨b, o + i * 7 + 5, none⟩ = some (.bool x.b) ∧ w'.cell? ⟨b, o + i * 7 + 6, none⟩ = some (.int .i64 x.c) ∧ w'.cell? ⟨w.heap.size, 0, none⟩ = some (.int .i64 r) ∧ w'.cell? ⟨w.heap.size, 1, none⟩ = some (.int .i64 k)) ((repeat' apply And.intro) <;> (first | (go_keep; done) | (go_simp; done))) (first | (go_at_call 154; refine (HK.out _).mono ?_; rintro e wa ⟨rfl, hbwa⟩; have hBwa : Below w.heap.size w wa := bup (by with_reducible (repeat' first | assumption | exact Below.refl _ _ | refine Below.drew ?_ | refine bdrewN ?_ _ | refine Below.setCell ?_ (by first | exact Nat.le_refl _ | (simp; done) | (simp; omega) | omega) _ | refine Below.alloc ?_ (by first | exact Nat.le_refl _ | (simp; done) | (simp; omega) | omega) _)) hbwa; have hBr : Below wr.heap.size wr wa := bup (by with_reducible (repeat' first | assumption | exact Below.refl _ _ | refine Below.drew ?_ | refine bdrewN ?_ _ | refine Below.setCell ?_ (by first | exact Nat.le_refl _ | (simp; done) | (simp; omega) | omega) _ | refine Below.alloc ?_ (by first | exact Nat.le_refl _ | (simp; done) | (simp; omega) | omega) _)) hbwa; have zwa := hBwa.size; have o0wa : Own wa (w.heap.size) #[.int .i64 r, .int .i64 k] := Own.keep o3 hBr; clear c0 f0 l0; have c0 := o0wa.cell; have f0 := o0wa.fro; have l0 := o0wa.lt; have d0 := (hBwa.cell (p := ⟨b, o + i * 7, none⟩) hla).trans ((hB3.cell (p := ⟨b, o + i * 7, none⟩) hla).symm.trans y0); have d1 := (hBwa.cell (p := ⟨b, o + i * 7 + 1, none⟩) hla).trans ((hB3.cell (p := ⟨b, o + i * 7 + 1, none⟩) hla).symm.trans y1); have d2 := (hBwa.cell (p := ⟨b, o + i * 7 + 2, none⟩) hla).trans ((hB3.cell (p := ⟨b, o + i * 7 + 2, none⟩) hla).symm.trans y2); have d3 := (hBwa.cell (p := ⟨b, o + i * 7 + 3, none⟩) hla).trans ((hB3.cell (p := ⟨b, o + i * 7 + 3, none⟩) hla).symm.trans y3); have d4 := (hBwa.cell (p := ⟨b, o + i * 7 + 4, none⟩) hla).trans ((hB3.cell (p := ⟨b, o + i * 7 + 4, none⟩) hla).symm.trans y4); have d5 := (hBwa.cell (p := ⟨b, o + i * 7 + 5, none⟩) hla).trans ((hB3.cell (p := ⟨b, o + i * 7 + 5, none⟩) hla).symm.trans y5); have d6 := (hBwa.cell (p := ⟨b, o + i * 7 + 6, none⟩) hla).trans ((hB3.cell (p := ⟨b, o + i * 7 + 6, none⟩) hla).symm.trans y6)))
          go_wp2
          exact bodyPost_ret (v := .tuple #[.int .i64 i, .bool true]) (by simp [results, Tryz.results153, go_sem]) rfl ⟨⟨i, true, rfl, by omega, HF2.out⟩, by with_reducible (repeat' first | assumption | exact Below.refl _ _ | refine Below.drew ?_ | refine bdrewN ?_ _ | refine Below.setCell ?_ (by first | exact Nat.le_refl _ | (simp; done) | (simp; omega) | omega) _ | refine Below.alloc ?_ (by first | exact Nat.le_refl _ | (simp; done) | (simp; omega) | omega) _)⟩
        · have HF2 : Hid (Fnd es r k i false) := (show _ from by have := HF.out; rw [decide_eq_false hz] at this; exact this)
          have hz' : (q == 0) = false := by simpa using hz
          clear HF
          go_wp2
          go_region_held3 (fun w' => w'.cell? ⟨b, o + i * 7, none⟩ = some (.int .i64 x.r) ∧ w'.cell? ⟨b, o + i * 7 + 1, none⟩ = some (.int .i64 x.k) ∧ w'.cell? ⟨b, o + i * 7 + 2, none⟩ = some (.int .i64 x.t) ∧ w'.cell? ⟨b, o + i * 7 + 3, none⟩ = some (.int .i64 x.n) ∧ w'.cell? ⟨b, o + i * 7 + 4, none⟩ = some (.string x.s) ∧ w'.cell? ⟨b, o + i * 7 + 5, none⟩ = some (.bool x.b) ∧ w'.cell? ⟨b, o + i * 7 + 6, none⟩ = some (.int .i64 x.c) ∧ w'.cell? ⟨w.heap.size, 0, none⟩ = some (.int .i64 r) ∧ w'.cell? ⟨w.heap.size, 1, none⟩ = some (.int .i64 k)) ((repeat' apply And.intro) <;> (first | (go_keep; done) | (go_simp; done))) (first | (go_at_call 154; refine (HK.out _).mono ?_; rintro e wa ⟨rfl, hbwa⟩; have hBwa : Below w.heap.size w wa := bup (by with_reducible (repeat' first | assumption | exact Below.refl _ _ | refine Below.drew ?_ | refine bdrewN ?_ _ | refine Below.setCell ?_ (by first | exact Nat.le_refl _ | (simp; done) | (simp; omega) | omega) _ | refine Below.alloc ?_ (by first | exact Nat.le_refl _ | (simp; done) | (simp; omega) | omega) _)) hbwa; have hBr : Below wr.heap.size wr wa := bup (by with_reducible (repeat' first | assumption | exact Below.refl _ _ | refine Below.drew ?_ | refine bdrewN ?_ _ | refine Below.setCell ?_ (by first | exact Nat.le_refl _ | (simp; done) | (simp; omega) | omega) _ | refine Below.alloc ?_ (by first | exact Nat.le_refl _ | (simp; done) | (simp; omega) | omega) _)) hbwa; have zwa := hBwa.size; have o0wa : Own wa (w.heap.size) #[.int .i64 r, .int .i64 k] := Own.keep o3 hBr; clear c0 f0 l0; have c0 := o0wa.cell; have f0 := o0wa.fro; have l0 := o0wa.lt; have d0 := (hBwa.cell (p := ⟨b, o + i * 7, none⟩) hla).trans ((hB3.cell (p := ⟨b, o + i * 7, none⟩) hla).symm.trans y0); have d1 := (hBwa.cell (p := ⟨b, o + i * 7 + 1, none⟩) hla).trans ((hB3.cell (p := ⟨b, o + i * 7 + 1, none⟩) hla).symm.trans y1); have d2 := (hBwa.cell (p := ⟨b, o + i * 7 + 2, none⟩) hla).trans ((hB3.cell (p := ⟨b, o + i * 7 + 2, none⟩) hla).symm.trans y2); have d3 := (hBwa.cell (p := ⟨b, o + i * 7 + 3, none⟩) hla).trans ((hB3.cell (p := ⟨b, o + i * 7 + 3, none⟩) hla).symm.trans y3); have d4 := (hBwa.cell (p := ⟨b, o + i * 7 + 4, none⟩) hla).trans ((hB3.cell (p := ⟨b, o + i * 7 + 4, none⟩) hla).symm.trans y4); have d5 := (hBwa.cell (p := ⟨b, o + i * 7 + 5, none⟩) hla).trans ((hB3.cell (p := ⟨b, o + i * 7 + 5, none⟩) hla).symm.trans y5); have d6 := (hBwa.cell (p := ⟨b, o + i * 7 + 6, none⟩) hla).trans ((hB3.cell (p := ⟨b, o + i * 7 + 6, none⟩) hla).symm.trans y6)))
          go_wp2
          exact bodyPost_ret (v := .tuple #[.int .i64 i, .bool false]) (by simp [results, Tryz.results153, go_sem]) rfl ⟨⟨i, false, rfl, by omega, HF2.out⟩, by with_reducible (repeat' first | assumption | exact Below.refl _ _ | refine Below.drew ?_ | refine bdrewN ?_ _ | refine Below.setCell ?_ (by first | exact Nat.le_refl _ | (simp; done) | (simp; omega) | omega) _ | refine Below.alloc ?_ (by first | exact Nat.le_refl _ | (simp; done) | (simp; omega) | omega) _)⟩
      · have hin' : ¬ (i : Int) < n := by omega
        have HF2 : Hid (Fnd es r k i false) := (show _ from fnd_end HL.out (by omega) hlo.out)
        go_wp2
        refine wp_region_held_drew (S := fun w' => w'.cell? ⟨w.heap.size, 0, none⟩ = some (.int .i64 r)) (by kernel_rfl) (by (try dsimp only); ((repeat' apply And.intro) <;> (first | (go_keep; done) | (go_simp; done)))) (fun hHeld => ?_)
        refine wpAnyH_take (i := 0) (v := .int .i64 i) rfl (by kernel_rfl) (by kernel_rfl) (by kernel_rfl) (fun _ _ _ h => h) (Or.inl ⟨by first | rfl | kernel_rfl, by intro wz hSw; (try dsimp only at hSw); go_simp⟩) (by assumption) ?_
        (try simp only [Act.put, List.getElem_toArray, List.getElem_cons_succ, List.getElem_cons_zero, List.setIfInBounds_toArray, List.set_cons_zero, List.set_cons_succ])
        refine wpAnyH_take (i := 1) (v := .int .i64 i) rfl (by kernel_rfl) (by kernel_rfl) (by kernel_rfl) (fun _ _ _ h => h) (Or.inl ⟨by first | rfl | kernel_rfl, by intro wz hSw; (try dsimp only at hSw); go_simp⟩) (by assumption) ?_
        (try simp only [Act.put, List.getElem_toArray, List.getElem_cons_succ, List.getElem_cons_zero, List.setIfInBounds_toArray, List.set_cons_zero, List.set_cons_succ])
        refine wpAnyH_take (i := 2) (v := .int .i64 n) rfl (by kernel_rfl) (by kernel_rfl) (by kernel_rfl) (fun _ _ _ h => h) (Or.inl ⟨by first | rfl | kernel_rfl, by intro wz hSw; (try dsimp only at hSw); go_simp⟩) (by assumption) ?_
        (try simp only [Act.put, List.getElem_toArray, List.getElem_cons_succ, List.getElem_cons_zero, List.setIfInBounds_toArray, List.set_cons_zero, List.set_cons_succ])
        refine wpAnyH_take (i := 3) (v := .bool false) rfl (by kernel_rfl) (by kernel_rfl) (by kernel_rfl) (fun _ _ _ h => h) (Or.inl ⟨by first | rfl | kernel_rfl, by intro wz hSw; (try dsimp only at hSw); go_simp⟩) (by assumption) ?_
        (try simp only [Act.put, List.getElem_toArray, List.getElem_cons_succ, List.getElem_cons_zero, List.setIfInBounds_toArray, List.set_cons_zero, List.set_cons_succ])
        refine wpAnyH_take (i := 4) (v := .bool false) rfl (by kernel_rfl) (by kernel_rfl) (by kernel_rfl) (fun _ _ _ h => h) (Or.inl ⟨by first | rfl | kernel_rfl, by intro wz hSw; (try dsimp only at hSw); go_simp⟩) (by assumption) ?_
        (try simp only [Act.put, List.getElem_toArray, List.getElem_cons_succ, List.getElem_cons_zero, List.setIfInBounds_toArray, List.set_cons_zero, List.set_cons_succ])
        refine wpAnyH_take (i := 5) (v := undef) rfl (by kernel_rfl) (by kernel_rfl) (by kernel_rfl) (fun _ _ _ h => h) (Or.inr ⟨by kernel_rfl, rfl⟩) (by assumption) ?_
        (try simp only [Act.put, List.getElem_toArray, List.getElem_cons_succ, List.getElem_cons_zero, List.setIfInBounds_toArray, List.set_cons_zero, List.set_cons_succ])
        refine wpAnyH_take (i := 6) (v := undef) rfl (by kernel_rfl) (by kernel_rfl) (by kernel_rfl) (fun _ _ _ h => h) (Or.inr ⟨by kernel_rfl, rfl⟩) (by assumption) ?_
        (try simp only [Act.put, List.getElem_toArray, List.getElem_cons_succ, List.getElem_cons_zero, List.setIfInBounds_toArray, List.set_cons_zero, List.set_cons_succ])
        refine wpAnyH_take (i := 7) (v := undef) rfl (by kernel_rfl) (by kernel_rfl) (by kernel_rfl) (fun _ _ _ h => h) (Or.inr ⟨by kernel_rfl, rfl⟩) (by assumption) ?_
        (try simp only [Act.put, List.getElem_toArray, List.getElem_cons_succ, List.getElem_cons_zero, List.setIfInBounds_toArray, List.set_cons_zero, List.set_cons_succ])
        refine wpAnyH_take (i := 8) (v := undef) rfl (by kernel_rfl) (by kernel_rfl) (by kernel_rfl) (fun _ _ _ h => h) (Or.inr ⟨by kernel_rfl, rfl⟩) (by assumption) ?_
        (try simp only [Act.put, List.getElem_toArray, List.getElem_cons_succ, List.getElem_cons_zero, List.setIfInBounds_toArray, List.set_cons_zero, List.set_cons_succ])
        refine wpAnyH_take (i := 9) (v := undef) rfl (by kernel_rfl) (by kernel_rfl) (by kernel_rfl) (fun _ _ _ h => h) (Or.inr ⟨by kernel_rfl, rfl⟩) (by assumption) ?_
        (try simp only [Act.put, List.getElem_toArray, List.getElem_cons_succ, List.getElem_cons_zero, List.setIfInBounds_toArray, List.set_cons_zero, List.set_cons_succ])
        refine wpAnyH_take (i := 10) (v := undef) rfl (by kernel_rfl) (by kernel_rfl) (by kernel_rfl) (fun _ _ _ h => h) (Or.inr ⟨by kernel_rfl, rfl⟩) (by assumption) ?_
        (try simp only [Act.put, List.getElem_toArray, List.getElem_cons_succ, List.getElem_cons_zero, List.setIfInBounds_toArray, List.set_cons_zero, List.set_cons_succ])
        refine wpAnyH_take (i := 11) (v := undef) rfl (by kernel_rfl) (by kernel_rfl) (by kernel_rfl) (fun _ _ _ h => h) (Or.inr ⟨by kernel_rfl, rfl⟩) (by assumption) ?_
        (try simp only [Act.put, List.getElem_toArray, List.getElem_cons_succ, List.getElem_cons_zero, List.setIfInBounds_toArray, List.set_cons_zero, List.set_cons_succ])
        refine wpAnyH_take (i := 12) (v := undef) rfl (by kernel_rfl) (by kernel_rfl) (by kernel_rfl) (fun _ _ _ h => h) (Or.inr ⟨by kernel_rfl, rfl⟩) (by assumption) ?_
        (try simp only [Act.put, List.getElem_toArray, List.getElem_cons_succ, List.getElem_cons_zero, List.setIfInBounds_toArray, List.set_cons_zero, List.set_cons_succ])
        refine wpAnyH_take (i := 13) (v := .bool false) rfl (by kernel_rfl) (by kernel_rfl) (by kernel_rfl) (fun _ _ _ h => h) (Or.inl ⟨by first | rfl | kernel_rfl, by intro wz hSw; (try dsimp only at hSw); go_simp⟩) (by assumption) ?_
        (try simp only [Act.put, List.getElem_toArray, List.getElem_cons_succ, List.getElem_cons_zero, List.setIfInBounds_toArray, List.set_cons_zero, List.set_cons_succ])
        refine wpAnyH_take (i := 14) (v := .int .i64 i) rfl (by kernel_rfl) (by kernel_rfl) (by kernel_rfl) (fun _ _ _ h => h) (Or.inl ⟨by first | rfl | kernel_rfl, by intro wz hSw; (try dsimp only at hSw); go_simp⟩) (by assumption) ?_
        (try simp only [Act.put, List.getElem_toArray, List.getElem_cons_succ, List.getElem_cons_zero, List.setIfInBounds_toArray, List.set_cons_zero, List.set_cons_succ])
        refine wpAnyH_take (i := 15) (v := .bool false) rfl (by kernel_rfl) (by kernel_rfl) (by kernel_rfl) (fun _ _ _ h => h) (Or.inl ⟨by first | rfl | kernel_rfl, by intro wz hSw; (try dsimp only at hSw); go_simp⟩) (by assumption) ?_
        (try simp only [Act.put, List.getElem_toArray, List.getElem_cons_succ, List.getElem_cons_zero, List.setIfInBounds_toArray, List.set_cons_zero, List.set_cons_succ])
        refine wpAnyH_done (by kernel_rfl) ?_ _
        go_wp2
        exact bodyPost_ret (v := .tuple #[.int .i64 i, .bool false]) (by simp [results, Tryz.results153, go_sem]) rfl ⟨⟨i, false, rfl, by omega, HF2.out⟩, by with_reducible (repeat' first | assumption | exact Below.refl _ _ | refine Below.drew ?_ | refine bdrewN ?_ _ | refine Below.setCell ?_ (by first | exact Nat.le_refl _ | (simp; done) | (simp; omega) | omega) _ | refine Below.alloc ?_ (by first | exact Nat.le_refl _ | (simp; done) | (simp; omega) | omega) _)⟩
end Go.Proofs.YtcgcnpcimfaecaaGreatDoor
