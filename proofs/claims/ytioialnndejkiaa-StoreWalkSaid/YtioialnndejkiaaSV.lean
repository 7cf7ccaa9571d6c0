/- StoreWalk's walk. -/
import Derived.Test.YtioialnndejkiaaS14
import Derived.Deep.QuietTactic
import Derived.BigQuiet
namespace Go.Proofs.Ytioialnndejkiaa
open Go.RowKit
set_option linter.all false
theorem neP_same (a : Addr) (w : World) : (binOp .neq 46 (.pointer (some a)) (.pointer (some a))).run Try.prog w = .ok (.bool false) w := by
  simp only [binOp]
  simp [Op.equal, Op.maxDepth, eqP_in 9999 a a w true (run_sameAddr_same w a)]
theorem get_mem {L : List It} (hs : SrtI L) {y : It} (hy : y ∈ L) : getL L y.r y.c = y.v := by
  have hr : (⟨y.c, y.v⟩ : Sp) ∈ rowL L y.r := mem_row.2 hy
  have hS := row_srt hs y.r
  unfold getL
  have hh : hasS (rowL L y.r) y.c = true := by unfold hasS; rw [List.any_eq_true]; exact ⟨_, hr, by simp⟩
  have h1 := at_idx hS hh
  obtain ⟨i, hi⟩ := List.getElem?_of_mem hr
  have h2 := idx_below (a := y.c) hS hi (Int.le_refl _)
  by_cases e : idxS (rowL L y.r) y.c = i
  · rw [e, hi] at h1; injection h1 with h1; injection h1 with _ h1; exact h1.symm
  · obtain ⟨l1, e1⟩ := List.getElem?_eq_some_iff.1 h1
    obtain ⟨l2, e2⟩ := List.getElem?_eq_some_iff.1 hi
    have := List.pairwise_iff_getElem.1 hS _ i l1 l2 (by omega)
    rw [e1, e2] at this
    simp at this
/-- The cells of items. -/
def clK (K : List It) : List Cl := K.map (fun x => ⟨x.r, x.c⟩)
/-- Where the walk stands: behind so many items. -/
structure Pos (K : List It) (n : Nat) (ar ac : Int) : Prop where
  zero : n = 0 → ar = 0 ∧ ac = 0
  succ : ∀ m, n = m + 1 → ∃ y, K[m]? = some y ∧ y.r = ar ∧ y.c = ac
  i1 : I64 ar
  i2 : I64 ac
theorem Pos.next {K : List It} {n : Nat} {y : It} (h : K[n]? = some y) (i1 : I64 y.r) (i2 : I64 y.c) : Pos K (n + 1) y.r y.c :=
  ⟨fun e => by omega, fun m e => ⟨y, by rw [show m = n by omega]; exact h, rfl, rfl⟩, i1, i2⟩
theorem clK_take (K : List It) (n : Nat) (y : It) (h : K[n]? = some y) : clK (K.take (n + 1)) = clK (K.take n) ++ [⟨y.r, y.c⟩] := by
  rw [List.take_succ, h]
  simp [clK]
theorem clK_len (K : List It) (n : Nat) (h : n ≤ K.length) : (clK (K.take n)).length = n := by simp [clK]; omega
theorem inL_take (t l b rr : Int) (m : List Cl) (i : Nat) (y : Cl) (h : m[i]? = some y) : inL t l b rr (m.take (i + 1)) = inL t l b rr (m.take i) ++ (if (mayC y.r y.c && inB t l b rr y.r y.c) = true then [y] else []) := by
  rw [List.take_succ, h]
  unfold inL
  rw [List.filter_append]
  congr 1
  simp only [Option.toList_some, List.filter_cons, List.filter_nil]
theorem inL_few (t l b rr : Int) (m : List Cl) (i : Nat) : (inL t l b rr (m.take i)).length ≤ m.length := by
  unfold inL
  have h1 := List.length_filter_le (fun k => mayC k.r k.c && inB t l b rr k.r k.c) (m.take i)
  have h2 := List.length_take_le i m
  rw [List.length_take] at h1
  omega
set_option maxRecDepth 100000 in
set_option maxHeartbeats 8000000 in
theorem walk_walk (w : World) (v : Value) (l : List Cl) (t le b rr : Int) (hv : CV Cl.cells 2 w v l) (hI : Hid (∀ x ∈ l, I64 x.r ∧ I64 x.c)) (it : I64 t) (il : I64 le) (ib : I64 b) (ir : I64 rr) (hby : l.length * 16 ≤ 140737488355327) :
    Calls Try.prog 4 #[v, .agg #[.int .i64 t, .int .i64 le, .int .i64 b, .int .i64 rr]] w fun e w' => e = .returned (.bool true) ∧ Below w.heap.size w w' := by
  have mixed : Try.prog.follows .mixedOrders = true := by kernel_rfl
  obtain ⟨p, cap, rfl, hcap, hmx, hp0⟩ := hv
  have hp : Hid _ := hp0
  clear hp0
  obtain ⟨n, hn⟩ : ∃ n, n = l.length := ⟨_, rfl⟩
  rw [← hn] at hcap hmx hp hby ⊢
  have HN : Hid (n = l.length) := hn
  clear hn
  have HN1 : Hid (∀ W, Calls Try.prog 13 #[] W fun e w' => e = .returned (.pointer (some ⟨W.heap.size, 0, none⟩)) ∧ SW w' (dNew W.heap.size) W.heap.size [] ∧ Below W.heap.size W w' ∧ w'.heap.size = W.heap.size + 1) := new_sw
  go_enter Try.func4, Try.ntmps4
  go_wp2_with (go_at_call 13; refine (HN1.out _).mono ?_; rintro e w1 ⟨rfl, hs, hb1, z1⟩; have HS : Hid (Sd (w.heap.size + 1) w1 (w.heap.size + 1) [] (.slice none 0 0) []) := (by rw [World.size_alloc] at hs; exact ⟨_, hs, fun k hk => by rw [dNew_some hk]; exact Nat.le_refl _, RowC.nil _ _, fun g hg => by cases hg⟩); clear hs; have hB1 : Below w.heap.size w w1 := bup (by with_reducible (repeat' first | assumption | exact Below.refl _ _ | refine Below.drew ?_ | refine bdrewN ?_ _ | refine Below.setCell ?_ (by first | exact Nat.le_refl _ | (simp; done) | (simp; omega) | omega) _ | refine Below.alloc ?_ (by first | exact Nat.le_refl _ | (simp; done) | (simp; omega) | omega) _)) hb1; have or1 : Own w1 w.heap.size #[.int .i64 t, .int .i64 le, .int .i64 b, .int .i64 rr] := Own.keep (by with_reducible (repeat' first | assumption | refine Own.drew ?_ | refine Own.drewN ?_ _ | (refine Own.at ?_; first | rfl | (simp; done)) | refine Own.past ?_ _)) hb1; have zz1 : w1.heap.size = w.heap.size + 1 + 1 := by rw [z1]; simp)
  clear HN1 z1 hb1
  obtain ⟨X, hX⟩ : ∃ X : Addr, X = ⟨w.heap.size + 1 + 1, 0, none⟩ := ⟨_, rfl⟩
  have HP1 : Hid (∀ (W : World) (L : List It) (v : Value) (m : List Cl) (k : Cl), Sd (w.heap.size + 1) W (w.heap.size + 1) L v m → (w.heap.size + 1) ≤ W.heap.size → Calls Try.prog 14 #[.pointer (some ⟨(w.heap.size + 1), 0, none⟩), .agg #[.int .i64 k.r, .int .i64 k.c], .pointer (some ⟨w.heap.size + 1 + 1, 0, none⟩)] W fun e w' => e = .returned (.int .i64 (if mayC k.r k.c = true then 0 else 3)) ∧ Sd (w.heap.size + 1) w' (w.heap.size + 1) (stepL (some X) L k) v m ∧ Below (w.heap.size + 1) W w') := fun W L v m k h1 h2 => by rw [hX]; exact sd_put _ W _ L v m k _ h1 h2
  have HX : Hid (X = ⟨w.heap.size + 1 + 1, 0, none⟩) := hX
  clear hX
  go_loopw [7, 8] (fun u v w' => ∃ (i : Nat) (q : Option Addr) (c : Nat), v = .int .i64 i ∧ i ≤ n ∧ u = .slice q (inL t le b rr (l.take i)).length c ∧ Hid (Sd (w.heap.size + 1) w' (w.heap.size + 1) (putsL (some X) [] (l.take i)) (.slice q (inL t le b rr (l.take i)).length c) (inL t le b rr (l.take i))) ∧ Below w.heap.size w w' ∧ (w.heap.size + 1) ≤ w'.heap.size ∧ Own w' w.heap.size #[.int .i64 t, .int .i64 le, .int .i64 b, .int .i64 rr]) (fun _ v _ => n - (intOf v).toNat)
  case atStart => exact ⟨0, none, 0, rfl, by omega, rfl, (show Hid _ from HS.out.keep (bal _ _)), by with_reducible (repeat' first | assumption | exact Below.refl _ _ | refine Below.drew ?_ | refine bdrewN ?_ _ | refine Below.setCell ?_ (by first | exact Nat.le_refl _ | (simp; done) | (simp; omega) | omega) _ | refine Below.alloc ?_ (by first | exact Nat.le_refl _ | (simp; done) | (simp; omega) | omega) _), by simp; omega, by with_reducible (repeat' first | assumption | refine Own.drew ?_ | refine Own.drewN ?_ _ | (refine Own.at ?_; first | rfl | (simp; done)) | refine Own.past ?_ _)⟩
  case round =>
    obtain ⟨i, q, c, rfl, hi, rfl, hT, hB3, z3, o3⟩ := hrel
    clear HS hB1 or1 zz1
    have hfew : (inL t le b rr (l.take i)).length ≤ n := by rw [HN.out]; exact inL_few _ _ _ _ _ _
    by_cases hlt : i < n
    · have hn0 : 0 < l.length := by rw [← HN.out]; omega
      obtain ⟨ab, ao, rfl, hab, HA⟩ := hp.out (by rw [← HN.out] at hn0; exact hn0)
      have hlt' : (i : Int) < n := by omega
      obtain ⟨x1, hx1⟩ : ∃ x1, l[i]? = some x1 := ⟨_, List.getElem?_eq_getElem (by rw [← HN.out]; omega)⟩
      have ca := HA i _ hx1
      have HE1 : Hid (putsL (some X) [] (l.take (i + 1)) = stepL (some X) (putsL (some X) [] (l.take i)) x1) := puts_take _ _ _ _ hx1
      have HE2 : Hid (inL t le b rr (l.take (i + 1)) = inL t le b rr (l.take i) ++ (if (mayC x1.r x1.c && inB t le b rr x1.r x1.c) = true then [x1] else [])) := inL_take _ _ _ _ _ _ _ hx1
      clear hx1 HA
      have hwr := hB3.size
      have y0 : wr.cell? ⟨ab, ao + i * 2, none⟩ = some (.int .i64 x1.r) := (hB3.cell (p := ⟨ab, ao + i * 2, none⟩) hab).trans (ca 0 (by decide))
      have y1 : wr.cell? ⟨ab, ao + i * 2 + 1, none⟩ = some (.int .i64 x1.c) := (hB3.cell (p := ⟨ab, ao + i * 2 + 1, none⟩) hab).trans (ca 1 (by decide))
      clear ca
      have hab' : ab < w.heap.size + 1 := by omega
      revert hT HE1 HE2
      generalize inL t le b rr (l.take i) = m at *
      generalize putsL (some X) [] (l.take i) = L
      intro hT HE1 HE2
      obtain ⟨xr, xc⟩ := x1
      dsimp only at y0 y1
      cases hm : mayC xr xc <;> cases hi2 : inB t le b rr xr xc
      · have HQ : Hid (Calls Try.prog 14 #[.pointer (some ⟨(w.heap.size + 1), 0, none⟩), .agg #[.int .i64 xr, .int .i64 xc], .pointer (some ⟨w.heap.size + 1 + 1, 0, none⟩)] wr fun e w' => e = .returned (.int .i64 3) ∧ Sd (w.heap.size + 1) w' (w.heap.size + 1) (stepL (some X) L ⟨xr, xc⟩) (.slice q m.length c) m ∧ Below (w.heap.size + 1) wr w') := by
          have q := HP1.out wr _ _ _ ⟨xr, xc⟩ hT.out z3
          dsimp only at q
          rw [if_neg (by rw [hm]; decide)] at q
          exact q
        have HM : Hid (∀ W, Calls Try.prog 15 #[.agg #[.int .i64 xr, .int .i64 xc]] W fun e w' => e = .returned (.bool false) ∧ Below W.heap.size W w') := fun W => by rw [← hm]; exact rmay_any xr xc W
        have HB : Hid (∀ W, Calls Try.prog 16 #[.agg #[.int .i64 t, .int .i64 le, .int .i64 b, .int .i64 rr], .agg #[.int .i64 xr, .int .i64 xc]] W fun e w' => e = .returned (.bool false) ∧ Below W.heap.size W w') := fun W => by rw [← hi2]; exact rin_any t le b rr xr xc W
        clear HP1
        go_wp2_with (first
          | (go_at_call 14; refine HQ.out.mono ?_; rintro e wa ⟨rfl, hTa, hba⟩; have HTa : Hid (Sd (w.heap.size + 1) wa (w.heap.size + 1) (stepL (some X) L ⟨xr, xc⟩) (.slice q m.length c) m) := hTa; clear hTa; have za := hba.size; have ya0 := (hba.cell (p := ⟨ab, ao + i * 2, none⟩) hab').trans y0; have ya1 := (hba.cell (p := ⟨ab, ao + i * 2 + 1, none⟩) hab').trans y1; have oa := o3.low hba (by omega); have hBa : Below w.heap.size w wa := hB3.trans (hba.mono (by omega)))
          | (go_at_call 15; refine (HM.out _).mono ?_; rintro e wb ⟨rfl, hbb⟩; have zb := hbb.size; have hBb : Below w.heap.size w wb := bup hBa hbb; have yb0 := (hbb.cell (p := ⟨ab, ao + i * 2, none⟩) (show ab < wa.heap.size from by omega)).trans ya0; have yb1 := (hbb.cell (p := ⟨ab, ao + i * 2 + 1, none⟩) (show ab < wa.heap.size from by omega)).trans ya1; have ob := oa.keep hbb; have cb := ob.cell; have lb := ob.lt))
        go_region_held3 (fun w' => w'.cell? ⟨w.heap.size, 0, none⟩ = some (.int .i64 t) ∧ w'.cell? ⟨w.heap.size, 1, none⟩ = some (.int .i64 le) ∧ w'.cell? ⟨w.heap.size, 2, none⟩ = some (.int .i64 b) ∧ w'.cell? ⟨w.heap.size, 3, none⟩ = some (.int .i64 rr) ∧ w'.cell? ⟨ab, ao + i * 2, none⟩ = some (.int .i64 xr) ∧ w'.cell? ⟨ab, ao + i * 2 + 1, none⟩ = some (.int .i64 xc)) ((repeat' apply And.intro) <;> (first | (go_keep; done) | (go_simp; done))) (first | (go_at_call 16; refine (HB.out _).mono ?_; rintro e wc ⟨rfl, hbc⟩; have hBc : Below w.heap.size w wc := bup (by with_reducible (repeat' first | assumption | exact Below.refl _ _ | refine Below.drew ?_ | refine bdrewN ?_ _ | refine Below.setCell ?_ (by first | exact Nat.le_refl _ | (simp; done) | (simp; omega) | omega) _ | refine Below.alloc ?_ (by first | exact Nat.le_refl _ | (simp; done) | (simp; omega) | omega) _)) hbc; have hBwc : Below wb.heap.size wb wc := bup (by with_reducible (repeat' first | assumption | exact Below.refl _ _ | refine Below.drew ?_ | refine bdrewN ?_ _ | refine Below.setCell ?_ (by first | exact Nat.le_refl _ | (simp; done) | (simp; omega) | omega) _ | refine Below.alloc ?_ (by first | exact Nat.le_refl _ | (simp; done) | (simp; omega) | omega) _)) hbc; have zc := hBwc.size; have yc0 := (hBwc.cell (p := ⟨ab, ao + i * 2, none⟩) (show ab < wb.heap.size from by omega)).trans yb0; have yc1 := (hBwc.cell (p := ⟨ab, ao + i * 2 + 1, none⟩) (show ab < wb.heap.size from by omega)).trans yb1; have oc := ob.keep hBwc; have cc := oc.cell; have lc := oc.lt))
        all_goals go_wp2
        have HE3 : Hid (inL t le b rr (l.take (i + 1)) = m) := (show inL t le b rr (l.take (i + 1)) = m from by have q := HE2.out; (try dsimp only at q); rw [hm, hi2] at q; simpa using q)
        exact ⟨⟨i + 1, q, c, by go_num, by omega, by rw [HE3.out], (show Hid _ from by rw [HE1.out, HE3.out]; exact (HTa.out.keep hbb).keep hBwc), hBc, by omega, oc⟩, by simp [intOf]; omega⟩
      · have HQ : Hid (Calls Try.prog 14 #[.pointer (some ⟨(w.heap.size + 1), 0, none⟩), .agg #[.int .i64 xr, .int .i64 xc], .pointer (some ⟨w.heap.size + 1 + 1, 0, none⟩)] wr fun e w' => e = .returned (.int .i64 3) ∧ Sd (w.heap.size + 1) w' (w.heap.size + 1) (stepL (some X) L ⟨xr, xc⟩) (.slice q m.length c) m ∧ Below (w.heap.size + 1) wr w') := by
          have q := HP1.out wr _ _ _ ⟨xr, xc⟩ hT.out z3
          dsimp only at q
          rw [if_neg (by rw [hm]; decide)] at q
          exact q
        have HM : Hid (∀ W, Calls Try.prog 15 #[.agg #[.int .i64 xr, .int .i64 xc]] W fun e w' => e = .returned (.bool false) ∧ Below W.heap.size W w') := fun W => by rw [← hm]; exact rmay_any xr xc W
        have HB : Hid (∀ W, Calls Try.prog 16 #[.agg #[.int .i64 t, .int .i64 le, .int .i64 b, .int .i64 rr], .agg #[.int .i64 xr, .int .i64 xc]] W fun e w' => e = .returned (.bool true) ∧ Below W.heap.size W w') := fun W => by rw [← hi2]; exact rin_any t le b rr xr xc W
        clear HP1
        go_wp2_with (first
          | (go_at_call 14; refine HQ.out.mono ?_; rintro e wa ⟨rfl, hTa, hba⟩; have HTa : Hid (Sd (w.heap.size + 1) wa (w.heap.size + 1) (stepL (some X) L ⟨xr, xc⟩) (.slice q m.length c) m) := hTa; clear hTa; have za := hba.size; have ya0 := (hba.cell (p := ⟨ab, ao + i * 2, none⟩) hab').trans y0; have ya1 := (hba.cell (p := ⟨ab, ao + i * 2 + 1, none⟩) hab').trans y1; have oa := o3.low hba (by omega); have hBa : Below w.heap.size w wa := hB3.trans (hba.mono (by omega)))
          | (go_at_call 15; refine (HM.out _).mono ?_; rintro e wb ⟨rfl, hbb⟩; have zb := hbb.size; have hBb : Below w.heap.size w wb := bup hBa hbb; have yb0 := (hbb.cell (p := ⟨ab, ao + i * 2, none⟩) (show ab < wa.heap.size from by omega)).trans ya0; have yb1 := (hbb.cell (p := ⟨ab, ao + i * 2 + 1, none⟩) (show ab < wa.heap.size from by omega)).trans ya1; have ob := oa.keep hbb; have cb := ob.cell; have lb := ob.lt))
        go_region_held3 (fun w' => w'.cell? ⟨w.heap.size, 0, none⟩ = some (.int .i64 t) ∧ w'.cell? ⟨w.heap.size, 1, none⟩ = some (.int .i64 le) ∧ w'.cell? ⟨w.heap.size, 2, none⟩ = some (.int .i64 b) ∧ w'.cell? ⟨w.heap.size, 3, none⟩ = some (.int .i64 rr) ∧ w'.cell? ⟨ab, ao + i * 2, none⟩ = some (.int .i64 xr) ∧ w'.cell? ⟨ab, ao + i * 2 + 1, none⟩ = some (.int .i64 xc)) ((repeat' apply And.intro) <;> (first | (go_keep; done) | (go_simp; done))) (first | (go_at_call 16; refine (HB.out _).mono ?_; rintro e wc ⟨rfl, hbc⟩; have hBc : Below w.heap.size w wc := bup (by with_reducible (repeat' first | assumption | exact Below.refl _ _ | refine Below.drew ?_ | refine bdrewN ?_ _ | refine Below.setCell ?_ (by first | exact Nat.le_refl _ | (simp; done) | (simp; omega) | omega) _ | refine Below.alloc ?_ (by first | exact Nat.le_refl _ | (simp; done) | (simp; omega) | omega) _)) hbc; have hBwc : Below wb.heap.size wb wc := bup (by with_reducible (repeat' first | assumption | exact Below.refl _ _ | refine Below.drew ?_ | refine bdrewN ?_ _ | refine Below.setCell ?_ (by first | exact Nat.le_refl _ | (simp; done) | (simp; omega) | omega) _ | refine Below.alloc ?_ (by first | exact Nat.le_refl _ | (simp; done) | (simp; omega) | omega) _)) hbc; have zc := hBwc.size; have yc0 := (hBwc.cell (p := ⟨ab, ao + i * 2, none⟩) (show ab < wb.heap.size from by omega)).trans yb0; have yc1 := (hBwc.cell (p := ⟨ab, ao + i * 2 + 1, none⟩) (show ab < wb.heap.size from by omega)).trans yb1; have oc := ob.keep hBwc; have cc := oc.cell; have lc := oc.lt))
        all_goals go_wp2
        have HE3 : Hid (inL t le b rr (l.take (i + 1)) = m) := (show inL t le b rr (l.take (i + 1)) = m from by have q := HE2.out; (try dsimp only at q); rw [hm, hi2] at q; simpa using q)
        exact ⟨⟨i + 1, q, c, by go_num, by omega, by rw [HE3.out], (show Hid _ from by rw [HE1.out, HE3.out]; exact (HTa.out.keep hbb).keep hBwc), hBc, by omega, oc⟩, by simp [intOf]; omega⟩
      · have HQ : Hid (Calls Try.prog 14 #[.pointer (some ⟨(w.heap.size + 1), 0, none⟩), .agg #[.int .i64 xr, .int .i64 xc], .pointer (some ⟨w.heap.size + 1 + 1, 0, none⟩)] wr fun e w' => e = .returned (.int .i64 0) ∧ Sd (w.heap.size + 1) w' (w.heap.size + 1) (stepL (some X) L ⟨xr, xc⟩) (.slice q m.length c) m ∧ Below (w.heap.size + 1) wr w') := by
          have q := HP1.out wr _ _ _ ⟨xr, xc⟩ hT.out z3
          dsimp only at q
          rw [if_pos hm] at q
          exact q
        have HM : Hid (∀ W, Calls Try.prog 15 #[.agg #[.int .i64 xr, .int .i64 xc]] W fun e w' => e = .returned (.bool true) ∧ Below W.heap.size W w') := fun W => by rw [← hm]; exact rmay_any xr xc W
        have HB : Hid (∀ W, Calls Try.prog 16 #[.agg #[.int .i64 t, .int .i64 le, .int .i64 b, .int .i64 rr], .agg #[.int .i64 xr, .int .i64 xc]] W fun e w' => e = .returned (.bool false) ∧ Below W.heap.size W w') := fun W => by rw [← hi2]; exact rin_any t le b rr xr xc W
        clear HP1
        go_wp2_with (first
          | (go_at_call 14; refine HQ.out.mono ?_; rintro e wa ⟨rfl, hTa, hba⟩; have HTa : Hid (Sd (w.heap.size + 1) wa (w.heap.size + 1) (stepL (some X) L ⟨xr, xc⟩) (.slice q m.length c) m) := hTa; clear hTa; have za := hba.size; have ya0 := (hba.cell (p := ⟨ab, ao + i * 2, none⟩) hab').trans y0; have ya1 := (hba.cell (p := ⟨ab, ao + i * 2 + 1, none⟩) hab').trans y1; have oa := o3.low hba (by omega); have hBa : Below w.heap.size w wa := hB3.trans (hba.mono (by omega)))
          | (go_at_call 15; refine (HM.out _).mono ?_; rintro e wb ⟨rfl, hbb⟩; have zb := hbb.size; have hBb : Below w.heap.size w wb := bup hBa hbb; have yb0 := (hbb.cell (p := ⟨ab, ao + i * 2, none⟩) (show ab < wa.heap.size from by omega)).trans ya0; have yb1 := (hbb.cell (p := ⟨ab, ao + i * 2 + 1, none⟩) (show ab < wa.heap.size from by omega)).trans ya1; have ob := oa.keep hbb; have cb := ob.cell; have lb := ob.lt))
        go_region_held3 (fun w' => w'.cell? ⟨w.heap.size, 0, none⟩ = some (.int .i64 t) ∧ w'.cell? ⟨w.heap.size, 1, none⟩ = some (.int .i64 le) ∧ w'.cell? ⟨w.heap.size, 2, none⟩ = some (.int .i64 b) ∧ w'.cell? ⟨w.heap.size, 3, none⟩ = some (.int .i64 rr) ∧ w'.cell? ⟨ab, ao + i * 2, none⟩ = some (.int .i64 xr) ∧ w'.cell? ⟨ab, ao + i * 2 + 1, none⟩ = some (.int .i64 xc)) ((repeat' apply And.intro) <;> (first | (go_keep; done) | (go_simp; done))) (first | (go_at_call 16; refine (HB.out _).mono ?_; rintro e wc ⟨rfl, hbc⟩; have hBc : Below w.heap.size w wc := bup (by with_reducible (repeat' first | assumption | exact Below.refl _ _ | refine Below.drew ?_ | refine bdrewN ?_ _ | refine Below.setCell ?_ (by first | exact Nat.le_refl _ | (simp; done) | (simp; omega) | omega) _ | refine Below.alloc ?_ (by first | exact Nat.le_refl _ | (simp; done) | (simp; omega) | omega) _)) hbc; have hBwc : Below wb.heap.size wb wc := bup (by with_reducible (repeat' first | assumption | exact Below.refl _ _ | refine Below.drew ?_ | refine bdrewN ?_ _ | refine Below.setCell ?_ (by first | exact Nat.le_refl _ | (simp; done) | (simp; omega) | omega) _ | refine Below.alloc ?_ (by first | exact Nat.le_refl _ | (simp; done) | (simp; omega) | omega) _)) hbc; have zc := hBwc.size; have yc0 := (hBwc.cell (p := ⟨ab, ao + i * 2, none⟩) (show ab < wb.heap.size from by omega)).trans yb0; have yc1 := (hBwc.cell (p := ⟨ab, ao + i * 2 + 1, none⟩) (show ab < wb.heap.size from by omega)).trans yb1; have oc := ob.keep hBwc; have cc := oc.cell; have lc := oc.lt))
        all_goals go_wp2
        have HE3 : Hid (inL t le b rr (l.take (i + 1)) = m) := (show inL t le b rr (l.take (i + 1)) = m from by have q := HE2.out; (try dsimp only at q); rw [hm, hi2] at q; simpa using q)
        exact ⟨⟨i + 1, q, c, by go_num, by omega, by rw [HE3.out], (show Hid _ from by rw [HE1.out, HE3.out]; exact (HTa.out.keep hbb).keep hBwc), hBc, by omega, oc⟩, by simp [intOf]; omega⟩
      · have HQ : Hid (Calls Try.prog 14 #[.pointer (some ⟨(w.heap.size + 1), 0, none⟩), .agg #[.int .i64 xr, .int .i64 xc], .pointer (some ⟨w.heap.size + 1 + 1, 0, none⟩)] wr fun e w' => e = .returned (.int .i64 0) ∧ Sd (w.heap.size + 1) w' (w.heap.size + 1) (stepL (some X) L ⟨xr, xc⟩) (.slice q m.length c) m ∧ Below (w.heap.size + 1) wr w') := by
          have q := HP1.out wr _ _ _ ⟨xr, xc⟩ hT.out z3
          dsimp only at q
          rw [if_pos hm] at q
          exact q
        have HM : Hid (∀ W, Calls Try.prog 15 #[.agg #[.int .i64 xr, .int .i64 xc]] W fun e w' => e = .returned (.bool true) ∧ Below W.heap.size W w') := fun W => by rw [← hm]; exact rmay_any xr xc W
        have HB : Hid (∀ W, Calls Try.prog 16 #[.agg #[.int .i64 t, .int .i64 le, .int .i64 b, .int .i64 rr], .agg #[.int .i64 xr, .int .i64 xc]] W fun e w' => e = .returned (.bool true) ∧ Below W.heap.size W w') := fun W => by rw [← hi2]; exact rin_any t le b rr xr xc W
        clear HP1
        go_wp2_with (first
          | (go_at_call 14; refine HQ.out.mono ?_; rintro e wa ⟨rfl, hTa, hba⟩; have HTa : Hid (Sd (w.heap.size + 1) wa (w.heap.size + 1) (stepL (some X) L ⟨xr, xc⟩) (.slice q m.length c) m) := hTa; clear hTa; have za := hba.size; have ya0 := (hba.cell (p := ⟨ab, ao + i * 2, none⟩) hab').trans y0; have ya1 := (hba.cell (p := ⟨ab, ao + i * 2 + 1, none⟩) hab').trans y1; have oa := o3.low hba (by omega); have hBa : Below w.heap.size w wa := hB3.trans (hba.mono (by omega)))
          | (go_at_call 15; refine (HM.out _).mono ?_; rintro e wb ⟨rfl, hbb⟩; have zb := hbb.size; have hBb : Below w.heap.size w wb := bup hBa hbb; have yb0 := (hbb.cell (p := ⟨ab, ao + i * 2, none⟩) (show ab < wa.heap.size from by omega)).trans ya0; have yb1 := (hbb.cell (p := ⟨ab, ao + i * 2 + 1, none⟩) (show ab < wa.heap.size from by omega)).trans ya1; have ob := oa.keep hbb; have cb := ob.cell; have lb := ob.lt))
        go_region_held3 (fun w' => w'.cell? ⟨w.heap.size, 0, none⟩ = some (.int .i64 t) ∧ w'.cell? ⟨w.heap.size, 1, none⟩ = some (.int .i64 le) ∧ w'.cell? ⟨w.heap.size, 2, none⟩ = some (.int .i64 b) ∧ w'.cell? ⟨w.heap.size, 3, none⟩ = some (.int .i64 rr) ∧ w'.cell? ⟨ab, ao + i * 2, none⟩ = some (.int .i64 xr) ∧ w'.cell? ⟨ab, ao + i * 2 + 1, none⟩ = some (.int .i64 xc)) ((repeat' apply And.intro) <;> (first | (go_keep; done) | (go_simp; done))) (first | (go_at_call 16; refine (HB.out _).mono ?_; rintro e wc ⟨rfl, hbc⟩; have hBc : Below w.heap.size w wc := bup (by with_reducible (repeat' first | assumption | exact Below.refl _ _ | refine Below.drew ?_ | refine bdrewN ?_ _ | refine Below.setCell ?_ (by first | exact Nat.le_refl _ | (simp; done) | (simp; omega) | omega) _ | refine Below.alloc ?_ (by first | exact Nat.le_refl _ | (simp; done) | (simp; omega) | omega) _)) hbc; have hBwc : Below wb.heap.size wb wc := bup (by with_reducible (repeat' first | assumption | exact Below.refl _ _ | refine Below.drew ?_ | refine bdrewN ?_ _ | refine Below.setCell ?_ (by first | exact Nat.le_refl _ | (simp; done) | (simp; omega) | omega) _ | refine Below.alloc ?_ (by first | exact Nat.le_refl _ | (simp; done) | (simp; omega) | omega) _)) hbc; have zc := hBwc.size; have yc0 := (hBwc.cell (p := ⟨ab, ao + i * 2, none⟩) (show ab < wb.heap.size from by omega)).trans yb0; have yc1 := (hBwc.cell (p := ⟨ab, ao + i * 2 + 1, none⟩) (show ab < wb.heap.size from by omega)).trans yb1; have oc := ob.keep hBwc; have cc := oc.cell; have lc := oc.lt))
        have HSc : Hid (Sd (w.heap.size + 1) wc (w.heap.size + 1) (stepL (some X) L ⟨xr, xc⟩) (.slice q m.length c) m) := (show _ from (HTa.out.keep hbb).keep hBwc)
        have HAP : Hid (∀ ty, ∃ v' w', (Builtin.append_ #[44, 44] ty #[.slice q m.length c, .slice (some ⟨wc.heap.size, 0, none⟩) 1 1]).run Try.prog (wc.alloc (.cells #[.int .i64 xr, .int .i64 xc] 32)) = .ok v' w' ∧ (∃ q' c', v' = .slice q' (m.length + 1) c' ∧ Sd (w.heap.size + 1) w' (w.heap.size + 1) (stepL (some X) L ⟨xr, xc⟩) (.slice q' (m.length + 1) c') (m ++ [⟨xr, xc⟩])) ∧ Below (w.heap.size + 1) wc w') := (show _ from fun ty => by
          obtain ⟨D, _, _, hR, _⟩ := HSc.out
          obtain ⟨v', w', h1, h2, h3, h4, q', c', h5⟩ := app_cells (w.heap.size + 1) wc _ m ⟨xr, xc⟩ hR (by omega) (by omega) ty
          obtain ⟨h6, h7⟩ := Sd.app HSc.out (by omega) h2 h3 h4
          subst h5
          exact ⟨_, w', h1, ⟨q', c', rfl, h6⟩, h7⟩)
        go_wp2_with (at_builtin; obtain ⟨v', wd, hr, ⟨q', c', rfl, hSd⟩, hbd⟩ := HAP.out _; refine wpList_appC rfl _ _ rfl _ _ rfl rfl _ wd hr ?_; have HSd : Hid (Sd (w.heap.size + 1) wd (w.heap.size + 1) (stepL (some X) L ⟨xr, xc⟩) (.slice q' (m.length + 1) c') (m ++ [⟨xr, xc⟩])) := hSd; clear hSd hr; have zd := hbd.size; have od := oc.low hbd (by omega); have hBd : Below w.heap.size w wd := hBc.trans (hbd.mono (by omega)))
        have HE3 : Hid (inL t le b rr (l.take (i + 1)) = m ++ [⟨xr, xc⟩]) := (show _ from by have q := HE2.out; (try dsimp only at q); rw [hm, hi2] at q; exact q)
        exact ⟨⟨i + 1, q', c', by go_num, by omega, by rw [HE3.out, List.length_append]; rfl, (show Hid _ from by rw [HE1.out, HE3.out, List.length_append]; exact HSd.out), hBd, by omega, od⟩, by simp [intOf]; omega⟩
    · have hin : i = n := by omega
      subst hin
      have HTL : Hid (l.take i = l) := (show _ from by rw [HN.out]; exact List.take_length)
      rw [HTL.out] at hT hfew ⊢
      have HK : Hid ((inI t le b rr (putsL (some X) [] l)).length ≤ (inL t le b rr l).length) := (show _ from by
        have q := inI_len t le b rr (some X) l i
        rw [HTL.out] at q
        exact q)
      have HM2 : Hid (∀ y ∈ inL t le b rr l, (⟨y.r, y.c, some X⟩ : It) ∈ inI t le b rr (putsL (some X) [] l)) := (show _ from fun y hy => by
        have q := List.mem_filter.1 hy
        have q2 := Bool.and_eq_true_iff.1 q.2
        exact List.mem_filter.2 ⟨(mem_puts _ _ _ _).2 (.inr ⟨rfl, y, q.1, q2.1, rfl, rfl⟩), q2.2⟩)
      have HVX : Hid (∀ y ∈ putsL (some X) [] l, y.v = some X) := (show _ from fun y hy => by
        rcases (mem_puts _ _ _ _).1 hy with q | q
        · cases q.1
        · exact q.1)
      clear HP1 hp HN HTL
      revert hT hfew HK HM2 HVX
      generalize inL t le b rr l = M
      generalize putsL (some X) [] l = L
      intro hT hfew HK HM2 HVX
      obtain ⟨K, hK⟩ : ∃ K, K = inI t le b rr L := ⟨_, rfl⟩
      rw [← hK] at HK HM2
      have HKE : Hid (K = inI t le b rr L) := hK
      clear hK
      go_wp2
      obtain ⟨w4, h4⟩ : ∃ w4, w4 = wr := ⟨_, rfl⟩
      subst h4
      obtain ⟨D, s1, s2, s3, s4⟩ := hT.out
      have d1 : Hid (∀ k t, D k = some t → k < w4.heap.size) := s1.dom
      have d2 : Hid (∀ g, Value.ownBlock (.slice q M.length c) = some g → g < w4.heap.size) := fun g hg => (s3.lt g hg).2
      have HS1 : Hid (SW w4 D (w.heap.size + 1) L) := s1
      have HS3 : Hid (RowC w4 (w.heap.size + 1) (.slice q M.length c) M) := s3
      clear s1 s2 s3 s4 hT
      have hz4 := hB3.size
      have hcM : (M.length : Int) ≤ 9223372036854775806 := by omega
      go_loopw [13, 14] (fun u v w' => ∃ (n : Nat) (q2 : Option Addr) (c2 : Nat) (ar ac : Int), v = .int .i64 n ∧ n ≤ K.length ∧ u = .slice q2 n c2 ∧ Hid (RowC w' (w4.heap.size + 1) (.slice q2 n c2) (clK (K.take n))) ∧ Hid (Pos K n ar ac) ∧ Own w' w4.heap.size #[.int .i64 ar, .int .i64 ac] ∧ Hid (SW w' D (w.heap.size + 1) L) ∧ Hid (RowC w' (w.heap.size + 1) (.slice q M.length c) M) ∧ Below w.heap.size w w' ∧ Own w' w.heap.size #[.int .i64 t, .int .i64 le, .int .i64 b, .int .i64 rr] ∧ w4.heap.size + 1 ≤ w'.heap.size) (fun _ v _ => K.length + 1 - (intOf v).toNat)
      case atStart => exact ⟨0, none, 0, 0, 0, rfl, Nat.zero_le _, rfl, (show Hid _ from RowC.nil _ _), (show Hid _ from ⟨fun _ => ⟨rfl, rfl⟩, fun m e => by omega, i64_s, i64_s⟩), by with_reducible (repeat' first | assumption | refine Own.drew ?_ | refine Own.drewN ?_ _ | (refine Own.at ?_; first | rfl | (simp; done)) | refine Own.past ?_ _), (show Hid _ from HS1.out.keep (bal _ _)), (show Hid _ from HS3.out.keep (bal _ _)), by with_reducible (repeat' first | assumption | exact Below.refl _ _ | refine Below.drew ?_ | refine bdrewN ?_ _ | refine Below.setCell ?_ (by first | exact Nat.le_refl _ | (simp; done) | (simp; omega) | omega) _ | refine Below.alloc ?_ (by first | exact Nat.le_refl _ | (simp; done) | (simp; omega) | omega) _), by with_reducible (repeat' first | assumption | refine Own.drew ?_ | refine Own.drewN ?_ _ | (refine Own.at ?_; first | rfl | (simp; done)) | refine Own.past ?_ _), by simp⟩
      case round =>
        obtain ⟨n, q2, c2, ar, ac, rfl, hn, rfl, hR, hP, o9, q1, q3, hB5, o5, z5⟩ := hrel
        clear HS1 HS3
        have c9 := o9.cell
        have f9 := o9.fro
        have l9 := o9.lt
        have c5 := o5.cell
        have l5 := o5.lt
        have hcond : (n : Int) ≤ M.length := by have := HK.out; omega
        have HV : Hid (∀ (W : World), SW W D (w.heap.size + 1) L → Calls Try.prog 17 #[.pointer (some ⟨(w.heap.size + 1), 0, none⟩), .agg #[.int .i64 t, .int .i64 le, .int .i64 b, .int .i64 rr], .agg #[.int .i64 ar, .int .i64 ac]] W fun e w' => e = .returned (nextV L t le b rr ar ac) ∧ Below W.heap.size W w') := fun W h => next_any W D _ L t le b rr ar ac h it il ib ir hP.out.i1 hP.out.i2
        by_cases hlt2 : n < K.length
        · obtain ⟨y, hy1, hy2, hy3, hy4⟩ := next_nth q1.out.srt t le b rr n (by rw [← HKE.out]; exact hlt2) ar ac hP.out.zero (by have q := hP.out.succ; rw [HKE.out] at q; exact q) q1.out.ins
          rw [← HKE.out] at hy1
          have hin := q1.out.ins y hy3
          have HP2 : Hid (Pos K (n + 1) y.r y.c) := Pos.next hy1 ⟨by omega, by omega⟩ ⟨by omega, by omega⟩
          have HCK : Hid (clK (K.take (n + 1)) = clK (K.take n) ++ [⟨y.r, y.c⟩]) := clK_take K n y hy1
          have HG : Hid (∀ (W : World), SW W D (w.heap.size + 1) L → Calls Try.prog 19 #[.pointer (some ⟨(w.heap.size + 1), 0, none⟩), .agg #[.int .i64 y.r, .int .i64 y.c]] W fun e w' => e = .returned (.pointer (some ⟨w.heap.size + 1 + 1, 0, none⟩)) ∧ Below W.heap.size W w') := fun W h => by
            have q := get_any W D _ L y.r y.c h
            rw [get_mem h.srt hy3, HVX.out y hy3, HX.out] at q
            exact q
          have hpn := (pN_is _ _ _ _ _ _ _).1 hy4
          have HF : Hid (∀ W : World, Calls Try.prog 18 #[.agg #[.int .i64 ar, .int .i64 ac], .agg #[.int .i64 y.r, .int .i64 y.c]] W fun e w' => e = .returned (.bool true) ∧ Below W.heap.size W w') := fun W => by rw [← befB_t hpn.2]; exact rbef_any _ _ _ _ W
          have HB : Hid (∀ W : World, Calls Try.prog 16 #[.agg #[.int .i64 t, .int .i64 le, .int .i64 b, .int .i64 rr], .agg #[.int .i64 y.r, .int .i64 y.c]] W fun e w' => e = .returned (.bool true) ∧ Below W.heap.size W w') := fun W => by rw [← inB_t hpn.1]; exact rin_any _ _ _ _ _ _ W
          rw [hy2] at HV
          have hpe := neP_same
          clear hy1 hy2 hy3 hy4 hin hpn HVX HM2
          obtain ⟨xr, xc, xv⟩ := y
          dsimp only at HP2 HCK HG HF HB HV
          have hnl : (clK (K.take n)).length = n := clK_len K n (by omega)
          have HAP : Hid (∀ W, RowC W (w4.heap.size + 1) (.slice q2 n c2) (clK (K.take n)) → w4.heap.size + 1 ≤ W.heap.size → ∀ ty, ∃ v' w', (Builtin.append_ #[44, 44] ty #[.slice q2 n c2, .slice (some ⟨W.heap.size, 0, none⟩) 1 1]).run Try.prog (W.alloc (.cells #[.int .i64 xr, .int .i64 xc] 32)) = .ok v' w' ∧ (∃ q' c', v' = .slice q' (n + 1) c' ∧ RowC w' (w4.heap.size + 1) (.slice q' (n + 1) c') (clK (K.take n) ++ [⟨xr, xc⟩])) ∧ Mut (fun g => Value.ownBlock (.slice q2 n c2) = some g) W w') := (show _ from fun W hR hw ty => by
            obtain ⟨v', w', h1, h2, h3, h4, q', c', h5⟩ := app_cells (w4.heap.size + 1) W _ _ ⟨xr, xc⟩ hR hw (by rw [hnl]; have := HK.out; omega) ty
            rw [hnl] at h5
            subst h5
            exact ⟨_, w', h1, ⟨q', c', rfl, h2⟩, h4⟩)
          go_wp2_with (first
            | (go_at_call 17; refine (HV.out _ q1.out).mono ?_; rintro e wa ⟨rfl, hba⟩; have za := hba.size; have oa9 := o9.keep hba; have oa5 := o5.keep hba; clear c9 f9 l9 c5 l5; have c9 := oa9.cell; have l9 := oa9.lt; have c5 := oa5.cell; have l5 := oa5.lt; have hBa := bup hB5 hba)
            | (go_at_call 18; refine (HF.out _).mono ?_; rintro e wb ⟨rfl, hbb⟩; have zb := hbb.size; have hBr : Below wr.heap.size wr wb := bup (bup hba (by with_reducible (repeat' first | assumption | exact Below.refl _ _ | refine Below.drew ?_ | refine bdrewN ?_ _ | refine Below.setCell ?_ (by first | exact Nat.le_refl _ | (simp; done) | (simp; omega) | omega) _ | refine Below.alloc ?_ (by first | exact Nat.le_refl _ | (simp; done) | (simp; omega) | omega) _))) hbb; have ob : Own wb wa.heap.size #[.int .i64 xr, .int .i64 xc] := Own.keep (by with_reducible (repeat' first | assumption | refine Own.drew ?_ | refine Own.drewN ?_ _ | (refine Own.at ?_; first | rfl | (simp; done)) | refine Own.past ?_ _)) hbb; have ob9 : Own wb w4.heap.size #[.int .i64 ar, .int .i64 ac] := Own.keep (by with_reducible (repeat' first | assumption | refine Own.drew ?_ | refine Own.drewN ?_ _ | (refine Own.at ?_; first | rfl | (simp; done)) | refine Own.past ?_ _)) hbb; have ob5 : Own wb w.heap.size #[.int .i64 t, .int .i64 le, .int .i64 b, .int .i64 rr] := Own.keep (by with_reducible (repeat' first | assumption | refine Own.drew ?_ | refine Own.drewN ?_ _ | (refine Own.at ?_; first | rfl | (simp; done)) | refine Own.past ?_ _)) hbb; have cb := ob.cell; have lb := ob.lt; clear c9 l9 c5 l5; have c5 := ob5.cell; have l5 := ob5.lt)
            | (go_at_call 16; refine (HB.out _).mono ?_; rintro e wc ⟨rfl, hbc⟩; have zc := hbc.size; have hBrc : Below wr.heap.size wr wc := bup hBr hbc; have oc := ob.keep hbc; have oc9 := ob9.keep hbc; have oc5 := ob5.keep hbc; clear cb lb c5 l5; have cb := oc.cell; have lb := oc.lt)
            | (go_at_call 19; refine (HG.out _ (q1.out.keep hBrc)).mono ?_; rintro e wd ⟨rfl, hbd⟩; have zd := hbd.size; have hBrd : Below wr.heap.size wr wd := bup hBrc hbd; have od := oc.keep hbd; have od9 := oc9.keep hbd; have od5 := oc5.keep hbd; clear cb lb; have cb := od.cell; have lb := od.lt)
            | (at_builtin; obtain ⟨v', we, hr, ⟨q', c', rfl, hRe⟩, hme⟩ := HAP.out wd (hR.out.keep hBrd) (by omega) _; refine wpList_appC rfl _ _ rfl _ _ rfl rfl _ we hr ?_; have HRe : Hid (RowC we (w4.heap.size + 1) (.slice q' (n + 1) c') (clK (K.take n) ++ [⟨xr, xc⟩])) := hRe; clear hRe hr; have ze := hme.size; have hBe : Below w.heap.size w we := (bup hB5 hBrd).trans (hme.to_below (by omega) (fun k hk => by have := (hR.out.lt k hk).1; omega)); have oe9 := od9.mut hme (fun e => by have := (hR.out.lt _ e).1; omega); have oe5 := od5.mut hme (fun e => by have := (hR.out.lt _ e).1; omega); have oe := od.mut hme (fun e => by have := (hR.out.lt _ e).2; omega); clear cb lb; have cb := oe.cell; have lb := oe.lt; have ce9 := oe9.cell; have fe9 := oe9.fro; have le9 := oe9.lt))
          have oN := own_put (k := 1) (x := .int .i64 xc) (own_put (k := 0) (x := .int .i64 xr) oe9 (by simp)) (by simp)
          have e1 : SW we D (w.heap.size + 1) L := (q1.out.keep hBrd).mut hme (fun b t e q => by have r1 := d1.out b t e; have r2 := (hR.out.lt b q).1; omega)
          have e3 : RowC we (w.heap.size + 1) (.slice q M.length c) M := (q3.out.keep hBrd).of_block (fun g hg => hme.block g (by have := d2.out g hg; have := hBrd.size; omega) (fun e => by have r1 := d2.out g hg; have r2 := (hR.out.lt g e).1; omega))
          refine ⟨⟨n + 1, q', c', xr, xc, by go_num, by omega, rfl, (show Hid _ from ?_), HP2, oN, (show Hid _ from (e1.aside _ (fun k u e => ?_)).aside _ (fun k u e => ?_)), (show Hid _ from (e3.aside _ (fun g hg => ?_)).aside _ (fun g hg => ?_)), by with_reducible (repeat' first | assumption | exact Below.refl _ _ | refine Below.drew ?_ | refine bdrewN ?_ _ | refine Below.setCell ?_ (by first | exact Nat.le_refl _ | (simp; done) | (simp; omega) | omega) _ | refine Below.alloc ?_ (by first | exact Nat.le_refl _ | (simp; done) | (simp; omega) | omega) _), (oe5.aside _ ?_).aside _ ?_, by simp [World.setCell]; omega⟩, by simp [intOf]; omega⟩
          · rw [HCK.out]
            exact (HRe.out.aside _ (fun g hg => by have := (HRe.out.lt g hg).1; simp; omega)).aside _ (fun g hg => by have := (HRe.out.lt g hg).1; simp; omega)
          · have := d1.out k u e; simp; omega
          · have := d1.out k u e; simp; omega
          · have := d2.out g hg; simp; omega
          · have := d2.out g hg; simp; omega
          · simp; omega
          · simp; omega
        · have hnK : n = K.length := by omega
          have HnK : Hid (n = K.length) := hnK
          have hRn : RowC wr (w4.heap.size + 1) (.slice q2 n c2) (clK K) := by
            have q := hR.out
            rw [List.take_of_length_le (by omega)] at q
            exact q
          have e0 := next_last q1.out.srt t le b rr ar ac (by rw [← HKE.out, ← hnK]; exact hP.out.zero) (by have q := hP.out.succ; rw [hnK, HKE.out] at q; exact q)
          rw [e0] at HV
          clear e0 hR
          have hR : Hid (RowC wr (w4.heap.size + 1) (.slice q2 n c2) (clK K)) := hRn
          clear hRn
          have hm2 : ∀ y ∈ M, (⟨y.r, y.c⟩ : Cl) ∈ clK K := fun y hy => List.mem_map.2 ⟨_, HM2.out y hy, rfl⟩
          have HM3 : Hid (∀ y ∈ M, (⟨y.r, y.c⟩ : Cl) ∈ clK K) := hm2
          clear hm2 HM2 HVX HKE
          have hlK : Hid ((clK K).length = n) := (show (clK K).length = n from by simp [clK, hnK])
          clear hnK hn hlt2
          go_wp2_with (first
            | (go_at_call 17; refine (HV.out _ q1.out).mono ?_; rintro e wa ⟨rfl, hba⟩; have za := hba.size; have oa9 := o9.keep hba; have oa5 := o5.keep hba; clear c9 f9 l9 c5 l5; have c9 := oa9.cell; have l9 := oa9.lt; have c5 := oa5.cell; have l5 := oa5.lt; have hBa := bup hB5 hba))
          have HRa : Hid (RowC wa (w4.heap.size + 1) (.slice q2 n c2) (clK K)) := (show _ from hR.out.keep hba)
          have HMa : Hid (RowC wa (w.heap.size + 1) (.slice q M.length c) M) := (show _ from q3.out.keep hba)
          have HSa : Hid (SW wa D (w.heap.size + 1) L) := (show _ from q1.out.keep hba)
          have hKM : n ≤ 9223372036854775806 := by have := HK.out; have := HnK.out; omega
          clear q1 q3 hR o9 o5 hB5 z5 d1 d2 hba za HK
          obtain ⟨w6, h6⟩ : ∃ w6, w6 = wa := ⟨_, rfl⟩
          subst h6
          go_loopw [19] (fun v w' => ∃ i3 : Nat, v = .int .i64 i3 ∧ i3 ≤ M.length ∧ Below w6.heap.size w6 w') (fun v _ => M.length - (intOf v).toNat)
          case atStart => exact ⟨0, rfl, Nat.zero_le _, by with_reducible (repeat' first | assumption | exact Below.refl _ _ | refine Below.drew ?_ | refine bdrewN ?_ _ | refine Below.setCell ?_ (by first | exact Nat.le_refl _ | (simp; done) | (simp; omega) | omega) _ | refine Below.alloc ?_ (by first | exact Nat.le_refl _ | (simp; done) | (simp; omega) | omega) _)⟩
          case round =>
            obtain ⟨i3, rfl, hi3, hB7⟩ := hrel
            clear c9 l9 c5 l5
            by_cases hlt3 : i3 < M.length
            · obtain ⟨y, hy⟩ : ∃ y, M[i3]? = some y := ⟨_, List.getElem?_eq_getElem hlt3⟩
              have HY : Hid ((⟨y.r, y.c⟩ : Cl) ∈ clK K) := HM3.out y (List.mem_of_getElem? hy)
              obtain ⟨g1, cp1, he1, _, hg1, _, _, hc1⟩ := HMa.out.cells (by omega)
              injection he1 with he1 _ he2
              subst he1
              have hc1' := hc1 i3 y hy
              have hlt3' : (i3 : Int) < M.length := by omega
              clear hy hc1 he2
              obtain ⟨xr, xc⟩ := y
              dsimp only at hc1' HY
              go_wp2
              go_loopw [20, 21] (fun u v w' => ∃ k : Nat, v = .int .i64 k ∧ k ≤ n ∧ u = .bool (((clK K).take k).any (fun z => sameC z.r z.c xr xc)) ∧ Below w6.heap.size w6 w') (fun _ v _ => n - (intOf v).toNat)
              case atStart => exact ⟨0, rfl, Nat.zero_le _, rfl, by with_reducible (repeat' first | assumption | exact Below.refl _ _ | refine Below.drew ?_ | refine bdrewN ?_ _ | refine Below.setCell ?_ (by first | exact Nat.le_refl _ | (simp; done) | (simp; omega) | omega) _ | refine Below.alloc ?_ (by first | exact Nat.le_refl _ | (simp; done) | (simp; omega) | omega) _)⟩
              case round =>
                obtain ⟨k, rfl, hk, rfl, hB8⟩ := hrel
                by_cases hlt4 : k < n
                · have hlt4' : (k : Int) < n := by omega
                  obtain ⟨z, hz⟩ : ∃ z, (clK K)[k]? = some z := ⟨_, List.getElem?_eq_getElem (by rw [hlK.out]; omega)⟩
                  obtain ⟨g2, cp2, he3, _, hg2, _, _, hc2⟩ := HRa.out.cells (by rw [hlK.out]; omega)
                  injection he3 with he3 _ he4
                  subst he3
                  have hc2' := hc2 k z hz
                  have HTK : Hid (((clK K).take (k + 1)).any (fun z => sameC z.r z.c xr xc) = (((clK K).take k).any (fun z => sameC z.r z.c xr xc) || sameC z.r z.c xr xc)) := (show ((clK K).take (k + 1)).any (fun z => sameC z.r z.c xr xc) = (((clK K).take k).any (fun z => sameC z.r z.c xr xc) || sameC z.r z.c xr xc) from by rw [List.take_succ, hz]; simp)
                  clear hz hc2 he4
                  revert HTK
                  generalize ((clK K).take k).any (fun z => sameC z.r z.c xr xc) = fb
                  intro HTK
                  obtain ⟨zr, zc⟩ := z
                  dsimp only at hc2' HTK
                  have y0 := (hB8.cell (p := ⟨g1, i3 * 2, none⟩) hg1).trans hc1'.1
                  have y1 := (hB8.cell (p := ⟨g1, i3 * 2 + 1, none⟩) hg1).trans hc1'.2
                  have y2 := (hB8.cell (p := ⟨g2, k * 2, none⟩) hg2).trans hc2'.1
                  have y3 := (hB8.cell (p := ⟨g2, k * 2 + 1, none⟩) hg2).trans hc2'.2
                  have heq := eqC zr zc xr xc
                  cases fb
                  · go_wp2
                    go_quiet (fail)
                    go_wp2
                    exact ⟨⟨k + 1, by go_num, by omega, by rw [HTK.out, Bool.false_or], bdrewN hB8 _⟩, by simp [intOf]; omega⟩
                  · go_wp2
                    go_quiet (fail)
                    go_wp2
                    exact ⟨⟨k + 1, by go_num, by omega, by rw [HTK.out, Bool.true_or], bdrewN hB8 _⟩, by simp [intOf]; omega⟩
                · have hkn : k = n := by omega
                  subst hkn
                  have hany : ((clK K).take k).any (fun z => sameC z.r z.c xr xc) = true := by
                    rw [List.take_of_length_le (by rw [hlK.out]; omega), List.any_eq_true]
                    exact ⟨_, HY.out, sameC_refl _ _⟩
                  rw [hany]
                  clear hany
                  go_wp2
                  exact ⟨⟨i3 + 1, by go_num, by omega, hB8⟩, by simp [intOf]; omega⟩
            · have hi4 : ¬ (i3 : Int) < M.length := by omega
              have o79 := oa9.keep hB7
              have o75 := oa5.keep hB7
              have c79 := o79.cell
              have l79 := o79.lt
              have c75 := o75.cell
              have l75 := o75.lt
              have hB7' : Below w.heap.size w wr := bup hBa hB7
              go_wp2_with (first
                | (go_at_call 17; refine (HV.out _ (HSa.out.keep hB7)).mono ?_; rintro e wb ⟨rfl, hbb⟩; have hBb : Below w.heap.size w wb := bup hB7' hbb; have zb := hBb.size)
                | (go_at_call 12; refine (lives_any _).mono ?_; rintro e wc ⟨rfl, hbc⟩; have hBc : Below w.heap.size w wc := bup (by with_reducible (repeat' first | assumption | exact Below.refl _ _ | refine Below.drew ?_ | refine bdrewN ?_ _ | refine Below.setCell ?_ (by first | exact Nat.le_refl _ | (simp; done) | (simp; omega) | omega) _ | refine Below.alloc ?_ (by first | exact Nat.le_refl _ | (simp; done) | (simp; omega) | omega) _)) hbc))
              go_ret
              exact ⟨rfl, by with_reducible (repeat' first | assumption | exact Below.refl _ _ | refine Below.drew ?_ | refine bdrewN ?_ _ | refine Below.setCell ?_ (by first | exact Nat.le_refl _ | (simp; done) | (simp; omega) | omega) _ | refine Below.alloc ?_ (by first | exact Nat.le_refl _ | (simp; done) | (simp; omega) | omega) _)⟩
end Go.Proofs.Ytioialnndejkiaa
