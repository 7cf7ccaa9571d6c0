/- The walks of RefsTold and RefsOwns over the contracts of what they call: both lists of references are one; whoever writes into the first changes no other. The conditions are those of the contracts. -/
import Derived.Test.YtekpmdpmcbjkkaaDoorS9
import Derived.Test.YtekpmdpmcbjkkaaDoorP2c
namespace Go.Proofs.YtekpmdpmcbjkkaaDoor
open Go.Shelf Go.RowKit
set_option linter.all false
theorem CV.drewN {w : World} {g : Nat} {l : List Nd} (h : CV w g l) (k : Nat) : CV (w.drewN k) g l := h.keep (bdrewN (Below.refl _ _) k)
theorem ofN_len (ns : List Nd) : (ofN ns).length ≤ 1024 := by
  unfold ofN
  split
  · rename_i h
    have := ofFrom_len ns []
    have := (chk_len h).2
    simp at *; omega
  · simp
theorem row_out {w1 : World} {l : List Rf} : ∀ (e : Ending) (w' : World), (∃ v, e = .returned v ∧ RRow w' w1.heap.size v l ∧ Below w1.heap.size w1 w') → ∃ pa ca, e = .returned (.slice pa l.length ca) ∧ RRow w' w1.heap.size (.slice pa l.length ca) l ∧ Below w1.heap.size w1 w' := by
  rintro e w' ⟨v, rfl, hr, hb⟩
  obtain ⟨pa, ca, rfl, _, _⟩ := hr.slice
  exact ⟨pa, ca, rfl, hr, hb⟩
/-- A block with so many cells, none of them frozen. -/
structure EV (w : World) (g N : Nat) : Prop where
  lt : g < w.heap.size
  cell : ∀ o, o < N → ∃ v, w.cell? ⟨g, o, none⟩ = some v
  fro : ∀ o, w.frozen? ⟨g, o, none⟩ = false
theorem EV.put {w : World} {g N : Nat} (h : EV w g N) (o : Nat) (cs : List Value) (hk : o + cs.length ≤ N) : EV (setN w g o cs) g N := by
  refine ⟨by rw [setN_size]; exact h.lt, fun k hkN => ?_, fun k => by rw [setN_frozen]; exact h.fro k⟩
  by_cases hh : k < o ∨ o + cs.length ≤ k
  · rw [setN_far g cs w o k hh]; exact h.cell k hkN
  · obtain ⟨j, rfl⟩ : ∃ j, k = o + j := ⟨k - o, by omega⟩
    have hj : j < cs.length := by omega
    rw [setN_at g cs w o (fun i hi => by obtain ⟨v, hv⟩ := h.cell (o + i) (by omega); rw [hv]; rfl) j hj]
    exact ⟨_, List.getElem?_eq_getElem hj⟩
theorem EV.of_row {w : World} {base g m ca : Nat} {l : List Rf} (h : RRow w base (.slice (some ⟨g, 0, none⟩) m ca) l) : EV w g (ca * 5) := by
  have hlt := (Row.lt h g rfl).2
  rcases Row.two Rf.cells_size h with ⟨e, _⟩ | ⟨g2, c2, e, _, _, _, _, _, hf⟩
  · cases e
  obtain ⟨_, h2⟩ := h
  rcases h2 with ⟨h2, _⟩ | ⟨g3, cap, cur, h3, r1, r2, r3, r4, r5, r6⟩
  · cases h2
  cases e
  cases h3
  refine ⟨hlt, fun o ho => ?_, hf⟩
  exact ⟨_, by unfold World.cell?; simp [r2, r5, ho]; rfl⟩
set_option maxRecDepth 100000 in
set_option maxHeartbeats 8000000 in
theorem told_y (w : World) (p : Option Addr) (n cap m : Nat) (ns : List Nd) (l : List Rf) (hm : l.length = m) (hm1 : m ≤ 1024) (hn : n ≤ 2069703948000)
    (h0 : ∀ w1, Below w.heap.size w w1 → Calls Tryd.prog 4 #[.agg #[.slice p n cap]] w1 fun e w' => ∃ g, e = .returned (.agg #[.slice (some ⟨g, 0, none⟩) n (n + 2)]) ∧ w1.heap.size ≤ g ∧ CV w' g (ns ++ [nd0, nd0]) ∧ Below w1.heap.size w1 w')
    (h1 : ∀ w1 g, CV w1 g (ns ++ [nd0, nd0]) → Calls Tryd.prog 5 #[.agg #[.slice (some ⟨g, 0, none⟩) n (n + 2)]] w1 fun e w' => ∃ pa ca, e = .returned (.slice pa m ca) ∧ RRow w' w1.heap.size (.slice pa m ca) l ∧ Below w1.heap.size w1 w')
    (h2 : ∀ w1, Below w.heap.size w w1 → Calls Tryd.prog 6 #[.agg #[.slice p n cap]] w1 fun e w' => ∃ pa ca, e = .returned (.slice pa m ca) ∧ RRow w' w1.heap.size (.slice pa m ca) l ∧ Below w1.heap.size w1 w')
    (h3 : ∀ w1 g, Below w.heap.size w w1 → CV w1 g (ns ++ [nd0, nd0]) → Calls Tryd.prog 7 #[.agg #[.slice (some ⟨g, 0, none⟩) n (n + 2)], .agg #[.slice p n cap]] w1 fun e w' => e = .returned (.bool true) ∧ Below w1.heap.size w1 w')
    (h4 : ∀ w1 g, CV w1 g (ns ++ [nd0, nd0]) → Calls Tryd.prog 8 #[.agg #[.slice (some ⟨g, 0, none⟩) n (n + 2)]] w1 fun e w' => e = .returned (.bool true) ∧ Below w1.heap.size w1 w') :
    Calls Tryd.prog 3 #[.agg #[.slice p n cap]] w fun e w' => e = .returned (.bool true) ∧ Below w.heap.size w w' := by
  have mixed : Tryd.prog.follows .mixedOrders = true := by kernel_rfl
  have H0 : Hid _ := h0
  have H1 : Hid _ := h1
  have H2 : Hid _ := h2
  have H3 : Hid _ := h3
  have H4 : Hid _ := h4
  have H5 : Hid _ := lives_any
  have HM : Hid (l.length = m) := hm
  clear h0 h1 h2 h3 h4 hm
  go_enter Tryd.func3, Tryd.ntmps3
  go_wp2_with (first | (go_at_call 4; refine Calls.mono (H0.out _ (by with_reducible (repeat' first | assumption | exact Below.refl _ _ | refine Below.drew ?_ | refine bdrewN ?_ _ | refine Below.setCell ?_ (by first | exact Nat.le_refl _ | (simp; done) | (simp; omega) | omega) _ | refine Below.alloc ?_ (by first | exact Nat.le_refl _ | (simp; done) | (simp; omega) | omega) _))) ?_; rintro e w2 ⟨g, rfl, hg, vv, hb⟩; have hB : Below w.heap.size w w2 := bup (by with_reducible (repeat' first | assumption | exact Below.refl _ _ | refine Below.drew ?_ | refine bdrewN ?_ _ | refine Below.setCell ?_ (by first | exact Nat.le_refl _ | (simp; done) | (simp; omega) | omega) _ | refine Below.alloc ?_ (by first | exact Nat.le_refl _ | (simp; done) | (simp; omega) | omega) _)) hb; have o0 : Own w2 w.heap.size #[.slice p n cap] := Own.keep (by with_reducible (repeat' first | assumption | refine Own.drew ?_ | refine Own.drewN ?_ _ | (refine Own.at ?_; first | rfl | (simp; done)) | refine Own.past ?_ _ | refine Own.aside ?_ (by first | (simp; done) | (simp; omega) | omega) _)) hb; have c0 := o0.cell; have l0 := o0.lt; have zz := hB.size) | (go_at_call 5; refine Calls.mono (H1.out _ g (by with_reducible (repeat' first | assumption | refine CV.drew ?_ | refine CV.drewN ?_ _ | refine CV.past ?_ _))) ?_; rintro e w3 ⟨pa, ca, rfl, hra, hb3⟩; have hB : Below w.heap.size w w3 := bup (by with_reducible (repeat' first | assumption | exact Below.refl _ _ | refine Below.drew ?_ | refine bdrewN ?_ _ | refine Below.setCell ?_ (by first | exact Nat.le_refl _ | (simp; done) | (simp; omega) | omega) _ | refine Below.alloc ?_ (by first | exact Nat.le_refl _ | (simp; done) | (simp; omega) | omega) _)) hb3; have o0 : Own w3 w.heap.size #[.slice p n cap] := Own.keep (by with_reducible (repeat' first | assumption | refine Own.drew ?_ | refine Own.drewN ?_ _ | (refine Own.at ?_; first | rfl | (simp; done)) | refine Own.past ?_ _ | refine Own.aside ?_ (by first | (simp; done) | (simp; omega) | omega) _)) hb3; have c0 := o0.cell; have l0 := o0.lt; have zz := hB.size; have o1 : Own w3 w2.heap.size #[.slice (some ⟨g, 0, none⟩) n (n + 2)] := Own.keep (by with_reducible (repeat' first | assumption | refine Own.drew ?_ | refine Own.drewN ?_ _ | (refine Own.at ?_; first | rfl | (simp; done)) | refine Own.past ?_ _ | refine Own.aside ?_ (by first | (simp; done) | (simp; omega) | omega) _)) hb3; have c1 := o1.cell; have l1 := o1.lt; have vv : CV w3 g (ns ++ [nd0, nd0]) := CV.keep (by with_reducible (repeat' first | assumption | refine CV.drew ?_ | refine CV.drewN ?_ _ | refine CV.past ?_ _)) hb3) | (go_at_call 6; refine Calls.mono (H2.out _ (by with_reducible (repeat' first | assumption | exact Below.refl _ _ | refine Below.drew ?_ | refine bdrewN ?_ _ | refine Below.setCell ?_ (by first | exact Nat.le_refl _ | (simp; done) | (simp; omega) | omega) _ | refine Below.alloc ?_ (by first | exact Nat.le_refl _ | (simp; done) | (simp; omega) | omega) _))) ?_; rintro e w4 ⟨pb, cb, rfl, hrb, hb4⟩; have hB : Below w.heap.size w w4 := bup (by with_reducible (repeat' first | assumption | exact Below.refl _ _ | refine Below.drew ?_ | refine bdrewN ?_ _ | refine Below.setCell ?_ (by first | exact Nat.le_refl _ | (simp; done) | (simp; omega) | omega) _ | refine Below.alloc ?_ (by first | exact Nat.le_refl _ | (simp; done) | (simp; omega) | omega) _)) hb4; have o0 : Own w4 w.heap.size #[.slice p n cap] := Own.keep (by with_reducible (repeat' first | assumption | refine Own.drew ?_ | refine Own.drewN ?_ _ | (refine Own.at ?_; first | rfl | (simp; done)) | refine Own.past ?_ _ | refine Own.aside ?_ (by first | (simp; done) | (simp; omega) | omega) _)) hb4; have c0 := o0.cell; have l0 := o0.lt; have zz := hB.size; have o1 : Own w4 w2.heap.size #[.slice (some ⟨g, 0, none⟩) n (n + 2)] := Own.keep (by with_reducible (repeat' first | assumption | refine Own.drew ?_ | refine Own.drewN ?_ _ | (refine Own.at ?_; first | rfl | (simp; done)) | refine Own.past ?_ _ | refine Own.aside ?_ (by first | (simp; done) | (simp; omega) | omega) _)) hb4; have c1 := o1.cell; have l1 := o1.lt; have vv : CV w4 g (ns ++ [nd0, nd0]) := CV.keep (by with_reducible (repeat' first | assumption | refine CV.drew ?_ | refine CV.drewN ?_ _ | refine CV.past ?_ _)) hb4; have hra : RRow w4 _ (.slice pa m ca) l := Row.keep (by with_reducible (repeat' first | assumption | refine Row.drew ?_ | refine Row.drewN ?_ _ | refine Row.past ?_ _)) hb4))
  go_loopw [6] (fun v w' => ∃ k : Nat, v = .int .i64 k ∧ k ≤ m ∧ ∃ q, w' = w4.drewN q) (fun v _ => m - (intOf v).toNat)
  case atStart => exact ⟨0, rfl, by omega, 0, rfl⟩
  case round =>
    obtain ⟨k, rfl, hk, q, rfl⟩ := hrel
    by_cases hkl : k < m
    · have hkl' : (k : Int) < m := by omega
      have hne0 : l ≠ [] := fun e => by have := HM.out; rw [e] at this; simp at this; omega
      rcases Row.two Rf.cells_size hra with ⟨e0, e1⟩ | ⟨ga, ca2, e0, ga1, ga2, ga3, ga4, ga5, ga6⟩
      · exact absurd e1 hne0
      rcases Row.two Rf.cells_size hrb with ⟨e3, e4⟩ | ⟨gb, cb2, e3, gb1, gb2, gb3, gb4, gb5, gb6⟩
      · exact absurd e4 hne0
      have e2 : pa = some ⟨ga, 0, none⟩ := by injection e0
      have e5 : pb = some ⟨gb, 0, none⟩ := by injection e3
      subst e2 e5
      have hki : l[k]? = some (l[k]'(by rw [HM.out]; exact hkl)) := List.getElem?_eq_getElem _
      have cx := fun j hj => ga5 k _ hki j hj
      have cy := fun j hj => gb5 k _ hki j hj
      revert cx cy
      generalize (l[k]'(by rw [HM.out]; exact hkl)) = x
      intro cx cy
      clear hki ga5 gb5 ga6 gb6 e0 e3
      have x0 : w4.cell? ⟨ga, k * 5, none⟩ = some (.bool x.many) := cx 0 (by decide)
      have x1 : w4.cell? ⟨ga, k * 5 + 1, none⟩ = some (.int .i64 x.top) := cx 1 (by decide)
      have x2 : w4.cell? ⟨ga, k * 5 + 2, none⟩ = some (.int .i64 x.left) := cx 2 (by decide)
      have x3 : w4.cell? ⟨ga, k * 5 + 3, none⟩ = some (.int .i64 x.bot) := cx 3 (by decide)
      have x4 : w4.cell? ⟨ga, k * 5 + 4, none⟩ = some (.int .i64 x.right) := cx 4 (by decide)
      have y0 : w4.cell? ⟨gb, k * 5, none⟩ = some (.bool x.many) := cy 0 (by decide)
      have y1 : w4.cell? ⟨gb, k * 5 + 1, none⟩ = some (.int .i64 x.top) := cy 1 (by decide)
      have y2 : w4.cell? ⟨gb, k * 5 + 2, none⟩ = some (.int .i64 x.left) := cy 2 (by decide)
      have y3 : w4.cell? ⟨gb, k * 5 + 3, none⟩ = some (.int .i64 x.bot) := cy 3 (by decide)
      have y4 : w4.cell? ⟨gb, k * 5 + 4, none⟩ = some (.int .i64 x.right) := cy 4 (by decide)
      clear cx cy
      have hne := neRf x x
      rw [sameRf_refl] at hne
      go_wp2
      go_quiet (fail)
      go_wp2
      exact ⟨⟨k + 1, by go_num, by omega, _, rfl⟩, by simp [intOf]; omega⟩
    · have hkl' : ¬ (k : Int) < m := by omega
      go_wp2_with (first | (go_at_call 7; refine Calls.mono (H3.out _ g (by with_reducible (repeat' first | assumption | exact Below.refl _ _ | refine Below.drew ?_ | refine bdrewN ?_ _ | refine Below.setCell ?_ (by first | exact Nat.le_refl _ | (simp; done) | (simp; omega) | omega) _ | refine Below.alloc ?_ (by first | exact Nat.le_refl _ | (simp; done) | (simp; omega) | omega) _)) (by with_reducible (repeat' first | assumption | refine CV.drew ?_ | refine CV.drewN ?_ _ | refine CV.past ?_ _))) ?_; rintro e w5 ⟨rfl, hb5⟩; have hB : Below w.heap.size w w5 := bup (by with_reducible (repeat' first | assumption | exact Below.refl _ _ | refine Below.drew ?_ | refine bdrewN ?_ _ | refine Below.setCell ?_ (by first | exact Nat.le_refl _ | (simp; done) | (simp; omega) | omega) _ | refine Below.alloc ?_ (by first | exact Nat.le_refl _ | (simp; done) | (simp; omega) | omega) _)) hb5; have o0 : Own w5 w.heap.size #[.slice p n cap] := Own.keep (by with_reducible (repeat' first | assumption | refine Own.drew ?_ | refine Own.drewN ?_ _ | (refine Own.at ?_; first | rfl | (simp; done)) | refine Own.past ?_ _ | refine Own.aside ?_ (by first | (simp; done) | (simp; omega) | omega) _)) hb5; have c0 := o0.cell; have l0 := o0.lt; have zz := hB.size; have o1 : Own w5 w2.heap.size #[.slice (some ⟨g, 0, none⟩) n (n + 2)] := Own.keep (by with_reducible (repeat' first | assumption | refine Own.drew ?_ | refine Own.drewN ?_ _ | (refine Own.at ?_; first | rfl | (simp; done)) | refine Own.past ?_ _ | refine Own.aside ?_ (by first | (simp; done) | (simp; omega) | omega) _)) hb5; have c1 := o1.cell; have l1 := o1.lt; have vv : CV w5 g (ns ++ [nd0, nd0]) := CV.keep (by with_reducible (repeat' first | assumption | refine CV.drew ?_ | refine CV.drewN ?_ _ | refine CV.past ?_ _)) hb5) | (go_at_call 8; refine Calls.mono (H4.out _ g (by with_reducible (repeat' first | assumption | refine CV.drew ?_ | refine CV.drewN ?_ _ | refine CV.past ?_ _))) ?_; rintro e w6 ⟨rfl, hb6⟩; have hB : Below w.heap.size w w6 := bup (by with_reducible (repeat' first | assumption | exact Below.refl _ _ | refine Below.drew ?_ | refine bdrewN ?_ _ | refine Below.setCell ?_ (by first | exact Nat.le_refl _ | (simp; done) | (simp; omega) | omega) _ | refine Below.alloc ?_ (by first | exact Nat.le_refl _ | (simp; done) | (simp; omega) | omega) _)) hb6; have o0 : Own w6 w.heap.size #[.slice p n cap] := Own.keep (by with_reducible (repeat' first | assumption | refine Own.drew ?_ | refine Own.drewN ?_ _ | (refine Own.at ?_; first | rfl | (simp; done)) | refine Own.past ?_ _ | refine Own.aside ?_ (by first | (simp; done) | (simp; omega) | omega) _)) hb6; have c0 := o0.cell; have l0 := o0.lt; have zz := hB.size; have o1 : Own w6 w2.heap.size #[.slice (some ⟨g, 0, none⟩) n (n + 2)] := Own.keep (by with_reducible (repeat' first | assumption | refine Own.drew ?_ | refine Own.drewN ?_ _ | (refine Own.at ?_; first | rfl | (simp; done)) | refine Own.past ?_ _ | refine Own.aside ?_ (by first | (simp; done) | (simp; omega) | omega) _)) hb6; have c1 := o1.cell; have l1 := o1.lt; have vv : CV w6 g (ns ++ [nd0, nd0]) := CV.keep (by with_reducible (repeat' first | assumption | refine CV.drew ?_ | refine CV.drewN ?_ _ | refine CV.past ?_ _)) hb6) | (go_at_call 9; refine Calls.mono (H5.out _) ?_; rintro e w7 ⟨rfl, hb7⟩; have hB : Below w.heap.size w w7 := bup (by with_reducible (repeat' first | assumption | exact Below.refl _ _ | refine Below.drew ?_ | refine bdrewN ?_ _ | refine Below.setCell ?_ (by first | exact Nat.le_refl _ | (simp; done) | (simp; omega) | omega) _ | refine Below.alloc ?_ (by first | exact Nat.le_refl _ | (simp; done) | (simp; omega) | omega) _)) hb7; have o0 : Own w7 w.heap.size #[.slice p n cap] := Own.keep (by with_reducible (repeat' first | assumption | refine Own.drew ?_ | refine Own.drewN ?_ _ | (refine Own.at ?_; first | rfl | (simp; done)) | refine Own.past ?_ _ | refine Own.aside ?_ (by first | (simp; done) | (simp; omega) | omega) _)) hb7; have c0 := o0.cell; have l0 := o0.lt; have zz := hB.size; have o1 : Own w7 w2.heap.size #[.slice (some ⟨g, 0, none⟩) n (n + 2)] := Own.keep (by with_reducible (repeat' first | assumption | refine Own.drew ?_ | refine Own.drewN ?_ _ | (refine Own.at ?_; first | rfl | (simp; done)) | refine Own.past ?_ _ | refine Own.aside ?_ (by first | (simp; done) | (simp; omega) | omega) _)) hb7; have c1 := o1.cell; have l1 := o1.lt; have vv : CV w7 g (ns ++ [nd0, nd0]) := CV.keep (by with_reducible (repeat' first | assumption | refine CV.drew ?_ | refine CV.drewN ?_ _ | refine CV.past ?_ _)) hb7))
      go_ret
      exact ⟨rfl, hB⟩
end Go.Proofs.YtekpmdpmcbjkkaaDoor
