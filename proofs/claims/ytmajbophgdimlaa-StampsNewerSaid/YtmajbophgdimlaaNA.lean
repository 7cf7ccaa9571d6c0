/- StampsNewer's list of what changed and was seen: its row, one number of it written, one more of it; the law's at. -/
import Derived.Test.YtmajbophgdimlaaLF
namespace Go.Proofs.Ytmajbophgdimlaa
open Go.RowKit
set_option linter.all false
theorem flatG_set {α : Type} {cs : α → List Value} {sz : Nat} (hc : ∀ x, (cs x).length = sz) : ∀ (l : List α) (i : Nat) (x x' : α) (j : Nat) (u : Value), l[i]? = some x → j < sz → cs x' = (cs x).set j u → flatG cs (l.set i x') = (flatG cs l).set (i * sz + j) u
  | [], i, x, x', j, u, h, _, _ => by simp at h
  | y :: l, 0, x, x', j, u, h, hj, he => by
    simp only [List.getElem?_cons_zero, Option.some.injEq] at h
    subst h
    rw [List.set_cons_zero, flatG_cons, flatG_cons, he, Nat.zero_mul, Nat.zero_add, List.set_append_left _ _ (by rw [hc]; exact hj)]
  | y :: l, i + 1, x, x', j, u, h, hj, he => by
    rw [List.getElem?_cons_succ] at h
    rw [List.set_cons_succ, flatG_cons, flatG_cons, flatG_set hc l i x x' j u h hj he, List.set_append_right _ _ (by rw [hc, Nat.succ_mul]; omega), hc]
    congr 2
    rw [Nat.succ_mul]; omega
/-- One cell of a row's thing is written. -/
theorem RowG.setAt {α : Type} {E : TypeId} {sz : Nat} {cs : α → List Value} {w : World} {base g n cap : Nat} {l : List α} (hc : ∀ x, (cs x).length = sz) (h : RowG E sz cs w base (.slice (some ⟨g, 0, none⟩) n cap) l) {i : Nat} {x x' : α} (hi : l[i]? = some x) {j : Nat} {u : Value} (hj : j < sz) (hx : cs x' = (cs x).set j u) :
    RowG E sz cs (w.setCell ⟨g, i * sz + j, none⟩ u) base (.slice (some ⟨g, 0, none⟩) n cap) (l.set i x') := by
  rcases h.two with ⟨e, _⟩ | ⟨g', cap', cur, e, h1, h2, h3, h4, h5, h6, h7⟩
  · cases e
  · simp only [Value.slice.injEq, Option.some.injEq, Addr.mk.injEq, and_true] at e
    obtain ⟨rfl, rfl, rfl⟩ := e
    refine RowG.mk hc (by rw [List.length_set]) h1 (heap_setCell_same w g (i * sz + j) cur E u h3) (by rw [List.length_set]; exact h4) h5 (by rw [Array.size_setIfInBounds]; exact h6) ?_
    rw [List.length_set, Array.toList_setIfInBounds, List.take_set, h7, flatG_set hc l i x x' j u hi hj hx]
structure We where
  r : Int
  c : Int
  t : Int
  v : Int
def We.cs (x : We) : List Value := [.int .i64 x.r, .int .i64 x.c, .int .i64 x.t, .int .i64 x.v]
theorem We.len (x : We) : x.cs.length = 4 := rfl
theorem We.one (x : We) : ∀ u ∈ x.cs, u.oneCell' = true := by
  intro u hu
  simp only [We.cs, List.mem_cons, List.not_mem_nil, or_false] at hu
  rcases hu with rfl | rfl | rfl | rfl <;> rfl
abbrev RowW (w : World) (base : Nat) (v : Value) (l : List We) : Prop := RowG 38 4 We.cs w base v l
theorem infoWe : (Try.prog.info? 38).map (fun i => (i.zero, i.size, i.bytes)) = some (some (.agg #[.int .i64 0, .int .i64 0, .int .i64 0, .int .i64 0]), 4, 32) := by kernel_rfl
/-- The list, one more of it. -/
def ApW (b : Nat) : Prop := ∀ W (v : Value) (L : List We) vb (x : We), RowW W b v L → W.heap[vb]? = some (.cells x.cs.toArray 38 (0, 0)) → b ≤ W.heap.size → L.length ≤ 4000000000000 → ∀ ty, ∃ v' w', (Builtin.append_ #[28, 28] ty #[v, .slice (some ⟨vb, 0, none⟩) 1 1]).run Try.prog W = .ok v' w' ∧ RowW w' b v' (L ++ [x]) ∧ Below b W w' ∧ (v'.ownBlock = v.ownBlock ∨ v'.ownBlock = some W.heap.size) ∧ Mut (fun b => v.ownBlock = some b) W w'
theorem apW (b : Nat) : ApW b := by
  obtain ⟨i0, hi0, hz0, hzs, hzb⟩ := info_parts infoWe
  exact fun W v L vb x r1 r2 r3 r4 ty => app_one Try.underlying28 hi0 hz0 hzs hzb rfl (by omega) We.len We.one r1 r2 r3 (by omega) (by omega) ty
/-- Where a cell stands in the list. -/
def AtW (l : List We) (x y : Int) (p : Nat) : Prop := (∃ e, l[p]? = some e ∧ e.r = x ∧ e.c = y) ∨ (p = l.length ∧ ∀ e ∈ l, ¬ (e.r = x ∧ e.c = y))
set_option maxRecDepth 100000 in
set_option maxHeartbeats 4000000 in
theorem lat_any (w : World) (base : Nat) (v : Value) (l : List We) (x y : Int) (h : RowW w base v l) (hl : l.length ≤ 4000000000000) : Calls Try.prog 7 #[v, .agg #[.int .i64 x, .int .i64 y]] w fun e w' => ∃ p : Nat, e = .returned (.int .i64 p) ∧ AtW l x y p ∧ Below w.heap.size w w' := by
  have mixed : Try.prog.follows .mixedOrders = true := by kernel_rfl
  obtain ⟨q, cap, rfl, hcap, hcm, hq⟩ := RowG.view We.len h
  obtain ⟨n, hn⟩ : ∃ n, n = l.length := ⟨_, rfl⟩
  rw [← hn] at hq hl hcap ⊢
  have HQ : Hid _ := hq
  have HN : Hid (n = l.length) := hn
  clear hq h hn
  go_enter Try.func7, Try.ntmps7
  go_wp2
  go_loopw [5] (fun u w' => ∃ i : Nat, u = .int .i64 i ∧ i ≤ n ∧ Below w.heap.size w w' ∧ Hid (Own w' w.heap.size #[.int .i64 x, .int .i64 y]) ∧ Hid (∀ (k : Nat) (e : We), k < i → l[k]? = some e → ¬ (e.r = x ∧ e.c = y))) (fun u _ => n - (intOf u).toNat)
  case atStart => exact ⟨0, rfl, by omega, by with_reducible (repeat' first | assumption | exact Below.refl _ _ | refine Below.drew ?_ | refine bdrewN ?_ _ | refine Below.setCell ?_ (by first | exact Nat.le_refl _ | (simp; done) | (simp; omega) | omega) _ | refine Below.alloc ?_ (by first | exact Nat.le_refl _ | (simp; done) | (simp; omega) | omega) _), (show Own _ _ _ from by with_reducible (repeat' first | assumption | refine Own.drew ?_ | refine Own.drewN ?_ _ | (refine Own.at ?_; first | rfl | (simp; done)) | refine Own.past ?_ _)), (show ∀ (k : Nat) (e : We), k < 0 → _ from fun k e q => absurd q (Nat.not_lt_zero _))⟩
  case round =>
    obtain ⟨i, rfl, hi, hB, HO, HL⟩ := hrel
    have z := hB.size
    by_cases hin : i < n
    · have hin' : (i : Int) < n := by omega
      obtain ⟨e, hx⟩ : ∃ e, l[i]? = some e := ⟨_, List.getElem?_eq_getElem (by have := HN.out; omega)⟩
      obtain ⟨g, rfl, hg, hcl⟩ := HQ.out (by omega)
      have y0 : wr.cell? ⟨g, i * 4, none⟩ = some (.int .i64 e.r) := (hB.cell (p := ⟨g, i * 4, none⟩) hg).trans (hcl i e hx 0 _ rfl)
      have y1 : wr.cell? ⟨g, i * 4 + 1, none⟩ = some (.int .i64 e.c) := (hB.cell (p := ⟨g, i * 4 + 1, none⟩) hg).trans (hcl i e hx 1 _ rfl)
      have oC := HO.out
      have c0 : wr.cell? ⟨w.heap.size, 0, none⟩ = some (.int .i64 x) := oC.cell 0
      have c1 : wr.cell? ⟨w.heap.size, 1, none⟩ = some (.int .i64 y) := oC.cell 1
      have lC := oC.lt
      have lg : g < wr.heap.size := by omega
      have HX : Hid _ := hx
      clear hcl hx
      have he := eqC e.r e.c x y
      by_cases hs : e.r = x ∧ e.c = y
      · have hss : sameC e.r e.c x y = true := by unfold sameC; exact decide_eq_true hs
        rw [hss] at he
        have HS : Hid _ := hs
        clear hs hss
        go_wp2
        go_region_held3 (fun w' => w'.cell? ⟨g, i * 4, none⟩ = some (.int .i64 e.r) ∧ w'.cell? ⟨g, i * 4 + 1, none⟩ = some (.int .i64 e.c) ∧ w'.cell? ⟨w.heap.size, 0, none⟩ = some (.int .i64 x) ∧ w'.cell? ⟨w.heap.size, 1, none⟩ = some (.int .i64 y)) ((repeat' apply And.intro) <;> (first | (go_keep; done) | (go_simp; done))) (fail)
        go_wp2
        go_ret
        exact ⟨i, rfl, .inl ⟨e, HX.out, HS.out⟩, by with_reducible (repeat' first | assumption | exact Below.refl _ _ | refine Below.drew ?_ | refine bdrewN ?_ _ | refine Below.setCell ?_ (by first | exact Nat.le_refl _ | (simp; done) | (simp; omega) | omega) _ | refine Below.alloc ?_ (by first | exact Nat.le_refl _ | (simp; done) | (simp; omega) | omega) _)⟩
      · have hss : sameC e.r e.c x y = false := by unfold sameC; exact decide_eq_false hs
        rw [hss] at he
        have HS : Hid _ := hs
        clear hs hss
        go_wp2
        go_region_held3 (fun w' => w'.cell? ⟨g, i * 4, none⟩ = some (.int .i64 e.r) ∧ w'.cell? ⟨g, i * 4 + 1, none⟩ = some (.int .i64 e.c) ∧ w'.cell? ⟨w.heap.size, 0, none⟩ = some (.int .i64 x) ∧ w'.cell? ⟨w.heap.size, 1, none⟩ = some (.int .i64 y)) ((repeat' apply And.intro) <;> (first | (go_keep; done) | (go_simp; done))) (fail)
        go_wp2
        exact ⟨⟨i + 1, by go_num, by omega, by with_reducible (repeat' first | assumption | exact Below.refl _ _ | refine Below.drew ?_ | refine bdrewN ?_ _ | refine Below.setCell ?_ (by first | exact Nat.le_refl _ | (simp; done) | (simp; omega) | omega) _ | refine Below.alloc ?_ (by first | exact Nat.le_refl _ | (simp; done) | (simp; omega) | omega) _), (show Own _ _ _ from by with_reducible (repeat' first | assumption | refine Own.drew ?_ | refine Own.drewN ?_ _ | (refine Own.at ?_; first | rfl | (simp; done)) | refine Own.past ?_ _)), (show ∀ (k : Nat) (e : We), k < i + 1 → _ from fun k f hk hf => by
          rcases Nat.lt_succ_iff_lt_or_eq.1 hk with q | q
          · exact HL.out k f q hf
          · subst q
            rw [HX.out] at hf
            cases hf
            exact HS.out)⟩, by simp [intOf]; omega⟩
    · have hin' : ¬ ((i : Int) < n) := by omega
      have hin2 : i = n := by omega
      go_wp2
      go_ret
      exact ⟨n, rfl, .inr ⟨HN.out, fun f hf => by
        obtain ⟨k, hk⟩ := List.mem_iff_getElem?.1 hf
        exact HL.out k f (by have := (List.getElem?_eq_some_iff.1 hk).1; have := HN.out; omega) hk⟩, by with_reducible (repeat' first | assumption | exact Below.refl _ _ | refine Below.drew ?_ | refine bdrewN ?_ _ | refine Below.setCell ?_ (by first | exact Nat.le_refl _ | (simp; done) | (simp; omega) | omega) _ | refine Below.alloc ?_ (by first | exact Nat.le_refl _ | (simp; done) | (simp; omega) | omega) _)⟩
end Go.Proofs.Ytmajbophgdimlaa
