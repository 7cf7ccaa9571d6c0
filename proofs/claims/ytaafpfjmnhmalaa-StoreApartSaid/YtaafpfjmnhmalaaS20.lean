/- The contracts of the document's Drop, Get and Next. -/
import Derived.Test.YtaafpfjmnhmalaaS19
namespace Go.Proofs.Ytaafpfjmnhmalaa
open Go.RowKit
set_option linter.all false
set_option maxRecDepth 100000 in
theorem ddrop_no (w : World) (Y : Nat) (r c : Int) (hm : mayC r c = false) : Calls Try.prog 23 #[.pointer (some ⟨Y, 0, none⟩), .agg #[.int .i64 r, .int .i64 c]] w fun e w' => e = .returned (.int .i64 3) ∧ Below w.heap.size w w' := by
  have HM : Hid (∀ W, Calls Try.prog 15 #[.agg #[.int .i64 r, .int .i64 c]] W fun e w' => e = .returned (.bool false) ∧ Below W.heap.size W w') := fun W => by rw [← hm]; exact rmay_any r c W
  go_enter Try.func23, Try.ntmps23
  go_wp2_with (go_at_call 15; refine (HM.out _).mono ?_; rintro e wa ⟨rfl, hbwa⟩; have hBwa : Below w.heap.size w wa := bup (by with_reducible (repeat' first | assumption | exact Below.refl _ _ | refine Below.drew ?_ | refine bdrewN ?_ _ | refine Below.setCell ?_ (by first | exact Nat.le_refl _ | (simp; done) | (simp; omega) | omega) _ | refine Below.alloc ?_ (by first | exact Nat.le_refl _ | (simp; done) | (simp; omega) | omega) _)) hbwa; have zwa := hBwa.size; have o0wa : Own wa (w.heap.size) #[.int .i64 r, .int .i64 c] := Own.keep (by with_reducible (repeat' first | assumption | refine Own.drew ?_ | refine Own.drewN ?_ _ | (refine Own.at ?_; first | rfl | (simp; done)) | refine Own.past ?_ _)) hbwa; have c0 := o0wa.cell; have l0 := o0wa.lt)
  go_ret
  exact ⟨rfl, by with_reducible (repeat' first | assumption | exact Below.refl _ _ | refine Below.drew ?_ | refine bdrewN ?_ _ | refine Below.setCell ?_ (by first | exact Nat.le_refl _ | (simp; done) | (simp; omega) | omega) _ | refine Below.alloc ?_ (by first | exact Nat.le_refl _ | (simp; done) | (simp; omega) | omega) _)⟩
/-- The document's store. -/
def YW (w : World) (Y : Nat) (R : List Im) : Prop := ∃ v, Own w Y #[v] ∧ RowI w 0 v R ∧ v.ownBlock ≠ some Y
/-- .. with another list, in a new block or none. -/
def YOut (w : World) (Y : Nat) (R' : List Im) (w' : World) : Prop := (∃ v, Own w' Y #[v] ∧ RowI w' w.heap.size v R') ∧ Mut (fun k => k = Y) w w'
set_option maxRecDepth 100000 in
set_option maxHeartbeats 1000000 in
theorem ddrop_yes (w : World) (Y : Nat) (v : Value) (R : List Im) (r c : Int) (hY : Hid (Own w Y #[v])) (hR : Hid (RowI w 0 v R)) (hl : R.length ≤ 1048576) (hm : mayC r c = true) : Calls Try.prog 23 #[.pointer (some ⟨Y, 0, none⟩), .agg #[.int .i64 r, .int .i64 c]] w fun e w' => e = .returned (.int .i64 0) ∧ YOut w Y (R.filter (neB r c)) w' := by
  have HM : Hid (∀ W, Calls Try.prog 15 #[.agg #[.int .i64 r, .int .i64 c]] W fun e w' => e = .returned (.bool true) ∧ Below W.heap.size W w') := fun W => by rw [← hm]; exact rmay_any r c W
  have hyl := hY.out.lt
  have HW : Hid (∀ w1, Below w.heap.size w w1 → Calls Try.prog 37 #[.pointer (some ⟨Y, 0, none⟩), .agg #[.int .i64 r, .int .i64 c]] w1 fun e w' => ∃ q n cp, e = .returned (.slice q n cp) ∧ w'.cell? ⟨Y, 0, none⟩ = some v ∧ w'.frozen? ⟨Y, 0, none⟩ = false ∧ YOut w Y (R.filter (neB r c)) (w'.setCell ⟨Y, 0, none⟩ (.slice q n cp))) := fun w1 hb => (without_any w1 Y v R r c (show Hid _ from hY.out.keep hb) (show Hid _ from hR.out.keep hb) hl).mono (by
    rintro e w' ⟨v', rfl, k1, k2⟩
    have hO : Own w' Y #[v] := (hY.out.keep hb).keep k2
    have z1 := hb.size
    have hsl : ∃ q n cp, v' = .slice q n cp := by rcases k1.two with ⟨rfl, _⟩ | ⟨g, cap, rfl, _⟩ <;> exact ⟨_, _, _, rfl⟩
    obtain ⟨q, n, cp, rfl⟩ := hsl
    refine ⟨q, n, cp, rfl, hO.cell 0, hO.fro 0, ⟨_, own_put (k := 0) hO (by simp), ?_⟩, Mut.set (S := fun k => k = Y) (Mut.of_below (bup hb k2)) (.inl rfl) _⟩
    exact (k1.mono z1).aside _ (fun g hg => by have := (k1.lt g hg).1; simp; omega))
  clear hY hR
  revert HW
  generalize YOut w Y (R.filter (neB r c)) = PP
  intro HW
  go_enter Try.func23, Try.ntmps23
  go_wp2_with (first | (go_at_call 15; refine (HM.out _).mono ?_; rintro e wa ⟨rfl, hbwa⟩; have hBwa : Below w.heap.size w wa := bup (by with_reducible (repeat' first | assumption | exact Below.refl _ _ | refine Below.drew ?_ | refine bdrewN ?_ _ | refine Below.setCell ?_ (by first | exact Nat.le_refl _ | (simp; done) | (simp; omega) | omega) _ | refine Below.alloc ?_ (by first | exact Nat.le_refl _ | (simp; done) | (simp; omega) | omega) _)) hbwa; have zwa := hBwa.size; have o0wa : Own wa (w.heap.size) #[.int .i64 r, .int .i64 c] := Own.keep (by with_reducible (repeat' first | assumption | refine Own.drew ?_ | refine Own.drewN ?_ _ | (refine Own.at ?_; first | rfl | (simp; done)) | refine Own.past ?_ _)) hbwa; have c0 := o0wa.cell; have l0 := o0wa.lt) | (go_at_call 37; refine (HW.out _ hBwa).mono ?_; rintro e wb ⟨q, n, cp, rfl, k1, k2, k3⟩; have K3 : Hid _ := k3; clear k3))
  all_goals (go_ret; exact ⟨rfl, K3.out⟩)
def getR (R : List Im) (r c : Int) : Int := match R.find? (fun x => sameC x.r x.c r c) with | some x => x.k | none => -1
theorem getR_at {R : List Im} {r c : Int} {i : Nat} {x : Im} (hx : R[i]? = some x) (hs : sameC x.r x.c r c = true) (hno : ∀ (j : Nat) (y : Im), j < i → R[j]? = some y → sameC y.r y.c r c = false) : getR R r c = x.k := by
  have : R.find? (fun x => sameC x.r x.c r c) = some x := by
    rw [List.find?_eq_some_iff_getElem]
    obtain ⟨hl, e⟩ := List.getElem?_eq_some_iff.1 hx
    refine ⟨hs, i, hl, e, fun j hj => ?_⟩
    have := hno j _ hj (List.getElem?_eq_getElem (by omega))
    simpa using this
  unfold getR
  rw [this]
theorem getR_no {R : List Im} {r c : Int} (hno : ∀ (j : Nat) (y : Im), R[j]? = some y → sameC y.r y.c r c = false) : getR R r c = -1 := by
  have : R.find? (fun x => sameC x.r x.c r c) = none := by
    rw [List.find?_eq_none]
    intro y hy
    obtain ⟨j, hj⟩ := List.getElem?_of_mem hy
    simp [hno j y hj]
  unfold getR
  rw [this]
set_option maxRecDepth 100000 in
set_option maxHeartbeats 4000000 in
theorem dget_any (w : World) (Y : Nat) (v : Value) (R : List Im) (r c : Int) (hY : Hid (Own w Y #[v])) (hR : Hid (RowI w 0 v R)) (hl : R.length ≤ 1048576) :
    Calls Try.prog 25 #[.pointer (some ⟨Y, 0, none⟩), .agg #[.int .i64 r, .int .i64 c]] w fun e w' => e = .returned (.int .i64 (getR R r c)) ∧ Below w.heap.size w w' := by
  have mixed : Try.prog.follows .mixedOrders = true := by kernel_rfl
  obtain ⟨n, hn⟩ : ∃ n, n = R.length := ⟨_, rfl⟩
  have hsl : ∃ q cp, v = .slice q n cp ∧ n ≤ cp ∧ cp ≤ maxLen := by
    rcases hR.out.two with ⟨rfl, rfl⟩ | ⟨g, cap, rfl, _, _, h3, h4, _⟩
    · exact ⟨_, 0, by rw [hn]; rfl, by rw [hn]; exact Nat.le_refl _, Nat.zero_le _⟩
    · exact ⟨_, _, by rw [hn], by rw [hn]; exact h3, h4⟩
  obtain ⟨q, cp, rfl, hc1, hc2⟩ := hsl
  unfold maxLen at hc2
  rw [← hn] at hl
  have HN : Hid (n = R.length) := hn
  clear hn
  have hy0 : w.cell? ⟨Y, 0, none⟩ = some (.slice q n cp) := hY.out.cell 0
  have hyl := hY.out.lt
  clear hY
  go_enter Try.func25, Try.ntmps25
  go_wp2
  go_loopw [5] (fun v w' => ∃ (i : Nat), v = .int .i64 i ∧ i ≤ n ∧ Hid (∀ (j : Nat) (y : Im), j < i → R[j]? = some y → sameC y.r y.c r c = false) ∧ Below w.heap.size w w' ∧ Own w' w.heap.size #[.int .i64 r, .int .i64 c]) (fun v _ => n - (intOf v).toNat)
  case atStart => exact ⟨0, rfl, by omega, (show Hid _ from fun j y hj => absurd hj (Nat.not_lt_zero _)), by with_reducible (repeat' first | assumption | exact Below.refl _ _ | refine Below.drew ?_ | refine bdrewN ?_ _ | refine Below.setCell ?_ (by first | exact Nat.le_refl _ | (simp; done) | (simp; omega) | omega) _ | refine Below.alloc ?_ (by first | exact Nat.le_refl _ | (simp; done) | (simp; omega) | omega) _), by with_reducible (repeat' first | assumption | refine Own.drew ?_ | refine Own.drewN ?_ _ | (refine Own.at ?_; first | rfl | (simp; done)) | refine Own.past ?_ _)⟩
  case round =>
    obtain ⟨i, rfl, hi, hno, hB3, o3⟩ := hrel
    have y0 := (hB3.cell (p := ⟨Y, 0, none⟩) hyl).trans hy0
    have c3 := o3.cell
    have l3 := o3.lt
    have z3 := hB3.size
    by_cases hlt : i < n
    · have hlt' : (i : Int) < n := by omega
      obtain ⟨x, hx⟩ : ∃ x, R[i]? = some x := ⟨_, List.getElem?_eq_getElem (by rw [← HN.out]; omega)⟩
      rcases hR.out.two with ⟨_, rfl⟩ | ⟨g, cap, e1, _, hg, _, _, hcell⟩
      · simp at hx
      · injection e1 with e1 e4 e5
        clear e4 e5
        subst e1
        have hat := flatI_at R i x hx
        have x0 := (hB3.cell (p := ⟨g, i * 3, none⟩) hg).trans (hcell _ _ hat.1)
        have x1 := (hB3.cell (p := ⟨g, i * 3 + 1, none⟩) hg).trans (hcell _ _ hat.2.1)
        have x2 := (hB3.cell (p := ⟨g, i * 3 + 2, none⟩) hg).trans (hcell _ _ hat.2.2)
        clear hat hcell
        have heq := eqC x.r x.c r c
        cases hs : sameC x.r x.c r c
        · rw [hs] at heq
          have HE : Hid (∀ (j : Nat) (y : Im), j < i + 1 → R[j]? = some y → sameC y.r y.c r c = false) := (show _ from fun j y hj hy => by
            by_cases e : j = i
            · subst e; rw [hx] at hy; injection hy with hy; subst hy; exact hs
            · exact hno.out j y (by omega) hy)
          clear hx hs
          obtain ⟨xr, xc, xk⟩ := x
          dsimp only at x0 x1 x2 heq
          go_wp2
          go_quiet (fail)
          go_wp2
          exact ⟨⟨i + 1, by go_num, by omega, HE, bdrewN hB3 _, o3.drewN _⟩, by simp [intOf]; omega⟩
        · rw [hs] at heq
          have HE : Hid (getR R r c = x.k) := getR_at hx hs hno.out
          clear hx hs
          obtain ⟨xr, xc, xk⟩ := x
          dsimp only at x0 x1 x2 heq HE
          go_wp2
          go_quiet (fail)
          go_wp2
          go_ret
          exact ⟨by rw [HE.out]; rfl, bdrewN hB3 _⟩
    · have hlt' : ¬ (i : Int) < n := by omega
      have HE : Hid (getR R r c = -1) := getR_no (fun j y hy => hno.out j y (by have := (List.getElem?_eq_some_iff.1 hy).1; have := HN.out; omega) hy)
      go_wp2
      go_ret
      exact ⟨by rw [HE.out]; rfl, hB3⟩
def pI (t l b rr ar ac : Int) (x : Im) : Bool := inB t l b rr x.r x.c && befB ar ac x.r x.c
def nextR (R : List Im) (t l b rr ar ac : Int) : Value := match R.find? (pI t l b rr ar ac) with | some x => .tuple #[.agg #[.int .i64 x.r, .int .i64 x.c], .bool true] | none => .tuple #[.agg #[.int .i64 0, .int .i64 0], .bool false]
theorem nextR_at {R : List Im} {t l b rr ar ac : Int} {i : Nat} {x : Im} (hx : R[i]? = some x) (hs : pI t l b rr ar ac x = true) (hno : ∀ (j : Nat) (y : Im), j < i → R[j]? = some y → pI t l b rr ar ac y = false) : nextR R t l b rr ar ac = .tuple #[.agg #[.int .i64 x.r, .int .i64 x.c], .bool true] := by
  have : R.find? (pI t l b rr ar ac) = some x := by
    rw [List.find?_eq_some_iff_getElem]
    obtain ⟨hl, e⟩ := List.getElem?_eq_some_iff.1 hx
    refine ⟨hs, i, hl, e, fun j hj => ?_⟩
    have := hno j _ hj (List.getElem?_eq_getElem (by omega))
    simpa using this
  unfold nextR
  rw [this]
theorem nextR_no {R : List Im} {t l b rr ar ac : Int} (hno : ∀ (j : Nat) (y : Im), R[j]? = some y → pI t l b rr ar ac y = false) : nextR R t l b rr ar ac = .tuple #[.agg #[.int .i64 0, .int .i64 0], .bool false] := by
  have : R.find? (pI t l b rr ar ac) = none := by
    rw [List.find?_eq_none]
    intro y hy
    obtain ⟨j, hj⟩ := List.getElem?_of_mem hy
    simp [hno j y hj]
  unfold nextR
  rw [this]
end Go.Proofs.Ytaafpfjmnhmalaa
