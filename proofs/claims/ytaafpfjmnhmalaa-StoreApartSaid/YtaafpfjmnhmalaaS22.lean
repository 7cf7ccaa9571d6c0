/- The contract of the document's Put. -/
import Derived.Test.YtaafpfjmnhmalaaS21
namespace Go.Proofs.Ytaafpfjmnhmalaa
open Go.RowKit
set_option linter.all false
def SrtR (R : List Im) : Prop := R.Pairwise (fun x y => x.r < y.r ∨ (x.r = y.r ∧ x.c < y.c))
def befM (r c : Int) (x : Im) : Bool := decide (x.r < r ∨ (x.r = r ∧ x.c < c))
def aftM (r c : Int) (x : Im) : Bool := decide (r < x.r ∨ (r = x.r ∧ c < x.c))
def putR (R : List Im) (r c k : Int) : List Im := R.filter (befM r c) ++ ⟨r, c, k⟩ :: R.filter (aftM r c)
theorem ne_bef (R : List Im) (r c : Int) : (R.filter (neB r c)).filter (befM r c) = R.filter (befM r c) := by
  rw [List.filter_filter]
  apply List.filter_congr
  intro x _
  by_cases h : x.r < r ∨ (x.r = r ∧ x.c < c)
  · have : sameC x.r x.c r c = false := by simp only [sameC, decide_eq_false_iff_not]; omega
    simp [befM, neB, this]
  · simp [befM, h]
theorem ne_aft (R : List Im) (r c : Int) : (R.filter (neB r c)).filter (fun x => !befM r c x) = R.filter (aftM r c) := by
  rw [List.filter_filter]
  apply List.filter_congr
  intro x _
  rw [Bool.eq_iff_iff]
  simp only [befM, neB, aftM, sameC, Bool.and_eq_true, Bool.not_eq_true', decide_eq_false_iff_not, decide_eq_true_eq]
  omega
theorem cut_bef {m : List Im} (hs : SrtR m) {r c : Int} {i : Nat} (hi : i ≤ m.length) (hlo : ∀ (j : Nat) (y : Im), j < i → m[j]? = some y → befM r c y = true) (hhi : ∀ y, m[i]? = some y → befM r c y = false) : m.take i = m.filter (befM r c) ∧ m.drop i = m.filter (fun x => !befM r c x) := by
  have a1 : ∀ x ∈ m.take i, befM r c x = true := fun x hx => by
    obtain ⟨j, hj⟩ := List.getElem?_of_mem hx
    rw [List.getElem?_take] at hj
    split at hj
    · exact hlo j x ‹_› hj
    · cases hj
  have a2 : ∀ x ∈ m.drop i, befM r c x = false := fun x hx => by
    obtain ⟨j, hj⟩ := List.getElem?_of_mem hx
    rw [List.getElem?_drop] at hj
    have hl := (List.getElem?_eq_some_iff.1 hj).1
    have h0 : m[i]? = some (m[i]'(by omega)) := List.getElem?_eq_getElem (by omega)
    have h1 := hhi _ h0
    by_cases e : j = 0
    · subst e; exact hhi x hj
    · obtain ⟨_, rfl⟩ := List.getElem?_eq_some_iff.1 hj
      have := List.pairwise_iff_getElem.1 hs i (i + j) (by omega) hl (by omega)
      simp only [befM, decide_eq_false_iff_not] at h1 ⊢
      omega
  have e : m = m.take i ++ m.drop i := (List.take_append_drop _ _).symm
  constructor
  · conv => rhs; rw [e]
    rw [List.filter_append, List.filter_eq_self.2 a1, List.filter_eq_nil_iff.2 (fun x hx => by rw [a2 x hx]; decide), List.append_nil]
  · conv => rhs; rw [e]
    rw [List.filter_append, List.filter_eq_nil_iff.2 (fun x hx => by rw [a1 x hx]; decide), List.filter_eq_self.2 (fun x hx => by rw [a2 x hx]; rfl), List.nil_append]
set_option maxRecDepth 100000 in
theorem dput_no (w : World) (Y : Nat) (r c k : Int) (hm : mayC r c = false) : Calls Try.prog 22 #[.pointer (some ⟨Y, 0, none⟩), .agg #[.int .i64 r, .int .i64 c], .int .i64 k] w fun e w' => e = .returned (.int .i64 3) ∧ Below w.heap.size w w' := by
  have HM : Hid (∀ W, Calls Try.prog 15 #[.agg #[.int .i64 r, .int .i64 c]] W fun e w' => e = .returned (.bool false) ∧ Below W.heap.size W w') := fun W => by rw [← hm]; exact rmay_any r c W
  go_enter Try.func22, Try.ntmps22
  go_wp2_with (go_at_call 15; refine (HM.out _).mono ?_; rintro e wa ⟨rfl, hbwa⟩; have hBwa : Below w.heap.size w wa := bup (by with_reducible (repeat' first | assumption | exact Below.refl _ _ | refine Below.drew ?_ | refine bdrewN ?_ _ | refine Below.setCell ?_ (by first | exact Nat.le_refl _ | (simp; done) | (simp; omega) | omega) _ | refine Below.alloc ?_ (by first | exact Nat.le_refl _ | (simp; done) | (simp; omega) | omega) _)) hbwa; have zwa := hBwa.size; have o0wa : Own wa (w.heap.size) #[.int .i64 r, .int .i64 c] := Own.keep (by with_reducible (repeat' first | assumption | refine Own.drew ?_ | refine Own.drewN ?_ _ | (refine Own.at ?_; first | rfl | (simp; done)) | refine Own.past ?_ _)) hbwa; have c0 := o0wa.cell; have l0 := o0wa.lt)
  go_ret
  exact ⟨rfl, by with_reducible (repeat' first | assumption | exact Below.refl _ _ | refine Below.drew ?_ | refine bdrewN ?_ _ | refine Below.setCell ?_ (by first | exact Nat.le_refl _ | (simp; done) | (simp; omega) | omega) _ | refine Below.alloc ?_ (by first | exact Nat.le_refl _ | (simp; done) | (simp; omega) | omega) _)⟩
set_option maxRecDepth 100000 in
set_option maxHeartbeats 8000000 in
theorem dput_yes (w : World) (Y : Nat) (v : Value) (R : List Im) (r c k : Int) (hY : Hid (Own w Y #[v])) (hR : Hid (RowI w 0 v R)) (hs : Hid (SrtR R)) (hl : R.length ≤ 1048576) (hm : mayC r c = true) : Calls Try.prog 22 #[.pointer (some ⟨Y, 0, none⟩), .agg #[.int .i64 r, .int .i64 c], .int .i64 k] w fun e w' => e = .returned (.int .i64 0) ∧ YOut w Y (putR R r c k) w' := by
  have mixed : Try.prog.follows .mixedOrders = true := by kernel_rfl
  have HM : Hid (∀ W, Calls Try.prog 15 #[.agg #[.int .i64 r, .int .i64 c]] W fun e w' => e = .returned (.bool true) ∧ Below W.heap.size W w') := fun W => by rw [← hm]; exact rmay_any r c W
  have hyl := hY.out.lt
  have hfl : (R.filter (neB r c)).length ≤ 1048576 := by have := List.length_filter_le (neB r c) R; omega
  have HW : Hid (∀ w1, Below w.heap.size w w1 → Calls Try.prog 37 #[.pointer (some ⟨Y, 0, none⟩), .agg #[.int .i64 r, .int .i64 c]] w1 fun e w' => ∃ q cp, e = .returned (.slice q (R.filter (neB r c)).length cp) ∧ RowI w' w.heap.size (.slice q (R.filter (neB r c)).length cp) (R.filter (neB r c)) ∧ (R.filter (neB r c)).length ≤ cp ∧ cp ≤ maxLen ∧ Below w1.heap.size w1 w') := fun w1 hb => (without_any w1 Y v R r c (show Hid _ from hY.out.keep hb) (show Hid _ from hR.out.keep hb) hl).mono (by
    rintro e w' ⟨v', rfl, k1, k2⟩
    have k3 := k1.mono hb.size
    rcases k1.two with ⟨rfl, e⟩ | ⟨g, cap, rfl, _, _, h3, h4, _⟩
    · exact ⟨none, 0, by rw [e]; rfl, by rw [e] at k3 ⊢; exact k3, by rw [e]; exact Nat.le_refl _, Nat.zero_le _, k2⟩
    · exact ⟨_, _, rfl, k3, h3, h4, k2⟩)
  have HS : Hid (SrtR (R.filter (neB r c))) := List.Pairwise.filter _ hs.out
  have hE1 := ne_bef R r c
  have hE2 := ne_aft R r c
  have HPR : Hid (∀ (i : Nat), (R.filter (neB r c)).take i = (R.filter (neB r c)).filter (befM r c) → (R.filter (neB r c)).drop i = (R.filter (neB r c)).filter (fun x => !befM r c x) → (R.filter (neB r c)).take i ++ [⟨r, c, k⟩] ++ (R.filter (neB r c)).drop i = putR R r c k) := (show _ from fun i e1 e2 => by
    rw [e1, e2, hE1, hE2, List.append_assoc]; rfl)
  have hOY : Hid (∀ w1, Below w.heap.size w w1 → Own w1 Y #[v]) := fun w1 hb => hY.out.keep hb
  clear hE1 hE2 hs hY hR
  revert hfl HW HS HPR
  generalize R.filter (neB r c) = m
  intro hfl HW HS HPR
  go_enter Try.func22, Try.ntmps22
  go_wp2_with (first | (go_at_call 15; refine (HM.out _).mono ?_; rintro e wa ⟨rfl, hbwa⟩; have hBwa : Below w.heap.size w wa := bup (by with_reducible (repeat' first | assumption | exact Below.refl _ _ | refine Below.drew ?_ | refine bdrewN ?_ _ | refine Below.setCell ?_ (by first | exact Nat.le_refl _ | (simp; done) | (simp; omega) | omega) _ | refine Below.alloc ?_ (by first | exact Nat.le_refl _ | (simp; done) | (simp; omega) | omega) _)) hbwa; have zwa := hBwa.size; have o0wa : Own wa (w.heap.size) #[.int .i64 r, .int .i64 c] := Own.keep (by with_reducible (repeat' first | assumption | refine Own.drew ?_ | refine Own.drewN ?_ _ | (refine Own.at ?_; first | rfl | (simp; done)) | refine Own.past ?_ _)) hbwa; have c0 := o0wa.cell; have l0 := o0wa.lt) | (go_at_call 37; refine (HW.out _ hBwa).mono ?_; rintro e wb ⟨q, cp, rfl, k1, hcp1, hcp2, hbwb⟩; have K1 : Hid (RowI wb w.heap.size (.slice q m.length cp) m) := k1; clear k1; have hBwb : Below w.heap.size w wb := bup hBwa hbwb; have ob := o0wa.keep hbwb; clear c0 l0; have hcp3 : cp ≤ 9223372036854775807 := (by unfold maxLen at hcp2; omega)))
  clear HW HM hcp2
  obtain ⟨n, hn⟩ : ∃ n, n = m.length := ⟨_, rfl⟩
  rw [← hn] at hfl hcp1 K1 ⊢
  have HN : Hid (n = m.length) := hn
  clear hn
  go_loopw [9] (fun v w' => ∃ (i : Nat), v = .int .i64 i ∧ i ≤ n ∧ Hid (∀ (j : Nat) (y : Im), j < i → m[j]? = some y → befM r c y = true) ∧ Below wb.heap.size wb w') (fun v _ => n - (intOf v).toNat)
  case atStart => exact ⟨0, rfl, by omega, (show Hid _ from fun j y hj => absurd hj (Nat.not_lt_zero _)), Below.refl _ _⟩
  case round =>
    obtain ⟨i, rfl, hi, hlo, hB3⟩ := hrel
    have o3 := ob.keep hB3
    have c3 := o3.cell
    have l3 := o3.lt
    have hBw : Below w.heap.size w wr := bup hBwb hB3
    have zw := hBw.size
    by_cases hlt : i < n
    · have hlt' : (i : Int) < n := by omega
      obtain ⟨x, hx⟩ : ∃ x, m[i]? = some x := ⟨_, List.getElem?_eq_getElem (by rw [← HN.out]; omega)⟩
      have hN1 : Hid (befM r c x = true → ∀ (j : Nat) (y : Im), j < i + 1 → m[j]? = some y → befM r c y = true) := (show _ from fun hs j y hj hy => by
        by_cases e : j = i
        · subst e; rw [hx] at hy; injection hy with hy; subst hy; exact hs
        · exact hlo.out j y (by omega) hy)
      have hN2 : Hid (befM r c x = false → m.take i = m.filter (befM r c) ∧ m.drop i = m.filter (fun x => !befM r c x)) := (show _ from fun hs => cut_bef HS.out (by have := HN.out; omega) hlo.out (fun y hy => by rw [hx] at hy; injection hy with hy; subst hy; exact hs))
      have hcells : ∃ g, q = some ⟨g, 0, none⟩ ∧ wr.cell? ⟨g, i * 3, none⟩ = some (.int .i64 x.r) ∧ wr.cell? ⟨g, i * 3 + 1, none⟩ = some (.int .i64 x.c) := by
        rcases K1.out.two with ⟨_, e2⟩ | ⟨g, cap, e1, _, hg, _, _, hcell⟩
        · rw [e2] at hx; simp at hx
        · injection e1 with e3 e4 e5
          have hat := flatI_at m i x hx
          exact ⟨g, e3, (hB3.cell (p := ⟨g, i * 3, none⟩) hg).trans (hcell _ _ hat.1), (hB3.cell (p := ⟨g, i * 3 + 1, none⟩) hg).trans (hcell _ _ hat.2.1)⟩
      obtain ⟨g0, hq, x0, x1⟩ := hcells
      clear hx
      obtain ⟨xr, xc, xk⟩ := x
      dsimp only at x0 x1
      by_cases h1 : xr < r
      · have HE := hN1.out (decide_eq_true (.inl h1))
        have HE2 : Hid _ := HE
        clear HE hN1 hN2
        subst hq
        go_wp2
        go_quiet (fail)
        go_wp2
        exact ⟨⟨i + 1, by go_num, by omega, HE2, bdrewN hB3 _⟩, by simp [intOf]; omega⟩
      · have h1' : decide (xr < r) = false := by simpa using h1
        by_cases h2 : xr = r
        · subst h2
          by_cases h3 : xc < c
          · have HE := hN1.out (decide_eq_true (.inr ⟨rfl, h3⟩))
            have HE2 : Hid _ := HE
            clear HE hN1 hN2
            subst hq
            go_wp2
            go_quiet (fail)
            go_wp2
            exact ⟨⟨i + 1, by go_num, by omega, HE2, bdrewN hB3 _⟩, by simp [intOf]; omega⟩
          · have h3' : decide (xc < c) = false := by simpa using h3
            have HX := hN2.out (decide_eq_false (by dsimp only; omega))
            have HX : Hid _ := HX
            clear hN1 hN2
            subst hq
            go_wp2
            go_quiet (fail)
            have hW0 : Below wb.heap.size wb (wr.drewN nq) := bdrewN hB3 nq
            obtain ⟨W0, e0⟩ : ∃ W0, W0 = wr.drewN nq := ⟨_, rfl⟩
            rw [← e0] at hW0 ⊢
            clear e0
            have hBW : Below w.heap.size w W0 := bup hBwb hW0
            have zW := hBW.size
            have oW := ob.keep hW0
            have KW : Hid (RowI W0 w.heap.size (.slice (some ⟨g0, 0, none⟩) n cp) m) := (show _ from K1.out.keep hW0)
            have cW := oW.cell
            have lW := oW.lt
            have HAP : Hid (∀ (W : World) (u x : Value) (a kk : List Im), RowI W W0.heap.size u a → VI W x kk → Below W0.heap.size W0 W → a.length + kk.length ≤ 2097152 → ∀ ty, ∃ v' w', (Builtin.append_ #[38, 38] ty #[u, x]).run Try.prog W = .ok v' w' ∧ RowI w' W0.heap.size v' (a ++ kk) ∧ (∃ q' n' c', v' = .slice q' n' c') ∧ Below W0.heap.size W0 w') := (show _ from fun W u x a kk h1 h2 h3 h4 ty => by
              obtain ⟨v', w', k1, k2, k3, k4, q', c', k5⟩ := app_items W0.heap.size W u x a kk h1 h2 h3.size h4 ty
              exact ⟨v', w', k1, k2, ⟨q', _, c', k5⟩, h3.trans (k4.to_below h3.size (fun g hg => (h1.lt g hg).1))⟩)
            have HFin : Hid (∀ (W : World) (u : Value), RowI W W0.heap.size u (m.take i ++ [⟨xr, c, k⟩] ++ m.drop i) → Below W0.heap.size W0 W → YOut w Y (putR R xr c k) (W.setCell ⟨Y, 0, none⟩ u)) := (show _ from fun W u h1 h2 => by
              have hb : Below w.heap.size w W := bup hBW h2
              rw [HPR.out i HX.out.1 HX.out.2] at h1
              refine ⟨⟨u, own_put (k := 0) (hOY.out W hb) (by simp), (h1.mono zW).aside _ (fun g hg => by have := (h1.lt g hg).1; simp; omega)⟩, Mut.set (S := fun k => k = Y) (Mut.of_below hb) (.inl rfl) _⟩)
            have HYc : Hid (∀ (W : World), Below W0.heap.size W0 W → W.cell? ⟨Y, 0, none⟩ = some v ∧ W.frozen? ⟨Y, 0, none⟩ = false) := (show _ from fun W h2 => ⟨(hOY.out W (bup hBW h2)).cell 0, (hOY.out W (bup hBW h2)).fro 0⟩)
            have hlt1 : (m.take i).length ≤ 1048576 := by have := List.length_take_le i m; have := HN.out; rw [List.length_take]; omega
            have hlt2 : (m.take i).length + (m.drop i).length ≤ 1048576 := by have := HN.out; rw [List.length_drop, List.length_take]; omega
            have t1 : True := trivial
            have t2 : True := trivial
            have t3 : True := trivial
            clear HPR hOY K1 HS
            have HP : ((some ⟨g0, 0, none⟩ : Option Addr) = none ∧ n = 0 ∧ cp = 0 ∧ i = 0) ∨ ∃ g, some (⟨g0, 0, none⟩ : Addr) = some ⟨g, 0, none⟩ ∧ Hid (∀ W, Below W0.heap.size W0 W → VI W (.slice (some ⟨g, 0, none⟩) i cp) (m.take i) ∧ VI W (.slice (some ⟨g, i * 3, none⟩) (n - i) (cp - i)) (m.drop i)) := by
              rcases KW.out.two with ⟨e1, e2⟩ | ⟨g, cap, e1, _, hg, _, _, hcell⟩
              · injection e1 with e3 e4 e5
                exact .inl ⟨e3, e4, e5, by omega⟩
              · injection e1 with e3 e4 e5
                refine .inr ⟨g, e3, (show Hid _ from fun W hb => ⟨.inr ⟨⟨g, 0, none⟩, cp, by rw [List.length_take, ← HN.out, Nat.min_eq_left (by omega)], fun j u hu => ?_⟩, .inr ⟨⟨g, i * 3, none⟩, cp - i, by rw [List.length_drop, ← HN.out], fun j u hu => ?_⟩⟩)⟩
                · rw [add_none, Nat.zero_add, hb.cell (p := ⟨g, j, none⟩) hg]
                  rw [flatI_take, List.getElem?_take] at hu
                  split at hu
                  · exact hcell j u hu
                  · cases hu
                · rw [add_none, hb.cell (p := ⟨g, i * 3 + j, none⟩) hg]
                  rw [flatI_drop, List.getElem?_drop] at hu
                  exact hcell _ u hu
            have HP' : Hid (∀ W, Below W0.heap.size W0 W → VI W (.slice (some ⟨g0, 0, none⟩) i cp) (m.take i) ∧ VI W (.slice (some ⟨g0, i * 3, none⟩) (n - i) (cp - i)) (m.drop i)) := by
              rcases HP with ⟨e1, _⟩ | ⟨g, e, h⟩
              · cases e1
              · injection e with e
                injection e with e _ _
                subst e
                exact h
            clear HP
            have HP := HP'
            clear HP'
            have hi3 : (i : Int) ≤ n := by omega
            have hi4 : (i : Int) ≤ cp := by omega
            by_cases hci : cp = i
            · omega
            · go_wp2_with (first
                | (at_builtin; clear t1; obtain ⟨v2, w2, hr, r2, ⟨q2, n2, c2, rfl⟩, b2⟩ := HAP.out W0 (.slice none 0 0) _ [] (m.take i) (RowI.nil _ _) ((HP.out _ (Below.refl _ _)).1) (Below.refl _ _) (by simp only [List.length_nil]; omega) _; refine wpList_appI rfl _ _ rfl _ _ rfl rfl _ w2 hr ?_; have R2 : Hid (RowI w2 W0.heap.size (.slice q2 n2 c2) ([] ++ m.take i)) := r2; clear r2 hr; have zz2 := b2.size; have o2 := oW.keep b2; clear cW lW; have cW := o2.cell; have lW := o2.lt)
                | (at_builtin; clear t2; obtain ⟨v3, w3, hr, r3, ⟨q3, n3, c3', rfl⟩, b3⟩ := HAP.out _ (.slice q2 n2 c2) _ ([] ++ m.take i) [⟨xr, c, k⟩] (R2.out.keep (bal _ _)) (VI.new w2 ⟨xr, c, k⟩ _) (b2.trans ((bal w2 _).mono b2.size)) (by simp only [List.nil_append, List.length_cons, List.length_nil]; omega) _; refine wpList_appI rfl _ _ rfl _ _ rfl rfl _ w3 hr ?_; have R3 : Hid (RowI w3 W0.heap.size (.slice q3 n3 c3') ([] ++ m.take i ++ [⟨xr, c, k⟩])) := r3; clear r3 hr R2)
                | (at_builtin; clear t3; obtain ⟨v4, w4, hr, r4, ⟨q4, n4, c4, rfl⟩, b4⟩ := HAP.out _ (.slice q3 n3 c3') _ ([] ++ m.take i ++ [⟨xr, c, k⟩]) (m.drop i) R3.out ((HP.out _ b3).2) b3 (by simp only [List.nil_append, List.length_append, List.length_cons, List.length_nil]; omega) _; refine wpList_appI rfl _ _ rfl _ _ rfl rfl _ w4 hr ?_; have HQ : Hid _ := HFin.out w4 _ r4 b4; have hyc := HYc.out w4 b4; have hyc1 := hyc.1; have hyc2 := hyc.2; clear hyc r4 hr R3))
              all_goals (go_ret; exact ⟨rfl, HQ.out⟩)
        · have h2' : (xr == r) = false := by simpa using h2
          have HX := hN2.out (decide_eq_false (by dsimp only; omega))
          have HX : Hid _ := HX
          clear hN1 hN2 h2
          subst hq
          go_wp2
          go_quiet (fail)
          have hW0 : Below wb.heap.size wb (wr.drewN nq) := bdrewN hB3 nq
          obtain ⟨W0, e0⟩ : ∃ W0, W0 = wr.drewN nq := ⟨_, rfl⟩
          rw [← e0] at hW0 ⊢
          clear e0
          have hBW : Below w.heap.size w W0 := bup hBwb hW0
          have zW := hBW.size
          have oW := ob.keep hW0
          have KW : Hid (RowI W0 w.heap.size (.slice (some ⟨g0, 0, none⟩) n cp) m) := (show _ from K1.out.keep hW0)
          have cW := oW.cell
          have lW := oW.lt
          have HAP : Hid (∀ (W : World) (u x : Value) (a kk : List Im), RowI W W0.heap.size u a → VI W x kk → Below W0.heap.size W0 W → a.length + kk.length ≤ 2097152 → ∀ ty, ∃ v' w', (Builtin.append_ #[38, 38] ty #[u, x]).run Try.prog W = .ok v' w' ∧ RowI w' W0.heap.size v' (a ++ kk) ∧ (∃ q' n' c', v' = .slice q' n' c') ∧ Below W0.heap.size W0 w') := (show _ from fun W u x a kk h1 h2 h3 h4 ty => by
            obtain ⟨v', w', k1, k2, k3, k4, q', c', k5⟩ := app_items W0.heap.size W u x a kk h1 h2 h3.size h4 ty
            exact ⟨v', w', k1, k2, ⟨q', _, c', k5⟩, h3.trans (k4.to_below h3.size (fun g hg => (h1.lt g hg).1))⟩)
          have HFin : Hid (∀ (W : World) (u : Value), RowI W W0.heap.size u (m.take i ++ [⟨r, c, k⟩] ++ m.drop i) → Below W0.heap.size W0 W → YOut w Y (putR R r c k) (W.setCell ⟨Y, 0, none⟩ u)) := (show _ from fun W u h1 h2 => by
            have hb : Below w.heap.size w W := bup hBW h2
            rw [HPR.out i HX.out.1 HX.out.2] at h1
            refine ⟨⟨u, own_put (k := 0) (hOY.out W hb) (by simp), (h1.mono zW).aside _ (fun g hg => by have := (h1.lt g hg).1; simp; omega)⟩, Mut.set (S := fun k => k = Y) (Mut.of_below hb) (.inl rfl) _⟩)
          have HYc : Hid (∀ (W : World), Below W0.heap.size W0 W → W.cell? ⟨Y, 0, none⟩ = some v ∧ W.frozen? ⟨Y, 0, none⟩ = false) := (show _ from fun W h2 => ⟨(hOY.out W (bup hBW h2)).cell 0, (hOY.out W (bup hBW h2)).fro 0⟩)
          have hlt1 : (m.take i).length ≤ 1048576 := by have := List.length_take_le i m; have := HN.out; rw [List.length_take]; omega
          have hlt2 : (m.take i).length + (m.drop i).length ≤ 1048576 := by have := HN.out; rw [List.length_drop, List.length_take]; omega
          have t1 : True := trivial
          have t2 : True := trivial
          have t3 : True := trivial
          clear HPR hOY K1 HS
          have HP : ((some ⟨g0, 0, none⟩ : Option Addr) = none ∧ n = 0 ∧ cp = 0 ∧ i = 0) ∨ ∃ g, some (⟨g0, 0, none⟩ : Addr) = some ⟨g, 0, none⟩ ∧ Hid (∀ W, Below W0.heap.size W0 W → VI W (.slice (some ⟨g, 0, none⟩) i cp) (m.take i) ∧ VI W (.slice (some ⟨g, i * 3, none⟩) (n - i) (cp - i)) (m.drop i)) := by
            rcases KW.out.two with ⟨e1, e2⟩ | ⟨g, cap, e1, _, hg, _, _, hcell⟩
            · injection e1 with e3 e4 e5
              exact .inl ⟨e3, e4, e5, by omega⟩
            · injection e1 with e3 e4 e5
              refine .inr ⟨g, e3, (show Hid _ from fun W hb => ⟨.inr ⟨⟨g, 0, none⟩, cp, by rw [List.length_take, ← HN.out, Nat.min_eq_left (by omega)], fun j u hu => ?_⟩, .inr ⟨⟨g, i * 3, none⟩, cp - i, by rw [List.length_drop, ← HN.out], fun j u hu => ?_⟩⟩)⟩
              · rw [add_none, Nat.zero_add, hb.cell (p := ⟨g, j, none⟩) hg]
                rw [flatI_take, List.getElem?_take] at hu
                split at hu
                · exact hcell j u hu
                · cases hu
              · rw [add_none, hb.cell (p := ⟨g, i * 3 + j, none⟩) hg]
                rw [flatI_drop, List.getElem?_drop] at hu
                exact hcell _ u hu
          have HP' : Hid (∀ W, Below W0.heap.size W0 W → VI W (.slice (some ⟨g0, 0, none⟩) i cp) (m.take i) ∧ VI W (.slice (some ⟨g0, i * 3, none⟩) (n - i) (cp - i)) (m.drop i)) := by
            rcases HP with ⟨e1, _⟩ | ⟨g, e, h⟩
            · cases e1
            · injection e with e
              injection e with e _ _
              subst e
              exact h
          clear HP
          have HP := HP'
          clear HP'
          have hi3 : (i : Int) ≤ n := by omega
          have hi4 : (i : Int) ≤ cp := by omega
          by_cases hci : cp = i
          · omega
          · go_wp2_with (first
              | (at_builtin; clear t1; obtain ⟨v2, w2, hr, r2, ⟨q2, n2, c2, rfl⟩, b2⟩ := HAP.out W0 (.slice none 0 0) _ [] (m.take i) (RowI.nil _ _) ((HP.out _ (Below.refl _ _)).1) (Below.refl _ _) (by simp only [List.length_nil]; omega) _; refine wpList_appI rfl _ _ rfl _ _ rfl rfl _ w2 hr ?_; have R2 : Hid (RowI w2 W0.heap.size (.slice q2 n2 c2) ([] ++ m.take i)) := r2; clear r2 hr; have zz2 := b2.size; have o2 := oW.keep b2; clear cW lW; have cW := o2.cell; have lW := o2.lt)
              | (at_builtin; clear t2; obtain ⟨v3, w3, hr, r3, ⟨q3, n3, c3', rfl⟩, b3⟩ := HAP.out _ (.slice q2 n2 c2) _ ([] ++ m.take i) [⟨r, c, k⟩] (R2.out.keep (bal _ _)) (VI.new w2 ⟨r, c, k⟩ _) (b2.trans ((bal w2 _).mono b2.size)) (by simp only [List.nil_append, List.length_cons, List.length_nil]; omega) _; refine wpList_appI rfl _ _ rfl _ _ rfl rfl _ w3 hr ?_; have R3 : Hid (RowI w3 W0.heap.size (.slice q3 n3 c3') ([] ++ m.take i ++ [⟨r, c, k⟩])) := r3; clear r3 hr R2)
              | (at_builtin; clear t3; obtain ⟨v4, w4, hr, r4, ⟨q4, n4, c4, rfl⟩, b4⟩ := HAP.out _ (.slice q3 n3 c3') _ ([] ++ m.take i ++ [⟨r, c, k⟩]) (m.drop i) R3.out ((HP.out _ b3).2) b3 (by simp only [List.nil_append, List.length_append, List.length_cons, List.length_nil]; omega) _; refine wpList_appI rfl _ _ rfl _ _ rfl rfl _ w4 hr ?_; have HQ : Hid _ := HFin.out w4 _ r4 b4; have hyc := HYc.out w4 b4; have hyc1 := hyc.1; have hyc2 := hyc.2; clear hyc r4 hr R3))
            all_goals (go_ret; exact ⟨rfl, HQ.out⟩)
    · have hlt' : ¬ (i : Int) < n := by omega
      have HX : Hid (m.take i = m.filter (befM r c) ∧ m.drop i = m.filter (fun x => !befM r c x)) := cut_bef HS.out (by have := HN.out; omega) hlo.out (fun y hy => by have := (List.getElem?_eq_some_iff.1 hy).1; have := HN.out; omega)
      go_wp2
      go_quiet (fail)
      have hW0 : Below wb.heap.size wb (wr.drewN nq) := bdrewN hB3 nq
      obtain ⟨W0, e0⟩ : ∃ W0, W0 = wr.drewN nq := ⟨_, rfl⟩
      rw [← e0] at hW0 ⊢
      clear e0
      have hBW : Below w.heap.size w W0 := bup hBwb hW0
      have zW := hBW.size
      have oW := ob.keep hW0
      have KW : Hid (RowI W0 w.heap.size (.slice q n cp) m) := (show _ from K1.out.keep hW0)
      have cW := oW.cell
      have lW := oW.lt
      have HAP : Hid (∀ (W : World) (u x : Value) (a kk : List Im), RowI W W0.heap.size u a → VI W x kk → Below W0.heap.size W0 W → a.length + kk.length ≤ 2097152 → ∀ ty, ∃ v' w', (Builtin.append_ #[38, 38] ty #[u, x]).run Try.prog W = .ok v' w' ∧ RowI w' W0.heap.size v' (a ++ kk) ∧ (∃ q' n' c', v' = .slice q' n' c') ∧ Below W0.heap.size W0 w') := (show _ from fun W u x a kk h1 h2 h3 h4 ty => by
        obtain ⟨v', w', k1, k2, k3, k4, q', c', k5⟩ := app_items W0.heap.size W u x a kk h1 h2 h3.size h4 ty
        exact ⟨v', w', k1, k2, ⟨q', _, c', k5⟩, h3.trans (k4.to_below h3.size (fun g hg => (h1.lt g hg).1))⟩)
      have HFin : Hid (∀ (W : World) (u : Value), RowI W W0.heap.size u (m.take i ++ [⟨r, c, k⟩] ++ m.drop i) → Below W0.heap.size W0 W → YOut w Y (putR R r c k) (W.setCell ⟨Y, 0, none⟩ u)) := (show _ from fun W u h1 h2 => by
        have hb : Below w.heap.size w W := bup hBW h2
        rw [HPR.out i HX.out.1 HX.out.2] at h1
        refine ⟨⟨u, own_put (k := 0) (hOY.out W hb) (by simp), (h1.mono zW).aside _ (fun g hg => by have := (h1.lt g hg).1; simp; omega)⟩, Mut.set (S := fun k => k = Y) (Mut.of_below hb) (.inl rfl) _⟩)
      have HYc : Hid (∀ (W : World), Below W0.heap.size W0 W → W.cell? ⟨Y, 0, none⟩ = some v ∧ W.frozen? ⟨Y, 0, none⟩ = false) := (show _ from fun W h2 => ⟨(hOY.out W (bup hBW h2)).cell 0, (hOY.out W (bup hBW h2)).fro 0⟩)
      have hlt1 : (m.take i).length ≤ 1048576 := by have := List.length_take_le i m; have := HN.out; rw [List.length_take]; omega
      have hlt2 : (m.take i).length + (m.drop i).length ≤ 1048576 := by have := HN.out; rw [List.length_drop, List.length_take]; omega
      have t1 : True := trivial
      have t2 : True := trivial
      have t3 : True := trivial
      clear HPR hOY K1 HS
      have HP : (q = none ∧ n = 0 ∧ cp = 0 ∧ i = 0) ∨ ∃ g, q = some ⟨g, 0, none⟩ ∧ Hid (∀ W, Below W0.heap.size W0 W → VI W (.slice (some ⟨g, 0, none⟩) i cp) (m.take i) ∧ VI W (.slice (some ⟨g, i * 3, none⟩) (n - i) (cp - i)) (m.drop i)) := by
        rcases KW.out.two with ⟨e1, e2⟩ | ⟨g, cap, e1, _, hg, _, _, hcell⟩
        · injection e1 with e3 e4 e5
          exact .inl ⟨e3, e4, e5, by omega⟩
        · injection e1 with e3 e4 e5
          refine .inr ⟨g, e3, (show Hid _ from fun W hb => ⟨.inr ⟨⟨g, 0, none⟩, cp, by rw [List.length_take, ← HN.out, Nat.min_eq_left (by omega)], fun j u hu => ?_⟩, .inr ⟨⟨g, i * 3, none⟩, cp - i, by rw [List.length_drop, ← HN.out], fun j u hu => ?_⟩⟩)⟩
          · rw [add_none, Nat.zero_add, hb.cell (p := ⟨g, j, none⟩) hg]
            rw [flatI_take, List.getElem?_take] at hu
            split at hu
            · exact hcell j u hu
            · cases hu
          · rw [add_none, hb.cell (p := ⟨g, i * 3 + j, none⟩) hg]
            rw [flatI_drop, List.getElem?_drop] at hu
            exact hcell _ u hu
      rcases HP with ⟨rfl, rfl, rfl, rfl⟩ | ⟨g, rfl, HP⟩
      · go_wp2_with (first
          | (at_builtin; clear t1; obtain ⟨v2, w2, hr, r2, ⟨q2, n2, c2, rfl⟩, b2⟩ := HAP.out W0 (.slice none 0 0) _ [] (m.take 0) (RowI.nil _ _) (.inl ⟨rfl, by simp⟩) (Below.refl _ _) (by simp only [List.length_nil]; omega) _; refine wpList_appI rfl _ _ rfl _ _ rfl rfl _ w2 hr ?_; have R2 : Hid (RowI w2 W0.heap.size (.slice q2 n2 c2) ([] ++ m.take 0)) := r2; clear r2 hr; have zz2 := b2.size; have o2 := oW.keep b2; clear cW lW; have cW := o2.cell; have lW := o2.lt)
          | (at_builtin; clear t2; obtain ⟨v3, w3, hr, r3, ⟨q3, n3, c3', rfl⟩, b3⟩ := HAP.out _ (.slice q2 n2 c2) _ ([] ++ m.take 0) [⟨r, c, k⟩] (R2.out.keep (bal _ _)) (VI.new w2 ⟨r, c, k⟩ _) (b2.trans ((bal w2 _).mono b2.size)) (by simp only [List.nil_append, List.length_cons, List.length_nil]; omega) _; refine wpList_appI rfl _ _ rfl _ _ rfl rfl _ w3 hr ?_; have R3 : Hid (RowI w3 W0.heap.size (.slice q3 n3 c3') ([] ++ m.take 0 ++ [⟨r, c, k⟩])) := r3; clear r3 hr R2)
          | (at_builtin; clear t3; obtain ⟨v4, w4, hr, r4, ⟨q4, n4, c4, rfl⟩, b4⟩ := HAP.out _ (.slice q3 n3 c3') _ ([] ++ m.take 0 ++ [⟨r, c, k⟩]) (m.drop 0) R3.out (.inl ⟨rfl, by have := HN.out; exact List.eq_nil_of_length_eq_zero (by rw [List.length_drop]; omega)⟩) b3 (by simp only [List.nil_append, List.length_append, List.length_cons, List.length_nil]; omega) _; refine wpList_appI rfl _ _ rfl _ _ rfl rfl _ w4 hr ?_; have HQ : Hid _ := HFin.out w4 _ r4 b4; have hyc := HYc.out w4 b4; have hyc1 := hyc.1; have hyc2 := hyc.2; clear hyc r4 hr R3))
        all_goals (go_ret; exact ⟨rfl, HQ.out⟩)
      · have hi3 : (i : Int) ≤ n := by omega
        have hi4 : (i : Int) ≤ cp := by omega
        by_cases hci : cp = i
        · subst hci
          have HE3 : Hid (∀ W, Below W0.heap.size W0 W → VI W (.slice (some ⟨g, 0, none⟩) 0 0) (m.drop cp)) := fun W hb => .inr ⟨⟨g, 0, none⟩, 0, by rw [List.length_drop, ← HN.out]; congr 1; omega, fun j u hu => by rw [List.drop_of_length_le (by have := HN.out; omega)] at hu; simp [flatI] at hu⟩
          have hn1 : n = cp := by omega
          subst hn1
          go_wp2_with (first
            | (at_builtin; clear t1; obtain ⟨v2, w2, hr, r2, ⟨q2, n2, c2, rfl⟩, b2⟩ := HAP.out W0 (.slice none 0 0) _ [] (m.take n) (RowI.nil _ _) ((HP.out _ (Below.refl _ _)).1) (Below.refl _ _) (by simp only [List.length_nil]; omega) _; refine wpList_appI rfl _ _ rfl _ _ rfl rfl _ w2 hr ?_; have R2 : Hid (RowI w2 W0.heap.size (.slice q2 n2 c2) ([] ++ m.take n)) := r2; clear r2 hr; have zz2 := b2.size; have o2 := oW.keep b2; clear cW lW; have cW := o2.cell; have lW := o2.lt)
            | (at_builtin; clear t2; obtain ⟨v3, w3, hr, r3, ⟨q3, n3, c3', rfl⟩, b3⟩ := HAP.out _ (.slice q2 n2 c2) _ ([] ++ m.take n) [⟨r, c, k⟩] (R2.out.keep (bal _ _)) (VI.new w2 ⟨r, c, k⟩ _) (b2.trans ((bal w2 _).mono b2.size)) (by simp only [List.nil_append, List.length_cons, List.length_nil]; omega) _; refine wpList_appI rfl _ _ rfl _ _ rfl rfl _ w3 hr ?_; have R3 : Hid (RowI w3 W0.heap.size (.slice q3 n3 c3') ([] ++ m.take n ++ [⟨r, c, k⟩])) := r3; clear r3 hr R2)
            | (at_builtin; clear t3; obtain ⟨v4, w4, hr, r4, ⟨q4, n4, c4, rfl⟩, b4⟩ := HAP.out _ (.slice q3 n3 c3') _ ([] ++ m.take n ++ [⟨r, c, k⟩]) (m.drop n) R3.out (HE3.out _ b3) b3 (by simp only [List.nil_append, List.length_append, List.length_cons, List.length_nil]; omega) _; refine wpList_appI rfl _ _ rfl _ _ rfl rfl _ w4 hr ?_; have HQ : Hid _ := HFin.out w4 _ r4 b4; have hyc := HYc.out w4 b4; have hyc1 := hyc.1; have hyc2 := hyc.2; clear hyc r4 hr R3))
          all_goals (go_ret; exact ⟨rfl, HQ.out⟩)
        · go_wp2_with (first
            | (at_builtin; clear t1; obtain ⟨v2, w2, hr, r2, ⟨q2, n2, c2, rfl⟩, b2⟩ := HAP.out W0 (.slice none 0 0) _ [] (m.take i) (RowI.nil _ _) ((HP.out _ (Below.refl _ _)).1) (Below.refl _ _) (by simp only [List.length_nil]; omega) _; refine wpList_appI rfl _ _ rfl _ _ rfl rfl _ w2 hr ?_; have R2 : Hid (RowI w2 W0.heap.size (.slice q2 n2 c2) ([] ++ m.take i)) := r2; clear r2 hr; have zz2 := b2.size; have o2 := oW.keep b2; clear cW lW; have cW := o2.cell; have lW := o2.lt)
            | (at_builtin; clear t2; obtain ⟨v3, w3, hr, r3, ⟨q3, n3, c3', rfl⟩, b3⟩ := HAP.out _ (.slice q2 n2 c2) _ ([] ++ m.take i) [⟨r, c, k⟩] (R2.out.keep (bal _ _)) (VI.new w2 ⟨r, c, k⟩ _) (b2.trans ((bal w2 _).mono b2.size)) (by simp only [List.nil_append, List.length_cons, List.length_nil]; omega) _; refine wpList_appI rfl _ _ rfl _ _ rfl rfl _ w3 hr ?_; have R3 : Hid (RowI w3 W0.heap.size (.slice q3 n3 c3') ([] ++ m.take i ++ [⟨r, c, k⟩])) := r3; clear r3 hr R2)
            | (at_builtin; clear t3; obtain ⟨v4, w4, hr, r4, ⟨q4, n4, c4, rfl⟩, b4⟩ := HAP.out _ (.slice q3 n3 c3') _ ([] ++ m.take i ++ [⟨r, c, k⟩]) (m.drop i) R3.out ((HP.out _ b3).2) b3 (by simp only [List.nil_append, List.length_append, List.length_cons, List.length_nil]; omega) _; refine wpList_appI rfl _ _ rfl _ _ rfl rfl _ w4 hr ?_; have HQ : Hid _ := HFin.out w4 _ r4 b4; have hyc := HYc.out w4 b4; have hyc1 := hyc.1; have hyc2 := hyc.2; clear hyc r4 hr R3))
          all_goals (go_ret; exact ⟨rfl, HQ.out⟩)
end Go.Proofs.Ytaafpfjmnhmalaa
