/- The document's store: rows of items; the contracts of without, Drop and Get. -/
import Derived.Test.YtaafpfjmnhmalaaS13
import Derived.Maps.AppendAt
import Derived.Deep.QuietTactic
import Derived.BigQuiet
namespace Go.Proofs.Ytaafpfjmnhmalaa
open Go.RowKit
set_option linter.all false
/-- A cell and the number of its content. -/
structure Im where
  r : Int
  c : Int
  k : Int
def flatI (l : List Im) : List Value := l.flatMap (fun x => [.int .i64 x.r, .int .i64 x.c, .int .i64 x.k])
theorem flatI_len : ∀ l : List Im, (flatI l).length = l.length * 3
  | [] => rfl
  | x :: r => by have := flatI_len r; simp only [flatI, List.flatMap_cons, List.length_append, List.length_cons, List.length_nil] at this ⊢; omega
theorem flatI_app (l m : List Im) : flatI (l ++ m) = flatI l ++ flatI m := by simp [flatI]
theorem flatI_one (l : List Im) : ∀ u ∈ flatI l, u.oneCell' = true := by
  intro u hu
  simp only [flatI, List.mem_flatMap] at hu
  obtain ⟨x, _, hu⟩ := hu
  simp at hu
  rcases hu with rfl | rfl | rfl <;> rfl
theorem flatI_at : ∀ (l : List Im) (i : Nat) (x : Im), l[i]? = some x → (flatI l)[i * 3]? = some (.int .i64 x.r) ∧ (flatI l)[i * 3 + 1]? = some (.int .i64 x.c) ∧ (flatI l)[i * 3 + 2]? = some (.int .i64 x.k)
  | [], i, x, h => by simp at h
  | u :: r, 0, x, h => by simp at h; subst h; exact ⟨rfl, rfl, rfl⟩
  | u :: r, i + 1, x, h => by
    have ih := flatI_at r i x (by simpa using h)
    have e : flatI (u :: r) = .int .i64 u.r :: .int .i64 u.c :: .int .i64 u.k :: flatI r := rfl
    rw [e, show (i + 1) * 3 = i * 3 + 1 + 1 + 1 by omega]
    exact ⟨by simp only [List.getElem?_cons_succ]; exact ih.1, by simp only [List.getElem?_cons_succ]; exact ih.2.1, by simp only [List.getElem?_cons_succ]; exact ih.2.2⟩
theorem flatI_take (l : List Im) (k : Nat) : flatI (l.take k) = (flatI l).take (k * 3) := by
  by_cases h : k ≤ l.length
  · have e : flatI l = flatI (l.take k) ++ flatI (l.drop k) := by rw [← flatI_app, List.take_append_drop]
    rw [e]
    exact (List.take_left' (by rw [flatI_len, List.length_take, Nat.min_eq_left h])).symm
  · rw [List.take_of_length_le (by omega), List.take_of_length_le (by rw [flatI_len]; omega)]
theorem flatI_drop (l : List Im) (k : Nat) : flatI (l.drop k) = (flatI l).drop (k * 3) := by
  by_cases h : k ≤ l.length
  · have e : flatI l = flatI (l.take k) ++ flatI (l.drop k) := by rw [← flatI_app, List.take_append_drop]
    rw [e]
    exact (List.drop_left' (by rw [flatI_len, List.length_take, Nat.min_eq_left h])).symm
  · rw [List.drop_of_length_le (by omega), List.drop_of_length_le (by rw [flatI_len]; omega)]; rfl
/-- The value is a row of just these items, in a block from base on. -/
def RowI (w : World) (base : Nat) (v : Value) (l : List Im) : Prop := w.ownsRow base 93 3 v l.length (flatI l)
theorem RowI.nil (w : World) (base : Nat) : RowI w base (.slice none 0 0) [] := ⟨by simp [flatI], .inl ⟨rfl, rfl⟩⟩
theorem RowI.of_block {w w' : World} {base : Nat} {v : Value} {l : List Im} (h : RowI w base v l) (hb : ∀ g, v.ownBlock = some g → w'.heap[g]? = w.heap[g]?) : RowI w' base v l := by
  obtain ⟨h1, h2⟩ := h
  refine ⟨h1, ?_⟩
  rcases h2 with h2 | ⟨g, cap, cur, e, r1, r2, r3⟩
  · exact .inl h2
  · exact .inr ⟨g, cap, cur, e, r1, (hb g (by rw [e]; rfl)).trans r2, r3⟩
theorem RowI.lt {w : World} {base : Nat} {v : Value} {l : List Im} (h : RowI w base v l) : ∀ g, v.ownBlock = some g → base ≤ g ∧ g < w.heap.size := World.ownsRow.lt h
theorem RowI.keep {w w' : World} {base : Nat} {v : Value} {l : List Im} (h : RowI w base v l) (hb : Below w.heap.size w w') : RowI w' base v l := h.of_block fun g hg => hb.block g (h.lt g hg).2
theorem RowI.aside {w : World} {base : Nat} {v : Value} {l : List Im} (h : RowI w base v l) {a : Addr} (x : Value) (hn : ∀ g, v.ownBlock = some g → g ≠ a.block) : RowI (w.setCell a x) base v l := h.of_block fun g hg => Below.heap_setCell w a x g (hn g hg)
theorem RowI.mono {w : World} {base base' : Nat} {v : Value} {l : List Im} (h : RowI w base v l) (hb : base' ≤ base) : RowI w base' v l := by
  obtain ⟨h1, h2⟩ := h
  refine ⟨h1, ?_⟩
  rcases h2 with h2 | ⟨g, cap, cur, e, r1, r2⟩
  · exact .inl h2
  · exact .inr ⟨g, cap, cur, e, Nat.le_trans hb r1, r2⟩
/-- Nil, or written out. -/
theorem RowI.two {w : World} {base : Nat} {v : Value} {l : List Im} (h : RowI w base v l) : (v = .slice none 0 0 ∧ l = []) ∨ ∃ g cap, v = .slice (some ⟨g, 0, none⟩) l.length cap ∧ base ≤ g ∧ g < w.heap.size ∧ l.length ≤ cap ∧ cap ≤ maxLen ∧ (∀ j u, (flatI l)[j]? = some u → w.cell? ⟨g, j, none⟩ = some u) := by
  obtain ⟨h1, h2⟩ := h
  rcases h2 with ⟨rfl, e⟩ | ⟨g, cap, cur, rfl, hb, hg, h3, h4, h5, h6⟩
  · exact .inl ⟨rfl, List.length_eq_zero_iff.1 e⟩
  · refine .inr ⟨g, cap, rfl, hb, (Array.getElem?_eq_some_iff.1 hg).1, h3, h4, fun j u hu => ?_⟩
    rw [cell_row hg]
    rw [← h6, List.getElem?_take] at hu
    split at hu
    · simpa using hu
    · cases hu
theorem infoIm : (Try.prog.info? 93).map (fun i => (i.zero, i.size, i.bytes)) = some (some (.agg #[.int .i64 0, .int .i64 0, .int .i64 0]), 3, 24) := by kernel_rfl
/-- A piece of a list of items: nil, or so many behind an address. -/
def VI (w : World) (v : Value) (l : List Im) : Prop := (v = .slice none 0 0 ∧ l = []) ∨ ∃ a cp, v = .slice (some a) l.length cp ∧ (∀ j u, (flatI l)[j]? = some u → w.cell? (a.add j) = some u)
theorem app_none (ty : TypeId) (base : Option Addr) (n cap : Nat) (w : World) (h : n ≤ cap) : (Builtin.append_ #[38, 38] ty #[.slice base n cap, .slice none 0 0]).run Try.prog w = .ok (.slice base n cap) w := by
  obtain ⟨i, hi, _, _, _⟩ := info_parts infoIm
  simp [Builtin.append_, run_underlying Try.underlying38, sizeOf, typeInfo, hi, Builtin.lenOf, h, Builtin.firstCells, storeCells]
  cases base <;> rfl
/-- More behind them. -/
theorem app_items (base : Nat) (W : World) (v x : Value) (m k : List Im) (h : RowI W base v m) (hx : VI W x k) (hw : base ≤ W.heap.size) (hb : m.length + k.length ≤ 2097152) (ty : TypeId) :
    ∃ v' w', (Builtin.append_ #[38, 38] ty #[v, x]).run Try.prog W = .ok v' w' ∧ RowI w' base v' (m ++ k) ∧ (v'.ownBlock = v.ownBlock ∨ v'.ownBlock = some W.heap.size) ∧ Mut (fun g => v.ownBlock = some g) W w' ∧ ∃ q cp, v' = .slice q (m.length + k.length) cp := by
  obtain ⟨i, hi, hz, hsz, hby⟩ := info_parts infoIm
  rcases hx with ⟨rfl, rfl⟩ | ⟨a, cp, rfl, hc⟩
  · have hsl : ∃ q cp, v = .slice q m.length cp ∧ m.length ≤ cp := by
      rcases h.two with ⟨rfl, rfl⟩ | ⟨g, cap, rfl, _, _, h3, _⟩
      · exact ⟨_, _, rfl, Nat.le_refl _⟩
      · exact ⟨_, _, rfl, h3⟩
    obtain ⟨q, cp, rfl, hle⟩ := hsl
    exact ⟨_, W, app_none ty q _ cp W hle, by rw [List.append_nil]; exact h, .inl rfl, Mut.refl _ _, q, cp, rfl⟩
  · obtain ⟨v', w', h1, h2, h3, h4, h5⟩ := run_append_own_at (P := Try.prog) W base 38 ty 93 i _ 3 24 Try.underlying38 hi hz hsz hby rfl (by omega) v m.length (flatI m) h a k.length cp (flatI k) (flatI_len k) hc (flatI_one k) (by unfold maxLen; omega) (by omega) hw
    have hR : RowI w' base v' (m ++ k) := by
      unfold RowI
      rw [flatI_app, List.length_append]
      exact h2
    refine ⟨v', w', h1, hR, h5, ⟨h3.os, h3.tape, h3.output, h3.size, fun b hb hs => h3.block b hb (fun e => hs e.symm)⟩, ?_⟩
    rcases hR.two with ⟨rfl, e⟩ | ⟨g, cap, rfl, _⟩
    · exact ⟨none, 0, by rw [← List.length_append, e]; rfl⟩
    · exact ⟨_, _, by rw [List.length_append]⟩
theorem wpList_appI {w : World} {ops : Array Oper} {rest : List Oper} {o : Oper} {a : Act} {Q : Exit → Act → World → Prop} (hgd : o.guard = none) (s x : Operand)
    (ho : o.op = .call { callee := .builtin .append, args := #[s, x], argTypes := #[38, 38] }) (v xv : Value) (hs : a.eval s = v) (hx : a.eval x = xv) (v' : Value) (w' : World)
    (hr : (Builtin.append_ #[38, 38] o.type #[v, xv]).run Try.prog w = .ok v' w') (h : wpList Try.prog ops Q rest (a.put o.dst v') w') : wpList Try.prog ops Q (o :: rest) a w :=
  wpList_plain hgd fun K hK => by
    unfold Oper.wp execOp
    simp only [ho, resolve, invoke, builtin, Sem.run_bind, Sem.run_pure, Result.andThen_ok, List.map_toArray, List.map_cons, List.map_nil, hs, hx, hr]
    exact hK _ _ h
/-- A new item as a piece. -/
theorem VI.new (W : World) (x : Im) (T : TypeId) : VI (W.alloc (.cells #[.int .i64 x.r, .int .i64 x.c, .int .i64 x.k] T)) (.slice (some ⟨W.heap.size, 0, none⟩) 1 1) [x] := by
  refine .inr ⟨⟨W.heap.size, 0, none⟩, 1, rfl, fun j u hu => ?_⟩
  rw [add_none, Nat.zero_add, (Own.new W _ _).cell j]
  simpa [flatI] using hu
/-- Not this cell. -/
def neB (r c : Int) (x : Im) : Bool := !sameC x.r x.c r c
theorem filter_take (p : Im → Bool) (R : List Im) (i : Nat) (y : Im) (h : R[i]? = some y) : (R.take (i + 1)).filter p = (R.take i).filter p ++ (if p y = true then [y] else []) := by
  rw [List.take_succ, h, List.filter_append]
  simp only [Option.toList_some, List.filter_cons, List.filter_nil]
set_option maxRecDepth 100000 in
set_option maxHeartbeats 4000000 in
theorem without_any (w : World) (Y : Nat) (v : Value) (R : List Im) (r c : Int) (hY : Hid (Own w Y #[v])) (hR : Hid (RowI w 0 v R)) (hl : R.length ≤ 1048576) :
    Calls Try.prog 37 #[.pointer (some ⟨Y, 0, none⟩), .agg #[.int .i64 r, .int .i64 c]] w fun e w' => ∃ v', e = .returned v' ∧ RowI w' w.heap.size v' (R.filter (neB r c)) ∧ Below w.heap.size w w' := by
  have mixed : Try.prog.follows .mixedOrders = true := by kernel_rfl
  obtain ⟨n, hn⟩ : ∃ n, n = R.length := ⟨_, rfl⟩
  have hsl : ∃ q cp, v = .slice q n cp ∧ n ≤ cp ∧ cp ≤ maxLen := by
    rcases hR.out.two with ⟨rfl, rfl⟩ | ⟨g, cap, rfl, _, _, h3, h4, _⟩
    · exact ⟨_, 0, by rw [hn]; rfl, by rw [hn]; exact Nat.le_refl _, Nat.zero_le _⟩
    · exact ⟨_, _, by rw [hn], by rw [hn]; exact h3, h4⟩
  obtain ⟨q, cp, rfl, hc1, hc2⟩ := hsl
  unfold maxLen at hc2
  rw [← hn] at hl
  have HN : Hid (n = R.length) := hn
  clear hn
  have hy0 : w.cell? ⟨Y, 0, none⟩ = some (.slice q n cp) := hY.out.cell 0
  have hyl := hY.out.lt
  clear hY
  go_enter Try.func37, Try.ntmps37
  go_wp2
  go_loopw [5, 6] (fun u v w' => ∃ (i : Nat) (q2 : Option Addr) (c2 : Nat), v = .int .i64 i ∧ i ≤ n ∧ u = .slice q2 ((R.take i).filter (neB r c)).length c2 ∧ Hid (RowI w' w.heap.size (.slice q2 ((R.take i).filter (neB r c)).length c2) ((R.take i).filter (neB r c))) ∧ Below w.heap.size w w' ∧ Own w' w.heap.size #[.int .i64 r, .int .i64 c] ∧ (∀ g, Value.ownBlock (.slice q2 ((R.take i).filter (neB r c)).length c2) = some g → g ≠ w.heap.size)) (fun _ v _ => n - (intOf v).toNat)
  case atStart => exact ⟨0, none, 0, rfl, by omega, rfl, (show Hid _ from RowI.nil _ _), by with_reducible (repeat' first | assumption | exact Below.refl _ _ | refine Below.drew ?_ | refine bdrewN ?_ _ | refine Below.setCell ?_ (by first | exact Nat.le_refl _ | (simp; done) | (simp; omega) | omega) _ | refine Below.alloc ?_ (by first | exact Nat.le_refl _ | (simp; done) | (simp; omega) | omega) _), by with_reducible (repeat' first | assumption | refine Own.drew ?_ | refine Own.drewN ?_ _ | (refine Own.at ?_; first | rfl | (simp; done)) | refine Own.past ?_ _), fun g hg => by cases hg⟩
  case round =>
    obtain ⟨i, q2, c2, rfl, hi, rfl, hT, hB3, o3, hne⟩ := hrel
    have hfl : ((R.take i).filter (neB r c)).length ≤ n := by
      have q1 := List.length_filter_le (neB r c) (R.take i)
      rw [List.length_take] at q1
      have := HN.out
      omega
    have y0 := (hB3.cell (p := ⟨Y, 0, none⟩) hyl).trans hy0
    have c3 := o3.cell
    have l3 := o3.lt
    have z3 := hB3.size
    by_cases hlt : i < n
    · have hlt' : (i : Int) < n := by omega
      obtain ⟨x, hx⟩ : ∃ x, R[i]? = some x := ⟨_, List.getElem?_eq_getElem (by rw [← HN.out]; omega)⟩
      have HE := filter_take (neB r c) R i x hx
      rcases hR.out.two with ⟨_, rfl⟩ | ⟨g, cap, e1, _, hg, _, _, hcell⟩
      · simp at hx
      · injection e1 with e1 e4 e5
        clear e4 e5
        subst e1
        have hat := flatI_at R i x hx
        have x0 := (hB3.cell (p := ⟨g, i * 3, none⟩) hg).trans (hcell _ _ hat.1)
        have x1 := (hB3.cell (p := ⟨g, i * 3 + 1, none⟩) hg).trans (hcell _ _ hat.2.1)
        have x2 := (hB3.cell (p := ⟨g, i * 3 + 2, none⟩) hg).trans (hcell _ _ hat.2.2)
        clear hat hcell hx
        have HE' : Hid _ := HE
        clear HE
        revert hT hne hfl HE'
        generalize (R.take i).filter (neB r c) = m
        intro hT hne hfl HE'
        obtain ⟨xr, xc, xk⟩ := x
        dsimp only at x0 x1 x2
        have heq := neC xr xc r c
        cases hs : sameC xr xc r c
        · rw [hs] at heq
          have HE2 : Hid ((R.take (i + 1)).filter (neB r c) = m ++ [⟨xr, xc, xk⟩]) := (show (R.take (i + 1)).filter (neB r c) = m ++ [⟨xr, xc, xk⟩] from by
            have q := HE'.out
            rw [if_pos (by simp [neB, hs])] at q
            exact q)
          clear HE'
          go_wp2
          go_quiet (fail)
          have HAP : Hid (∀ ty, ∃ v' w', (Builtin.append_ #[38, 38] ty #[.slice q2 m.length c2, .slice (some ⟨wr.heap.size, 0, none⟩) 1 1]).run Try.prog ((wr.drewN nq).alloc (.cells #[.int .i64 xr, .int .i64 xc, .int .i64 xk] 93)) = .ok v' w' ∧ RowI w' w.heap.size v' (m ++ [⟨xr, xc, xk⟩]) ∧ (∃ q' c', v' = .slice q' (m.length + 1) c') ∧ Below w.heap.size w w' ∧ Own w' w.heap.size #[.int .i64 r, .int .i64 c] ∧ (∀ g, v'.ownBlock = some g → g ≠ w.heap.size)) := (show _ from fun ty => by
            have hT1 : RowI ((wr.drewN nq).alloc (.cells #[.int .i64 xr, .int .i64 xc, .int .i64 xk] 93)) w.heap.size (.slice q2 m.length c2) m := (hT.out.keep (bdrewN (Below.refl _ _) nq)).keep (bal _ _)
            obtain ⟨v', w', k1, k2, k3, k4, q', c', k5⟩ := app_items w.heap.size _ _ _ m [⟨xr, xc, xk⟩] hT1 (VI.new (wr.drewN nq) ⟨xr, xc, xk⟩ _) (by simp; omega) (by simp; omega) ty
            refine ⟨v', w', k1, k2, ⟨q', c', k5⟩, (((bdrewN hB3 nq).alloc (by simp; omega) _)).trans (k4.to_below (by simp; omega) (fun k hk => (hT.out.lt k hk).1)), ((o3.drewN nq).past _).mut k4 (fun e => hne _ e rfl), fun g hg => ?_⟩
            rcases k3 with k3 | k3
            · exact hne g (k3.symm.trans hg)
            · rw [k3] at hg; injection hg with hg; simp at hg; omega)
          go_wp2_with (at_builtin; obtain ⟨v', wd, hr, k1, ⟨q', c', rfl⟩, k2, k3, k4⟩ := HAP.out _; refine wpList_appI rfl _ _ rfl _ _ rfl rfl _ wd hr ?_; have K1 : Hid (RowI wd w.heap.size (.slice q' (m.length + 1) c') (m ++ [⟨xr, xc, xk⟩])) := k1; clear k1 hr)
          exact ⟨⟨i + 1, q', c', by go_num, by omega, by rw [HE2.out, List.length_append]; rfl, (show Hid _ from by rw [HE2.out, List.length_append]; exact K1.out), k2, k3, by rw [HE2.out, List.length_append]; exact k4⟩, by simp [intOf]; omega⟩
        · rw [hs] at heq
          have HE2 : Hid ((R.take (i + 1)).filter (neB r c) = m) := (show (R.take (i + 1)).filter (neB r c) = m from by
            have q := HE'.out
            rw [if_neg (by simp [neB, hs]), List.append_nil] at q
            exact q)
          clear HE'
          go_wp2
          go_quiet (fail)
          go_wp2
          exact ⟨⟨i + 1, q2, c2, by go_num, by omega, by rw [HE2.out], (show Hid _ from by rw [HE2.out]; exact hT.out.keep (bdrewN (Below.refl _ _) _)), bdrewN hB3 _, o3.drewN _, by rw [HE2.out]; exact hne⟩, by simp [intOf]; omega⟩
    · have hin : i = n := by omega
      have HE : Hid ((R.take i).filter (neB r c) = R.filter (neB r c)) := (show _ = _ from by rw [List.take_of_length_le (by have := HN.out; omega)])
      clear hin
      have hlt' : ¬ (i : Int) < n := by omega
      go_wp2
      all_goals go_ret
      all_goals exact ⟨_, rfl, by rw [← HE.out]; exact hT.out, hB3⟩
end Go.Proofs.Ytaafpfjmnhmalaa
