/- The contracts of slices.Delete of one thing, slices.Grow of nothing, slices.Concat of one row, and of without. The condition: no more than 4000000000000 of them. -/
import Derived.Test.YtgojnijpjfdocaaGreatBIr
namespace Go.Proofs.YtgojnijpjfdocaaGreat
open Go.RowKit
set_option linter.all false
theorem run_clearr (w : World) (g o n cap : Nat) (cur : Array Value) (hg : w.heap[g]? = some (.cells cur 48 (0, 0))) (hf : o + n * 4 ≤ cur.size) (ty : TypeId) :
    ∃ C : Array Value, (Builtin.clear_ #[110] ty #[.slice (some ⟨g, o, none⟩) n cap]).run Tryz.prog w = .ok (.tuple #[]) (w.setRow g C) ∧ C.size = cur.size ∧ C.toList.take o = cur.toList.take o := by
  by_cases h0 : n = 0
  · subst h0
    refine ⟨cur, ?_, rfl, rfl⟩
    rw [setRow_self w g cur _ (0, 0) hg]
    simp [Builtin.clear_, run_underlying Tryz.underlying110]
  · obtain ⟨i0, hi0, hz0, hzs, hzb⟩ := info_parts infoRct
    obtain ⟨Z, hZ⟩ : ∃ Z : List Value, Z = (Builtin.zeroCells (Value.agg #[.int .i64 0, .int .i64 0, .int .i64 0, .int .i64 0]).cells n).toList := ⟨_, rfl⟩
    have hZl : Z.length = n * 4 := by rw [hZ, Array.length_toList, zero_size]; rfl
    have hZ1 : ∀ v ∈ Z, v.oneCell' = true := by
      intro v hv
      rw [hZ] at hv
      simp only [Builtin.zeroCells, Array.toList_map, List.mem_map] at hv
      obtain ⟨j, _, rfl⟩ := hv
      have hj : j % 4 < 4 := Nat.mod_lt _ (by omega)
      have : ∀ k, k < 4 → ((Value.agg #[.int .i64 0, .int .i64 0, .int .i64 0, .int .i64 0]).cells[k]!).oneCell' = true := by decide
      exact this _ hj
    have hst := run_storeCells_at Tryz.prog g o 48 Z 0 cur w hg (by simpa [hZl] using hf) hZ1
    simp only [Nat.add_zero] at hst
    refine ⟨(cur.toList.take o ++ Z ++ cur.toList.drop (o + Z.length)).toArray, ?_, ?_, ?_⟩
    · obtain ⟨k, rfl⟩ : ∃ k, n = k + 1 := ⟨n - 1, by omega⟩
      simp [Builtin.clear_, run_underlying Tryz.underlying110, zeroValue, typeInfo, hi0, hz0, ← hZ, hst]
    · simp only [List.size_toArray, List.length_append, List.length_take, List.length_drop, Array.length_toList, hZl]; omega
    · rw [List.toList_toArray, List.append_assoc]; exact List.take_left' (by rw [List.length_take, Array.length_toList]; omega)
theorem step_appr {ops : Array Oper} {o : Oper} {a : Act} {w : World} {K : Act → World → Prop} {Q : Exit → Act → World → Prop} {E : Prop}
    (hg : o.guard = none) (d x : Operand) (dT sT : TypeId) (hop : o.op = Op.call { callee := Callee.builtin Builtin.append, args := #[d, x], argTypes := #[dT, sT] })
    (v u : Value) (hd : a.eval d = v) (hx : a.eval x = u) {v' : Value} {w' : World} (hr : (Builtin.append_ #[dT, sT] o.type #[v, u]).run Tryz.prog w = .ok v' w') (hK : K (a.put o.dst v') w') :
    if Region.wanted o (yielded ops a.tmps) = true then Oper.wp Tryz.prog o a w K Q else E := by
  have hw : Region.wanted o (yielded ops a.tmps) = true := by simp [Region.wanted, hg]
  rw [if_pos hw]
  unfold Oper.wp
  simp [execOp, hop, resolve, invoke, builtin, hd, hx, hr, Result.andThen]
  exact hK
theorem wpList_clearr {w : World} {ops : Array Oper} {rest : List Oper} {o : Oper} {a : Act} {Q : Exit → Act → World → Prop} (hgd : o.guard = none) (s : Operand) (T : TypeId)
    (ho : o.op = .call { callee := .builtin .clear, args := #[s], argTypes := #[T] }) (v : Value) (hs : a.eval s = v) (v' : Value) (w' : World)
    (hr : (Builtin.clear_ #[T] o.type #[v]).run Tryz.prog w = .ok v' w') (h : wpList Tryz.prog ops Q rest (a.put o.dst v') w') : wpList Tryz.prog ops Q (o :: rest) a w :=
  wpList_plain hgd fun K hK => by
    unfold Oper.wp
    simp [execOp, ho, resolve, invoke, builtin, hs, hr, Result.andThen]
    exact hK _ _ h
set_option maxRecDepth 100000 in
set_option maxHeartbeats 4000000 in
theorem del_anyr (w : World) (v : Value) (l : List Rct) (i : Nat) (hv : RowR w v l) (hi : i < l.length) (hl : l.length ≤ 4000000000000) :
    Calls Tryz.prog 123 #[v, .int .i64 i, .int .i64 ((i : Int) + 1)] w (InsP 48 4 Rct.cs w v (l.take i ++ l.drop (i + 1))) := by
  have mixed : Tryz.prog.follows .mixedOrders = true := by kernel_rfl
  rcases hv.two with ⟨rfl, rfl⟩ | ⟨g, cap, cur, rfl, _, h1, h2, h3, h4, h5, h6⟩
  · simp at hi
  · obtain ⟨i0, hi0, hz0, hzs, hzb⟩ := info_parts infoRct
    obtain ⟨n, hn⟩ : ∃ n, n = l.length := ⟨_, rfl⟩
    have HN : Hid (n = l.length) := hn
    rw [← hn] at hi hl h3 ⊢
    have HT : Hid (cur.toList.take (l.length * 4) = flatG Rct.cs l) := h6
    clear hn hv h6
    unfold maxLen at h4
    have hdl : (flatG Rct.cs (l.drop (i + 1))).length = (n - (i + 1)) * 4 := by rw [flatG_len Rct.len, List.length_drop, ← HN.out]
    obtain ⟨A, hA⟩ : ∃ A, A = (if cap = i + 1 then (⟨g, 0, none⟩ : Addr) else ⟨g, (i + 1) * 4, none⟩) := ⟨_, rfl⟩
    have hsrc : ∀ j u, (flatG Rct.cs (l.drop (i + 1)))[j]? = some u → w.drew.cell? (A.add j) = some u := by
      intro j u hj
      have hlt := (List.getElem?_eq_some_iff.1 hj).1
      rw [hdl] at hlt
      rw [hA, if_neg (by omega), add_none, cell_row (w := w.drew) h2]
      rw [flatG_drop Rct.len, List.getElem?_drop, ← HT.out, List.getElem?_take] at hj
      split at hj
      · simpa using hj
      · cases hj
    obtain ⟨C1, hC1⟩ : ∃ C : Array Value, C = (cur.toList.take (i * 4) ++ flatG Rct.cs (l.drop (i + 1)) ++ cur.toList.drop (i * 4 + (flatG Rct.cs (l.drop (i + 1))).length)).toArray := ⟨_, rfl⟩
    have hA2 : (if cap = i + 1 then some (⟨g, 0, none⟩ : Addr) else some ⟨g, (i + 1) * 4, none⟩) = some A := by rw [hA]; split <;> rfl
    have hap : ∀ ty c, (Builtin.append_ #[110, 110] ty #[.slice (some ⟨g, 0, none⟩) i cap, .slice (if cap = i + 1 then some (⟨g, 0, none⟩ : Addr) else some ⟨g, (i + 1) * 4, none⟩) (n - (i + 1)) c]).run Tryz.prog w.drew = .ok (.slice (some ⟨g, 0, none⟩) (n - 1) cap) (w.drew.setRow g C1) := fun ty c => by
      have h := run_append_room (P := Tryz.prog) w.drew 110 ty 48 i0 Tryz.underlying110 hi0 g i cap cur h2 A (n - (i + 1)) c (flatG Rct.cs (l.drop (i + 1))) (by rw [hdl, hzs]) hsrc (flatG_one Rct.one _) (by omega) (by rw [hdl, hzs, h5]; omega)
      rw [hzs, ← hC1, show i + (n - (i + 1)) = n - 1 by omega] at h
      rw [hA2]
      exact h
    have hC1s : C1.size = cap * 4 := by
      rw [hC1]
      simp only [List.size_toArray, List.length_append, List.length_take, List.length_drop, Array.length_toList, hdl, h5]; omega
    have hC1t : C1.toList.take ((n - 1) * 4) = flatG Rct.cs (l.take i ++ l.drop (i + 1)) := by
      have e0 : cur.toList.take (i * 4) = flatG Rct.cs (l.take i) := by
        rw [flatG_take Rct.len, ← HT.out, List.take_take, Nat.min_eq_left (by rw [← HN.out]; omega)]
      rw [hC1, List.toList_toArray, e0, flatG_app]
      exact List.take_left' (by rw [List.length_append, hdl, flatG_len Rct.len, List.length_take, ← HN.out, Nat.min_eq_left (by omega)]; omega)
    obtain ⟨W1, hW1⟩ : ∃ W, W = w.drew.setRow g C1 := ⟨_, rfl⟩
    have hg1 : W1.heap[g]? = some (.cells C1 48 (0, 0)) := by rw [hW1]; exact setRow_heap w.drew g cur _ _ _ h2
    have hcl := fun ty c => run_clearr W1 g ((n - 1) * 4) 1 c C1 hg1 (by rw [hC1s]; omega) ty
    have HCL : Hid (∀ ty c, ∃ W2, (Builtin.clear_ #[110] ty #[.slice (some ⟨g, (n - 1) * 4, none⟩) (n - (n - 1)) c]).run Tryz.prog W1 = .ok (.tuple #[]) W2 ∧ InsP 48 4 Rct.cs w (.slice (some ⟨g, 0, none⟩) n cap) (l.take i ++ l.drop (i + 1)) (.returned (.slice (some ⟨g, 0, none⟩) (n - 1) cap)) W2) := (show _ from fun ty c => by
      obtain ⟨C2, k1, k2, k3⟩ := hcl ty c
      rw [show n - (n - 1) = 1 by omega]
      refine ⟨_, k1, _, rfl, RowG.mk Rct.len (by simp [← HN.out]; omega) (Nat.zero_le _) (setRow_heap W1 g _ _ _ _ hg1) (by simp [← HN.out]; omega) (by unfold maxLen; omega) (by rw [k2, hC1s]) ?_, .inl rfl, ?_⟩
      · rw [show (l.take i ++ l.drop (i + 1)).length = n - 1 by simp [← HN.out]; omega, k3, hC1t]
      · rw [hW1]
        exact Mut.setRow (S := fun k => (Value.slice (some ⟨g, 0, none⟩) n cap).ownBlock = some k) (Mut.setRow (S := fun k => (Value.slice (some ⟨g, 0, none⟩) n cap).ownBlock = some k) (Mut.drew (Mut.refl _ w)) (.inl rfl) _) (.inl rfl) _)
    rw [← hW1] at hap
    clear hA2 hA hC1 hC1s hC1t hcl hg1 hsrc hdl hi0 hz0 hzs hzb i0 hW1
    revert HCL
    generalize InsP 48 4 Rct.cs w (.slice (some ⟨g, 0, none⟩) n cap) (l.take i ++ l.drop (i + 1)) = PP
    intro HCL
    obtain ⟨W2, hr, hP⟩ := HCL.out 0 (cap - (n - 1))
    have HP : Hid _ := hP
    clear hP HCL
    have e1 : (i : Int) ≤ (i : Int) + 1 := by omega
    have e2 : (i : Int) + 1 ≤ (n : Int) := by omega
    have e3 : (n : Int) ≤ (cap : Int) := by omega
    have e4 : ((i : Int) == (i : Int) + 1) = false := by simp; omega
    have e5 : ((i : Int) + 1).toNat = i + 1 := by omega
    have e6 : (0 : Int) ≤ (i : Int) + 1 := by omega
    have e7 : ¬ (n = i) := by omega
    have e8 : (i : Int) ≤ (n : Int) := by omega
    have e9 : (i : Int) ≤ (cap : Int) := by omega
    have e10 : ¬ (cap = n - 1) := by omega
    have e11 : ((n - 1 : Nat) : Int) ≤ (n : Int) := by omega
    have e12 : (i : Int) + 1 ≤ (cap : Int) := by omega
    go_enter Tryz.func123, Tryz.ntmps123
    go_wp2
    go_region_law? (refine step_appr rfl _ _ 110 110 rfl (.slice (some ⟨g, 0, none⟩) i cap) (.slice (if cap = i + 1 then some (⟨g, 0, none⟩ : Addr) else some ⟨g, (i + 1) * 4, none⟩) (n - (i + 1)) (cap - (i + 1))) (by simp [Act.eval, Act.put]) (by simp [Act.eval, Act.put]) (hap _ _) ?_)
    all_goals go_wp2
    all_goals first | exact HP.out | (subst_vars; exact HP.out) | (go_ret; exact HP.out)
end Go.Proofs.YtgojnijpjfdocaaGreat
