/- The contracts of slices.Delete of one thing, slices.Grow of nothing, slices.Concat of one row, and of without. The condition: no more than 3518437208883 of them. -/
import Derived.Test.YtgojnijpjfdocaaGreatBIf
namespace Go.Proofs.YtgojnijpjfdocaaGreat
open Go.RowKit
set_option linter.all false
theorem run_clearf (w : World) (g o n cap : Nat) (cur : Array Value) (hg : w.heap[g]? = some (.cells cur 50 (0, 0))) (hf : o + n * 5 ≤ cur.size) (ty : TypeId) :
    ∃ C : Array Value, (Builtin.clear_ #[30] ty #[.slice (some ⟨g, o, none⟩) n cap]).run Tryz.prog w = .ok (.tuple #[]) (w.setRow g C) ∧ C.size = cur.size ∧ C.toList.take o = cur.toList.take o := by
  by_cases h0 : n = 0
  · subst h0
    refine ⟨cur, ?_, rfl, rfl⟩
    rw [setRow_self w g cur _ (0, 0) hg]
    simp [Builtin.clear_, run_underlying Tryz.underlying30]
  · obtain ⟨i0, hi0, hz0, hzs, hzb⟩ := info_parts infoRf
    obtain ⟨Z, hZ⟩ : ∃ Z : List Value, Z = (Builtin.zeroCells (Value.agg #[.bool false, .int .i64 0, .int .i64 0, .int .i64 0, .int .i64 0]).cells n).toList := ⟨_, rfl⟩
    have hZl : Z.length = n * 5 := by rw [hZ, Array.length_toList, zero_size]; rfl
    have hZ1 : ∀ v ∈ Z, v.oneCell' = true := by
      intro v hv
      rw [hZ] at hv
      simp only [Builtin.zeroCells, Array.toList_map, List.mem_map] at hv
      obtain ⟨j, _, rfl⟩ := hv
      have hj : j % 5 < 5 := Nat.mod_lt _ (by omega)
      have : ∀ k, k < 5 → ((Value.agg #[.bool false, .int .i64 0, .int .i64 0, .int .i64 0, .int .i64 0]).cells[k]!).oneCell' = true := by decide
      exact this _ hj
    have hst := run_storeCells_at Tryz.prog g o 50 Z 0 cur w hg (by simpa [hZl] using hf) hZ1
    simp only [Nat.add_zero] at hst
    refine ⟨(cur.toList.take o ++ Z ++ cur.toList.drop (o + Z.length)).toArray, ?_, ?_, ?_⟩
    · obtain ⟨k, rfl⟩ : ∃ k, n = k + 1 := ⟨n - 1, by omega⟩
      simp [Builtin.clear_, run_underlying Tryz.underlying30, zeroValue, typeInfo, hi0, hz0, ← hZ, hst]
    · simp only [List.size_toArray, List.length_append, List.length_take, List.length_drop, Array.length_toList, hZl]; omega
    · rw [List.toList_toArray, List.append_assoc]; exact List.take_left' (by rw [List.length_take, Array.length_toList]; omega)
theorem step_appf {ops : Array Oper} {o : Oper} {a : Act} {w : World} {K : Act → World → Prop} {Q : Exit → Act → World → Prop} {E : Prop}
    (hg : o.guard = none) (d x : Operand) (dT sT : TypeId) (hop : o.op = Op.call { callee := Callee.builtin Builtin.append, args := #[d, x], argTypes := #[dT, sT] })
    (v u : Value) (hd : a.eval d = v) (hx : a.eval x = u) {v' : Value} {w' : World} (hr : (Builtin.append_ #[dT, sT] o.type #[v, u]).run Tryz.prog w = .ok v' w') (hK : K (a.put o.dst v') w') :
    if Region.wanted o (yielded ops a.tmps) = true then Oper.wp Tryz.prog o a w K Q else E := by
  have hw : Region.wanted o (yielded ops a.tmps) = true := by simp [Region.wanted, hg]
  rw [if_pos hw]
  unfold Oper.wp
  simp [execOp, hop, resolve, invoke, builtin, hd, hx, hr, Result.andThen]
  exact hK
theorem wpList_clearf {w : World} {ops : Array Oper} {rest : List Oper} {o : Oper} {a : Act} {Q : Exit → Act → World → Prop} (hgd : o.guard = none) (s : Operand) (T : TypeId)
    (ho : o.op = .call { callee := .builtin .clear, args := #[s], argTypes := #[T] }) (v : Value) (hs : a.eval s = v) (v' : Value) (w' : World)
    (hr : (Builtin.clear_ #[T] o.type #[v]).run Tryz.prog w = .ok v' w') (h : wpList Tryz.prog ops Q rest (a.put o.dst v') w') : wpList Tryz.prog ops Q (o :: rest) a w :=
  wpList_plain hgd fun K hK => by
    unfold Oper.wp
    simp [execOp, ho, resolve, invoke, builtin, hs, hr, Result.andThen]
    exact hK _ _ h
end Go.Proofs.YtgojnijpjfdocaaGreat
