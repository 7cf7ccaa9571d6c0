/- The contracts of slices.Delete of one thing, slices.Grow of nothing, slices.Concat of one row, and of without. The condition: no more than 4000000000000 of them. · The contracts of slices.Grow of nothing, of slices.Concat of one row, and of without. The condition: no more than 4000000000000 of them. -/
import Derived.Test.YtcjanaldjokllaaGreatQBCBIs
namespace Go.Proofs.YtcjanaldjokllaaGreat
open Go.RowKit
set_option linter.all false
theorem run_clears (w : World) (g o n cap : Nat) (cur : Array Value) (hg : w.heap[g]? = some (.cells cur 147 (0, 0))) (hf : o + n * 2 ≤ cur.size) (ty : TypeId) :
    ∃ C : Array Value, (Builtin.clear_ #[108] ty #[.slice (some ⟨g, o, none⟩) n cap]).run Tryz.prog w = .ok (.tuple #[]) (w.setRow g C) ∧ C.size = cur.size ∧ C.toList.take o = cur.toList.take o := by
  by_cases h0 : n = 0
  · subst h0
    refine ⟨cur, ?_, rfl, rfl⟩
    rw [setRow_self w g cur _ (0, 0) hg]
    simp [Builtin.clear_, run_underlying Tryz.underlying108]
  · obtain ⟨i0, hi0, hz0, hzs, hzb⟩ := info_parts infoSeat
    obtain ⟨Z, hZ⟩ : ∃ Z : List Value, Z = (Builtin.zeroCells (Value.agg #[.pointer none, .int .i64 0]).cells n).toList := ⟨_, rfl⟩
    have hZl : Z.length = n * 2 := by rw [hZ, Array.length_toList, zero_size]; rfl
    have hZ1 : ∀ v ∈ Z, v.oneCell' = true := by
      intro v hv
      rw [hZ] at hv
      simp only [Builtin.zeroCells, Array.toList_map, List.mem_map] at hv
      obtain ⟨j, _, rfl⟩ := hv
      have hj : j % 2 < 2 := Nat.mod_lt _ (by omega)
      have : ∀ k, k < 2 → ((Value.agg #[.pointer none, .int .i64 0]).cells[k]!).oneCell' = true := by decide
      exact this _ hj
    have hst := run_storeCells_at Tryz.prog g o 147 Z 0 cur w hg (by simpa [hZl] using hf) hZ1
    simp only [Nat.add_zero] at hst
    refine ⟨(cur.toList.take o ++ Z ++ cur.toList.drop (o + Z.length)).toArray, ?_, ?_, ?_⟩
    · obtain ⟨k, rfl⟩ : ∃ k, n = k + 1 := ⟨n - 1, by omega⟩
      simp [Builtin.clear_, run_underlying Tryz.underlying108, zeroValue, typeInfo, hi0, hz0, ← hZ, hst]
    · simp only [List.size_toArray, List.length_append, List.length_take, List.length_drop, Array.length_toList, hZl]; omega
    · rw [List.toList_toArray, List.append_assoc]; exact List.take_left' (by rw [List.length_take, Array.length_toList]; omega)
theorem step_apps {ops : Array Oper} {o : Oper} {a : Act} {w : World} {K : Act → World → Prop} {Q : Exit → Act → World → Prop} {E : Prop}
    (hg : o.guard = none) (d x : Operand) (dT sT : TypeId) (hop : o.op = Op.call { callee := Callee.builtin Builtin.append, args := #[d, x], argTypes := #[dT, sT] })
    (v u : Value) (hd : a.eval d = v) (hx : a.eval x = u) {v' : Value} {w' : World} (hr : (Builtin.append_ #[dT, sT] o.type #[v, u]).run Tryz.prog w = .ok v' w') (hK : K (a.put o.dst v') w') :
    if Region.wanted o (yielded ops a.tmps) = true then Oper.wp Tryz.prog o a w K Q else E := by
  have hw : Region.wanted o (yielded ops a.tmps) = true := by simp [Region.wanted, hg]
  rw [if_pos hw]
  unfold Oper.wp
  simp [execOp, hop, resolve, invoke, builtin, hd, hx, hr, Result.andThen]
  exact hK
set_option maxRecDepth 100000 in
set_option maxHeartbeats 4000000 in
theorem del_anys (w : World) (v : Value) (l : List Seat) (i : Nat) (hv : RowS w v l) (hi : i < l.length) (hl : l.length ≤ 4000000000000) :
    Calls Tryz.prog 119 #[v, .int .i64 i, .int .i64 ((i : Int) + 1)] w (InsP 147 2 Seat.cs w v (l.take i ++ l.drop (i + 1))) := by
  have mixed : Tryz.prog.follows .mixedOrders = true := by kernel_rfl
  rcases hv.two with ⟨rfl, rfl⟩ | ⟨g, cap, cur, rfl, _, h1, h2, h3, h4, h5, h6⟩
  · simp at hi
  · obtain ⟨i0, hi0, hz0, hzs, hzb⟩ := info_parts infoSeat
    obtain ⟨n, hn⟩ : ∃ n, n = l.length := ⟨_, rfl⟩
    have HN : Hid (n = l.length) := hn
    rw [← hn] at hi hl h3 ⊢
    have HT : Hid (cur.toList.take (l.length * 2) = flatG Seat.cs l) := h6
    clear hn hv h6
    unfold maxLen at h4
    have hdl : (flatG Seat.cs (l.drop (i + 1))).length = (n - (i + 1)) * 2 := by rw [flatG_len Seat.len, List.length_drop, ← HN.out]
    obtain ⟨A, hA⟩ : ∃ A, A = (if cap = i + 1 then (⟨g, 0, none⟩ : Addr) else ⟨g, (i + 1) * 2, none⟩) := ⟨_, rfl⟩
    have hsrc : ∀ j u, (flatG Seat.cs (l.drop (i + 1)))[j]? = some u → w.drew.cell? (A.add j) = some u := by
      intro j u hj
      have hlt := (List.getElem?_eq_some_iff.1 hj).1
      rw [hdl] at hlt
      rw [hA, if_neg (by omega), add_none, cell_row (w := w.drew) h2]
      rw [flatG_drop Seat.len, List.getElem?_drop, ← HT.out, List.getElem?_take] at hj
      split at hj
      · simpa using hj
      · cases hj
    obtain ⟨C1, hC1⟩ : ∃ C : Array Value, C = (cur.toList.take (i * 2) ++ flatG Seat.cs (l.drop (i + 1)) ++ cur.toList.drop (i * 2 + (flatG Seat.cs (l.drop (i + 1))).length)).toArray := ⟨_, rfl⟩
    have hA2 : (if cap = i + 1 then some (⟨g, 0, none⟩ : Addr) else some ⟨g, (i + 1) * 2, none⟩) = some A := by rw [hA]; split <;> rfl
    have hap : ∀ ty c, (Builtin.append_ #[108, 108] ty #[.slice (some ⟨g, 0, none⟩) i cap, .slice (if cap = i + 1 then some (⟨g, 0, none⟩ : Addr) else some ⟨g, (i + 1) * 2, none⟩) (n - (i + 1)) c]).run Tryz.prog w.drew = .ok (.slice (some ⟨g, 0, none⟩) (n - 1) cap) (w.drew.setRow g C1) := fun ty c => by
      have h := run_append_room (P := Tryz.prog) w.drew 108 ty 147 i0 Tryz.underlying108 hi0 g i cap cur h2 A (n - (i + 1)) c (flatG Seat.cs (l.drop (i + 1))) (by rw [hdl, hzs]) hsrc (flatG_one Seat.one _) (by omega) (by rw [hdl, hzs, h5]; omega)
      rw [hzs, ← hC1, show i + (n - (i + 1)) = n - 1 by omega] at h
      rw [hA2]
      exact h
    have hC1s : C1.size = cap * 2 := by
      rw [hC1]
      simp only [List.size_toArray, List.length_append, List.length_take, List.length_drop, Array.length_toList, hdl, h5]; omega
    have hC1t : C1.toList.take ((n - 1) * 2) = flatG Seat.cs (l.take i ++ l.drop (i + 1)) := by
      have e0 : cur.toList.take (i * 2) = flatG Seat.cs (l.take i) := by
        rw [flatG_take Seat.len, ← HT.out, List.take_take, Nat.min_eq_left (by rw [← HN.out]; omega)]
      rw [hC1, List.toList_toArray, e0, flatG_app]
      exact List.take_left' (by rw [List.length_append, hdl, flatG_len Seat.len, List.length_take, ← HN.out, Nat.min_eq_left (by omega)]; omega)
    obtain ⟨W1, hW1⟩ : ∃ W, W = w.drew.setRow g C1 := ⟨_, rfl⟩
    have hg1 : W1.heap[g]? = some (.cells C1 147 (0, 0)) := by rw [hW1]; exact setRow_heap w.drew g cur _ _ _ h2
    have hcl := fun ty c => run_clears W1 g ((n - 1) * 2) 1 c C1 hg1 (by rw [hC1s]; omega) ty
    have HCL : Hid (∀ ty c, ∃ W2, (Builtin.clear_ #[108] ty #[.slice (some ⟨g, (n - 1) * 2, none⟩) (n - (n - 1)) c]).run Tryz.prog W1 = .ok (.tuple #[]) W2 ∧ InsP 147 2 Seat.cs w (.slice (some ⟨g, 0, none⟩) n cap) (l.take i ++ l.drop (i + 1)) (.returned (.slice (some ⟨g, 0, none⟩) (n - 1) cap)) W2) := (show _ from fun ty c => by
      obtain ⟨C2, k1, k2, k3⟩ := hcl ty c
      rw [show n - (n - 1) = 1 by omega]
      refine ⟨_, k1, _, rfl, RowG.mk Seat.len (by simp [← HN.out]; omega) (Nat.zero_le _) (setRow_heap W1 g _ _ _ _ hg1) (by simp [← HN.out]; omega) (by unfold maxLen; omega) (by rw [k2, hC1s]) ?_, .inl rfl, ?_⟩
      · rw [show (l.take i ++ l.drop (i + 1)).length = n - 1 by simp [← HN.out]; omega, k3, hC1t]
      · rw [hW1]
        exact Mut.setRow (S := fun k => (Value.slice (some ⟨g, 0, none⟩) n cap).ownBlock = some k) (Mut.setRow (S := fun k => (Value.slice (some ⟨g, 0, none⟩) n cap).ownBlock = some k) (Mut.drew (Mut.refl _ w)) (.inl rfl) _) (.inl rfl) _)
    rw [← hW1] at hap
    clear hA2 hA hC1 hC1s hC1t hcl hg1 hsrc hdl hi0 hz0 hzs hzb i0 hW1
    revert HCL
    generalize InsP 147 2 Seat.cs w (.slice (some ⟨g, 0, none⟩) n cap) (l.take i ++ l.drop (i + 1)) = PP
    intro HCL
    obtain ⟨W2, hr, hP⟩ := HCL.out 0 (cap - (n - 1))
    have HP : Hid _ := hP
    clear hP HCL
    have e1 : (i : Int) ≤ (i : Int) + 1 := by omega
    have e2 : (i : Int) + 1 ≤ (n : Int) := by omega
    have e3 : (n : Int) ≤ (cap : Int) := by omega
    have e4 : ((i : Int) == (i : Int) + 1) = false := by simp; omega
    have e5 : ((i : Int) + 1).toNat = i + 1 := by omega
    have e6 : (0 : Int) ≤ (i : Int) + 1 := by omega
    have e7 : ¬ (n = i) := by omega
    have e8 : (i : Int) ≤ (n : Int) := by omega
    have e9 : (i : Int) ≤ (cap : Int) := by omega
    have e10 : ¬ (cap = n - 1) := by omega
    have e11 : ((n - 1 : Nat) : Int) ≤ (n : Int) := by omega
    have e12 : (i : Int) + 1 ≤ (cap : Int) := by omega
    go_enter Tryz.func119, Tryz.ntmps119
    go_wp2
    go_region_law? (refine step_apps rfl _ _ 108 108 rfl (.slice (some ⟨g, 0, none⟩) i cap) (.slice (if cap = i + 1 then some (⟨g, 0, none⟩ : Addr) else some ⟨g, (i + 1) * 2, none⟩) (n - (i + 1)) (cap - (i + 1))) (by simp [Act.eval, Act.put]) (by simp [Act.eval, Act.put]) (hap _ _) ?_)
    all_goals go_wp2
    all_goals first | exact HP.out | (subst_vars; exact HP.out) | (go_ret; exact HP.out)
end Go.Proofs.YtcjanaldjokllaaGreat
namespace Go.Proofs.YtcjanaldjokllaaGreat
open Go.RowKit
set_option linter.all false
set_option maxRecDepth 100000 in
set_option maxHeartbeats 2000000 in
theorem grow_zeros (w : World) : Calls Tryz.prog 140 #[.slice none 0 0, .int .i64 0] w fun e w' => e = .returned (.slice none 0 0) ∧ w' = w := by
  go_enter Tryz.func140, Tryz.ntmps140
  go_wp2
  go_ret
  exact ⟨rfl, rfl⟩
set_option maxRecDepth 100000 in
set_option maxHeartbeats 2000000 in
theorem grow_mores (w : World) (k : Nat) (hk : 0 < k) (hl : k ≤ 4000000000000) : Calls Tryz.prog 140 #[.slice none 0 0, .int .i64 k] w fun e w' => (∃ g cp, e = .returned (.slice (some ⟨g, 0, none⟩) 0 cp) ∧ RowS w' (.slice (some ⟨g, 0, none⟩) 0 cp) [] ∧ w.heap.size ≤ g) ∧ Below w.heap.size w w' := by
  have mixed : Tryz.prog.follows .mixedOrders = true := by kernel_rfl
  obtain ⟨i0, hi0, hz0, hzs, hzb⟩ := info_parts infoSeat
  have hold : (Builtin.firstCells i0.size 0 (.slice none 0 0)).run Tryz.prog w.drew = .ok ([] : List Value).toArray w.drew := run_firstCells_none w.drew _ 0 0 0
  obtain ⟨G, hG⟩ : ∃ G, G = grownCap w k 0 147 := ⟨_, rfl⟩
  obtain ⟨ROW, hROW⟩ : ∃ ROW : Array Value, ROW = ([] : List Value).toArray ++ Builtin.zeroCells (Value.agg #[.pointer none, .int .i64 0]).cells k ++ Builtin.zeroCells (Value.agg #[.pointer none, .int .i64 0]).cells (G - k) := ⟨_, rfl⟩
  obtain ⟨WA, hWA⟩ : ∃ WA, WA = w.drew.alloc (.cells ROW 147) := ⟨_, rfl⟩
  obtain ⟨NB, hNB⟩ : ∃ NB, NB = w.heap.size := ⟨_, rfl⟩
  have hrz : ∀ ty, (Builtin.append_ #[108, 3] ty #[.slice none 0 0, .int .i64 k]).run Tryz.prog w = .ok (.slice (some ⟨NB, 0, none⟩) k G) WA := fun ty => by
    have h := Lib.run_append_grow_zeros w 108 3 ty 147 i0 _ .i64 .i64 Tryz.underlying108 Tryz.underlying3 hi0 hz0 none 0 0 [] hold k (by omega) (by omega) (by omega) (by omega) (by rw [hzb]; omega) (by rw [hzb]; exact growslice_fits (by omega) (by omega))
    simp only [Nat.zero_add] at h
    rw [← hG, ← hROW, ← hWA, ← hNB] at h
    exact h
  have hGn : k ≤ G := by rw [hG]; exact grownCap_ge w _ _ _
  have hGm : G ≤ maxLen := by rw [hG]; exact grownCap_le_maxLen w k 0 _ (by unfold maxLen; omega)
  have hRs : ROW.size = G * 2 := by
    rw [hROW]
    simp only [Array.size_append, List.size_toArray, zero_size]
    simp only [Value.cells]
    simp
    omega
  have HP : Hid (RowS WA (.slice (some ⟨NB, 0, none⟩) 0 G) [] ∧ w.heap.size ≤ NB ∧ Below w.heap.size w WA) := by
    refine ⟨RowG.mk Seat.len rfl (Nat.zero_le _) (by rw [hWA, hNB]; exact heap_alloc_new w.drew _) (Nat.zero_le _) hGm hRs (by simp [flatG]), by omega, ?_⟩
    rw [hWA]
    exact (Below.refl _ _).drew.alloc (Nat.le_refl _) _
  unfold maxLen at hGm
  clear hWA hNB hG hROW hRs hold hi0 hz0 hzs hzb i0
  go_enter Tryz.func140, Tryz.ntmps140
  go_wp2_with (at_builtin; refine wpList_app3 rfl _ _ _ _ rfl _ _ rfl rfl _ _ (hrz _) ?_)
  all_goals go_ret
  all_goals exact ⟨⟨_, _, rfl, HP.out.1, HP.out.2.1⟩, HP.out.2.2⟩
/-- A piece of a row. -/
def VWs (w : World) (v : Value) (l : List Seat) : Prop := ∃ a cp, v = .slice (some a) l.length cp ∧ (∀ j u, (flatG Seat.cs l)[j]? = some u → w.cell? (a.add j) = some u)
theorem VWs.keep {w w' : World} {v : Value} {l : List Seat} (h : VWs w v l) (hb : Below w.heap.size w w') : VWs w' v l := by
  obtain ⟨a, cp, rfl, h1⟩ := h
  refine ⟨a, cp, rfl, fun j u hj => ?_⟩
  have h2 := h1 j u hj
  rw [hb.cell (World.block_lt_of_cell? w _ h2)]
  exact h2
theorem app_rows (W : World) (v x : Value) (m k : List Seat) (h : RowS W v m) (hx : VWs W x k) (hl : m.length + k.length ≤ 4000000000000) (ty : TypeId) :
    ∃ v' w', (Builtin.append_ #[108, 108] ty #[v, x]).run Tryz.prog W = .ok v' w' ∧ RowS w' v' (m ++ k) ∧ (v'.ownBlock = v.ownBlock ∨ v'.ownBlock = some W.heap.size) ∧ Mut (fun g => v.ownBlock = some g) W w' := by
  obtain ⟨i, hi, hz, hsz, hby⟩ := info_parts infoSeat
  obtain ⟨a, cp, rfl, hc⟩ := hx
  obtain ⟨v', w', h1, h2, h3, h4, h5⟩ := run_append_own_at (P := Tryz.prog) W 0 108 ty 147 i _ 2 16 Tryz.underlying108 hi hz hsz hby rfl (by omega) v m.length (flatG Seat.cs m) h a k.length cp (flatG Seat.cs k) (flatG_len Seat.len k) hc (flatG_one Seat.one k) (by unfold maxLen; omega) (by omega) (Nat.zero_le _)
  refine ⟨v', w', h1, ?_, h5, ⟨h3.os, h3.tape, h3.output, h3.size, fun b hb hs => h3.block b hb (fun e => hs e.symm)⟩⟩
  unfold RowS RowG
  rw [flatG_app, List.length_append]
  exact h2
/-- What Grow gives, of either size. -/
theorem grow_anys (w : World) (k : Nat) (hl : k ≤ 4000000000000) : Calls Tryz.prog 140 #[.slice none 0 0, .int .i64 k] w fun e w' => ∃ v, e = .returned v ∧ RowS w' v [] ∧ (∀ g, v.ownBlock = some g → w.heap.size ≤ g) ∧ Below w.heap.size w w' := by
  by_cases h : k = 0
  · subst h
    refine (grow_zeros w).mono ?_
    rintro e w' ⟨rfl, rfl⟩
    exact ⟨_, rfl, RowG.nil _, (fun g hg => by cases hg), Below.refl _ _⟩
  · refine (grow_mores w k (by omega) hl).mono ?_
    rintro e w' ⟨⟨g, cp, rfl, h1, h2⟩, h3⟩
    exact ⟨_, rfl, h1, (fun g' hg => by injection hg with hg; subst hg; exact h2), h3⟩
set_option maxRecDepth 100000 in
set_option maxHeartbeats 4000000 in
theorem concat_ones (w : World) (sb : Nat) (x1 : Value) (l1 : List Seat) (hs : Hid (Own w sb #[x1])) (h1 : Hid (VWs w x1 l1)) (hl : l1.length ≤ 4000000000000) :
    Calls Tryz.prog 120 #[.slice (some ⟨sb, 0, none⟩) 1 1] w fun e w' => ∃ v, e = .returned v ∧ RowS w' v l1 ∧ (∀ g, v.ownBlock = some g → w.heap.size ≤ g) ∧ Below w.heap.size w w' := by
  have mixed : Tryz.prog.follows .mixedOrders = true := by kernel_rfl
  obtain ⟨a1, c1, e1, _⟩ := h1.out
  subst e1
  obtain ⟨n1, hn1⟩ : ∃ n, n = l1.length := ⟨_, rfl⟩
  rw [← hn1] at hs h1 hl
  have cs0 : w.cell? ⟨sb, 0, none⟩ = some (.slice (some a1) n1 c1) := hs.out.cell 0
  have ls := hs.out.lt
  have HL1 : Hid (n1 = l1.length) := hn1
  have HG : Hid (∀ W k, k ≤ 4000000000000 → Calls Tryz.prog 140 #[.slice none 0 0, .int .i64 (k : Nat)] W fun e w' => ∃ v, e = .returned v ∧ RowS w' v [] ∧ (∀ g, v.ownBlock = some g → W.heap.size ≤ g) ∧ Below W.heap.size W w') := fun W k h => grow_anys W k h
  clear hn1 hs
  go_enter Tryz.func120, Tryz.ntmps120
  go_wp2
  go_loop [3, 11] (fun s i => (i = .int .i64 0 ∧ s = .int .i64 0) ∨ (i = .int .i64 1 ∧ s = .int .i64 (n1 : Int))) (fun _ i => 2 - (intOf i).toNat)
  case atStart => exact .inl ⟨rfl, rfl⟩
  case round =>
    rcases hrel with ⟨rfl, rfl⟩ | ⟨rfl, rfl⟩
    · go_wp2
      all_goals exact ⟨.inr ⟨rfl, rfl⟩, by simp [intOf]⟩
    · go_wp2_with (go_at_call 140; refine (HG.out _ n1 hl).mono ?_; rintro e wa ⟨va, rfl, hra, hga, hba⟩; have HRA : Hid _ := hra; clear hra)
      have HAP : Hid (∀ (W : World) (u x : Value) (m k : List Seat), RowS W u m → (∀ g, u.ownBlock = some g → w.heap.size ≤ g) → VWs W x k → m.length + k.length ≤ 4000000000000 → w.heap.size ≤ W.heap.size → ∀ ty, ∃ v' w', (Builtin.append_ #[108, 108] ty #[u, x]).run Tryz.prog W = .ok v' w' ∧ RowS w' v' (m ++ k) ∧ (∀ g, v'.ownBlock = some g → w.heap.size ≤ g) ∧ Below w.heap.size W w') := (show _ from fun W u x m k r1 r2 r3 r4 r5 ty => by
        obtain ⟨v', w', q1, q2, q3, q4⟩ := app_rows W u x m k r1 r3 r4 ty
        refine ⟨v', w', q1, q2, fun g hg => ?_, q4.to_below r5 r2⟩
        rcases q3 with q3 | q3
        · exact r2 g (q3.symm.trans hg)
        · rw [q3] at hg; injection hg with hg; omega)
      clear HG
      go_loopw [6, 27] (fun u v w' => ∃ m, ((v = .int .i64 0 ∧ m = []) ∨ (v = .int .i64 1 ∧ m = l1)) ∧ Hid (RowS w' u m ∧ (∀ g, u.ownBlock = some g → w.heap.size ≤ g)) ∧ Below w.heap.size w w') (fun _ v _ => 2 - (intOf v).toNat)
      case atStart => exact ⟨[], .inl ⟨rfl, rfl⟩, (show Hid _ from ⟨HRA.out, hga⟩), hba⟩
      case round =>
        obtain ⟨m, hm, hR, hB⟩ := hrel
        have zB := hB.size
        have y0 := (hB.cell (p := ⟨sb, 0, none⟩) ls).trans cs0
        rcases hm with ⟨rfl, rfl⟩ | ⟨rfl, rfl⟩
        · go_wp2_with (at_builtin; obtain ⟨v', wb, hr, q1, q2, q3⟩ := HAP.out _ _ _ _ _ hR.out.1 hR.out.2 (h1.out.keep hB) (by have := HL1.out; simp; omega) zB _; refine wpList_app3 rfl _ _ _ _ rfl _ _ rfl rfl _ wb hr ?_; have Q1 : Hid _ := And.intro q1 q2; clear q1 q2 hr)
          all_goals exact ⟨⟨l1, .inr ⟨rfl, rfl⟩, Q1, hB.trans q3⟩, by simp [intOf]⟩
        · go_wp2
          all_goals go_ret
          all_goals exact ⟨_, rfl, hR.out.1, hR.out.2, hB⟩
theorem RowG.vws {w : World} {g n cap : Nat} {l : List Seat} (h : RowS w (.slice (some ⟨g, 0, none⟩) n cap) l) : VWs w (.slice (some ⟨g, 0, none⟩) n cap) l := by
  rcases h.two with ⟨h, _⟩ | ⟨g', cap', cur, e, _, _, h2, _, _, _, h6⟩
  · cases h
  · simp only [Value.slice.injEq, Option.some.injEq, Addr.mk.injEq] at e
    obtain ⟨⟨rfl, _⟩, rfl, rfl⟩ := e
    refine ⟨_, _, rfl, fun j u hj => ?_⟩
    rw [add_none, Nat.zero_add, cell_row h2]
    rw [← h6, List.getElem?_take] at hj
    split at hj
    · simpa using hj
    · cases hj
set_option maxRecDepth 100000 in
set_option maxHeartbeats 4000000 in
theorem wo_anys (w : World) (v : Value) (l : List Seat) (i : Nat) (hv : RowS w v l) (hi : i < l.length) (hl : l.length ≤ 4000000000000) :
    Calls Tryz.prog 95 #[v, .int .i64 i] w (WoP 147 2 Seat.cs w v (l.take i ++ l.drop (i + 1))) := by
  have mixed : Tryz.prog.follows .mixedOrders = true := by kernel_rfl
  have HD : Hid (Calls Tryz.prog 119 #[v, .int .i64 i, .int .i64 ((i : Int) + 1)] w (InsP 147 2 Seat.cs w v (l.take i ++ l.drop (i + 1)))) := del_anys w v l i hv hi hl
  have hll : (l.take i ++ l.drop (i + 1)).length ≤ 4000000000000 := by simp; omega
  have HC : Hid (∀ W sb x, Own W sb #[x] → VWs W x (l.take i ++ l.drop (i + 1)) → Calls Tryz.prog 120 #[.slice (some ⟨sb, 0, none⟩) 1 1] W fun e w' => ∃ v, e = .returned v ∧ RowS w' v (l.take i ++ l.drop (i + 1)) ∧ (∀ g, v.ownBlock = some g → W.heap.size ≤ g) ∧ Below W.heap.size W w') := fun W sb x h1 h2 => concat_ones W sb x _ h1 h2 hll
  clear hll
  have hw : IntKind.i64.wrap ((i : Int) + 1) = (i : Int) + 1 := by rw [IntKind.wrap_i64]; omega
  have hvb : ∃ a n c, v = .slice (some a) n c := by
    rcases hv.two with ⟨rfl, rfl⟩ | ⟨g, cap, cur, rfl, _⟩
    · simp at hi
    · exact ⟨_, _, _, rfl⟩
  clear hi hl hv
  generalize l.take i ++ l.drop (i + 1) = m at *
  obtain ⟨q, n, c, rfl⟩ := hvb
  go_enter Tryz.func95, Tryz.ntmps95
  go_wp2_with (first
    | (go_at_call 119; refine HD.out.mono ?_; rintro e wa ⟨va, rfl, k1, k2, k3⟩; have K1 : Hid (RowS wa va m) := k1; have K2 : Hid (va.ownBlock = (Value.slice (some q) n c).ownBlock ∨ ∃ g, va.ownBlock = some g ∧ w.heap.size ≤ g) := k2; have K3 : Hid (Mut (fun k => (Value.slice (some q) n c).ownBlock = some k) w wa) := k3; clear k3; rcases k1.two with ⟨rfl, hm⟩ | ⟨g, cp, cur, rfl, x1, x2, x3, x4, x5, x6⟩; (· exfalso; rcases k2 with k2 | ⟨_, k2, _⟩; cases k2; cases k2); clear k2 x3 x6)
    | (go_at_call 120; refine (HC.out _ _ _ (by with_reducible (repeat' first | assumption | refine Own.drew ?_ | refine Own.drewN ?_ _ | (refine Own.at ?_; first | rfl | (simp; done)) | refine Own.past ?_ _)) (VWs.keep (RowG.vws K1.out) zqb)).mono ?_; rintro e wb ⟨vb, rfl, r1, r2, r3⟩; have R1 : Hid (RowS wb vb m) := r1; have R2 : Hid (∀ g, vb.ownBlock = some g → wa.heap.size ≤ g) := (show _ from fun g hg => Nat.le_trans (by simp) (r2 g hg)); have R3 : Below wa.heap.size wa wb := bup zqb r3; clear r1 r2 r3))
  · go_ret
    exact InsP.wo ⟨_, rfl, K1.out, K2.out, K3.out⟩
  · go_ret
    exact ⟨_, rfl, R1.out, fun g hg => .inr (Nat.le_trans K3.out.size (R2.out g hg)), K3.out.below R3⟩
end Go.Proofs.YtcjanaldjokllaaGreat
