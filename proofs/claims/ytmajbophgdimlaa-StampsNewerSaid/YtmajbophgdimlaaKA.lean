/- Lists and maps of pointers, at the operations of a walk. -/
import Derived.Test.YtmajbophgdimlaaKP
import Derived.Test.YtmajbophgdimlaaERp
import Derived.Deep.AppendLies
import Derived.WalkMore
import Derived.OwnWalk
import Derived.Maps.AppendAt
namespace Go.Proofs.Ytmajbophgdimlaa
open Go.RowKit
set_option linter.all false
theorem one_news {α : Type} {cs : α → List Value} {w : World} {vb : Nat} {x : α} {T : TypeId} (h : w.heap[vb]? = some (.cells (cs x).toArray T (0, 0))) : ∀ j u, (cs x)[j]? = some u → w.cell? ((⟨vb, 0, none⟩ : Addr).add j) = some u := by
  intro j u hj
  rw [add_none, Nat.zero_add, cell_row h]
  simpa using hj
theorem wpList_app3 {w : World} {ops : Array Oper} {rest : List Oper} {o : Oper} {a : Act} {Q : Exit → Act → World → Prop} (hgd : o.guard = none) (s x : Operand) (T1 T2 : TypeId)
    (ho : o.op = .call { callee := .builtin .append, args := #[s, x], argTypes := #[T1, T2] }) (v xv : Value) (hs : a.eval s = v) (hx : a.eval x = xv) (v' : Value) (w' : World)
    (hr : (Builtin.append_ #[T1, T2] o.type #[v, xv]).run Try.prog w = .ok v' w') (h : wpList Try.prog ops Q rest (a.put o.dst v') w') : wpList Try.prog ops Q (o :: rest) a w :=
  wpList_plain hgd fun K hK => by
    unfold Oper.wp execOp
    simp only [ho, resolve, invoke, builtin, Sem.run_bind, Sem.run_pure, Result.andThen_ok, List.map_toArray, List.map_cons, List.map_nil, hs, hx, hr]
    exact hK _ _ h
theorem step_apps {ops : Array Oper} {o : Oper} {a : Act} {w : World} {K : Act → World → Prop} {Q : Exit → Act → World → Prop} {E : Prop}
    (hg : o.guard = none) (d x : Operand) (dT sT : TypeId) (hop : o.op = Op.call { callee := Callee.builtin Builtin.append, args := #[d, x], argTypes := #[dT, sT] })
    (v u : Value) (hd : a.eval d = v) (hx : a.eval x = u) {v' : Value} {w' : World} (hr : (Builtin.append_ #[dT, sT] o.type #[v, u]).run Try.prog w = .ok v' w') (hK : K (a.put o.dst v') w') :
    if Region.wanted o (yielded ops a.tmps) = true then Oper.wp Try.prog o a w K Q else E := by
  have hw : Region.wanted o (yielded ops a.tmps) = true := by simp [Region.wanted, hg]
  rw [if_pos hw]
  unfold Oper.wp
  simp [execOp, hop, resolve, invoke, builtin, hd, hx, hr, Result.andThen]
  exact hK
theorem app_one {α : Type} {E T : TypeId} {sz by' : Nat} {cs : α → List Value} {i : TypeInfo} {z : Value} (hT : Try.prog.underlying T = some (.slice E)) (hi : Try.prog.info? E = some i) (hz : i.zero = some z) (hs : i.size = sz) (hb : i.bytes = by') (hzs : z.cells.size = sz) (hsz : 0 < sz) (hc : ∀ x, (cs x).length = sz) (h1 : ∀ x, ∀ u ∈ cs x, u.oneCell' = true)
    {w : World} {base : Nat} {v : Value} {l : List α} (h : RowG E sz cs w base v l) {vb : Nat} {x : α} {T' : TypeId} (hx : w.heap[vb]? = some (.cells (cs x).toArray T' (0, 0))) (hw : base ≤ w.heap.size) (hl : (l.length + 1) * by' ≤ 140737488355328) (hm : l.length + 1 ≤ 9223372036854775807) (ty : TypeId) :
    ∃ v' w', (Builtin.append_ #[T, T] ty #[v, .slice (some ⟨vb, 0, none⟩) 1 1]).run Try.prog w = .ok v' w' ∧ RowG E sz cs w' base v' (l ++ [x]) ∧ Below base w w' ∧ (v'.ownBlock = v.ownBlock ∨ v'.ownBlock = some w.heap.size) ∧ Mut (fun b => v.ownBlock = some b) w w' := by
  obtain ⟨v', w', h2, h3, h4, h5, h6⟩ := run_append_own_at (P := Try.prog) w base T ty E i z sz by' hT hi hz hs hb hzs hsz v l.length (flatG cs l) h ⟨vb, 0, none⟩ 1 1 (cs x) (by rw [hc x, Nat.one_mul]) (one_news hx) (h1 x) (by unfold maxLen; omega) hl hw
  refine ⟨v', w', h2, ?_, ⟨h4.os, h4.tape, h4.output, h4.size, fun b hb => h4.block b (by omega) (fun q => ?_)⟩, h6, ⟨h4.os, h4.tape, h4.output, h4.size, fun b hb hs => h4.block b hb (fun q => hs q.symm)⟩⟩
  · unfold RowG
    rw [flatG_app, flatG_sing, List.length_append]
    exact h3
  · have := (h.lt b q.symm).1
    omega
theorem RowG.view {α : Type} {E : TypeId} {sz : Nat} {cs : α → List Value} {w : World} {base : Nat} {v : Value} {l : List α} (hc : ∀ x, (cs x).length = sz) (h : RowG E sz cs w base v l) : ∃ q cap, v = .slice q l.length cap ∧ l.length ≤ cap ∧ cap ≤ 9223372036854775807 ∧ (0 < l.length → ∃ g, q = some ⟨g, 0, none⟩ ∧ g < w.heap.size ∧ ∀ i x, l[i]? = some x → ∀ j u, (cs x)[j]? = some u → w.cell? ⟨g, i * sz + j, none⟩ = some u) := by
  rcases h.two with ⟨rfl, rfl⟩ | ⟨g, cap, cur, rfl, _, h1, h2, h3, h4, h5, h6⟩
  · exact ⟨none, 0, rfl, Nat.le_refl _, Nat.zero_le _, fun q => absurd q (by simp)⟩
  · exact ⟨_, cap, rfl, h3, by unfold maxLen at h4; omega, fun _ => ⟨g, rfl, h1, fun i x hi j u hu => row_cellsG hc h2 h6 i x j u hi hu⟩⟩
theorem heap_at {W : World} {o : Obj} {n : Nat} (h : n = W.heap.size) : (W.alloc o).heap[n]? = some o := by subst h; exact heap_alloc_new _ _
theorem step_appx {ops : Array Oper} {o : Oper} {a : Act} {w : World} {K : Act → World → Prop} {Q : Exit → Act → World → Prop} {E : Prop} {Φ : Value → World → Prop}
    (hg : o.guard = none) (d x : Operand) (dT sT : TypeId) (hop : o.op = Op.call { callee := Callee.builtin Builtin.append, args := #[d, x], argTypes := #[dT, sT] })
    (v u : Value) (hd : a.eval d = v) (hx : a.eval x = u) (H : ∀ ty, ∃ v' w', (Builtin.append_ #[dT, sT] ty #[v, u]).run Try.prog w = .ok v' w' ∧ Φ v' w') (hK : ∀ v' w', Φ v' w' → K (a.put o.dst v') w') :
    if Region.wanted o (yielded ops a.tmps) = true then Oper.wp Try.prog o a w K Q else E := by
  obtain ⟨v', w', hr, hq⟩ := H o.type
  exact step_apps hg d x dT sT hop v u hd hx hr (hK v' w' hq)
theorem wpList_appx {w : World} {ops : Array Oper} {rest : List Oper} {o : Oper} {a : Act} {Q : Exit → Act → World → Prop} {Φ : Value → World → Prop} (hgd : o.guard = none) (s x : Operand) (T1 T2 : TypeId)
    (ho : o.op = .call { callee := .builtin .append, args := #[s, x], argTypes := #[T1, T2] }) (v xv : Value) (hs : a.eval s = v) (hx : a.eval x = xv)
    (H : ∀ ty, ∃ v' w', (Builtin.append_ #[T1, T2] ty #[v, xv]).run Try.prog w = .ok v' w' ∧ Φ v' w') (h : ∀ v' w', Φ v' w' → wpList Try.prog ops Q rest (a.put o.dst v') w') : wpList Try.prog ops Q (o :: rest) a w := by
  obtain ⟨v', w', hr, hq⟩ := H o.type
  exact wpList_app3 hgd s x T1 T2 ho v xv hs hx v' w' hr (h v' w' hq)
theorem RowG.sl {α : Type} {E : TypeId} {sz : Nat} {cs : α → List Value} {w : World} {base : Nat} {v : Value} {l : List α} (h : RowG E sz cs w base v l) : ∃ q n c, v = .slice q n c := by
  rcases h.two with ⟨rfl, rfl⟩ | ⟨g, cap, cur, rfl, _⟩ <;> exact ⟨_, _, _, rfl⟩
theorem RangeF.left_eq {w : World} {b r n : Nat} {f : Int → Int → Value} {K : List Cl} {cnt : Nat} (h : RangeF w b r n f K cnt) : w.rangeLeft b r = cnt := by
  obtain ⟨D, left, h1, _⟩ := h
  exact h1.left_eq
section
variable {w : World} {ops : Array Oper} {rest : List Oper} {o : Oper} {a : Act} {Q : Exit → Act → World → Prop}
theorem wpList_rangeF (hg : o.guard = none) (m : Operand) (t e : TypeId) (hop : o.op = Op.range t m) {b n : Nat} {f : Int → Int → Value} (hm : a.eval m = .map (some b)) (h : MapF w b n f) (ht : Try.prog.underlying t = some (.map 30 e))
    (hK : ∀ w' cnt, RangeF w' b w.heap.size n f [] cnt → Below w.heap.size w w' → w'.heap.size = w.heap.size + 1 → wpList Try.prog ops Q rest (a.put o.dst (.pointer (some ⟨w.heap.size, 0, none⟩))) w') : wpList Try.prog ops Q (o :: rest) a w := by
  refine wpList_plain hg fun K' hK' => ?_
  obtain ⟨w', cnt, hrun, r1, r2, r3⟩ := h.range ht
  unfold Oper.wp
  simp [execOp, hop, hm, hrun, Result.andThen]
  exact hK' _ _ (hK w' cnt r1 r2 r3)
theorem wpList_nextF (hg : o.guard = none) (it : Operand) (hop : o.op = Op.next it false) {b r n : Nat} {f : Int → Int → Value} {K : List Cl} {cnt : Nat} (hit : a.eval it = .pointer (some ⟨r, 0, none⟩)) (h : RangeF w b r n f K cnt)
    (hDone : (∀ x y, I64 x → I64 y → f x y ≠ nilS → (⟨x, y⟩ : Cl) ∈ K) → wpList Try.prog ops Q rest (a.put o.dst (.tuple #[.bool false])) w)
    (hMore : ∀ x y w' cnt', I64 x → I64 y → (⟨x, y⟩ : Cl) ∉ K → f x y ≠ nilS → RangeF w' b r n f (K ++ [⟨x, y⟩]) cnt' → cnt' < cnt → Mut (fun k => k = r) w w' → w'.heap.size = w.heap.size → (Instr.entry (.pointer (some ⟨r, 0, none⟩))).run Try.prog w' = .ok (.tuple #[.agg #[.int .i64 x, .int .i64 y], f x y]) w' → wpList Try.prog ops Q rest (a.put o.dst (.tuple #[.bool true, .agg #[.int .i64 x, .int .i64 y], f x y])) w') : wpList Try.prog ops Q (o :: rest) a w := by
  refine wpList_plain hg fun K' hK' => ?_
  unfold Oper.wp
  rcases h.next o.type with ⟨h0, hrun⟩ | ⟨x, y, w', cnt', hx, hy, hn, hf, hrun, hrg, hlt, hm, hsz, hen⟩
  · simp [execOp, hop, hit, hrun, Result.andThen]
    exact hK' _ _ (hDone h0)
  · simp [execOp, hop, hit, hrun, Result.andThen]
    exact hK' _ _ (hMore x y w' cnt' hx hy hn hf hrg hlt hm hsz hen)
end
theorem RangeF.nodup {w : World} {b r n : Nat} {f : Int → Int → Value} {K : List Cl} {cnt : Nat} (h : RangeF w b r n f K cnt) : K.Nodup := by
  obtain ⟨D, left, h1, h2, h3, h4, h5, h6⟩ := h
  exact h5
theorem RangeF.told {w : World} {b r n : Nat} {f : Int → Int → Value} {K : List Cl} {cnt : Nat} (h : RangeF w b r n f K cnt) : ∀ k ∈ K, f k.r k.c ≠ nilS ∧ I64 k.r ∧ I64 k.c := by
  obtain ⟨D, left, h1, h2, h3, h4, h5, h6⟩ := h
  exact h6
end Go.Proofs.Ytmajbophgdimlaa
