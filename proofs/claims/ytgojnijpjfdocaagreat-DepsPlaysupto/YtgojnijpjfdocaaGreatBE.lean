/- Seats and rectangles as rows hold them. -/
import Derived.Test.YtgojnijpjfdocaaGreatBM
import Derived.Maps.AppendAt
namespace Go.Proofs.YtgojnijpjfdocaaGreat
open Go.RowKit
set_option linter.all false
/-- A seat: where its looker lies, and how many of its rectangles there are. -/
structure Seat where
  g : Nat
  n : Int
structure Rct where
  t : Int
  l : Int
  b : Int
  r : Int
def Seat.cs (x : Seat) : List Value := [.pointer (some ⟨x.g, 0, none⟩), .int .i64 x.n]
def Rct.cs (x : Rct) : List Value := [.int .i64 x.t, .int .i64 x.l, .int .i64 x.b, .int .i64 x.r]
theorem Seat.len (x : Seat) : x.cs.length = 2 := rfl
theorem Rct.len (x : Rct) : x.cs.length = 4 := rfl
theorem Seat.one (x : Seat) : ∀ u ∈ x.cs, u.oneCell' = true := by
  intro u hu
  simp [Seat.cs] at hu
  rcases hu with rfl | rfl <;> rfl
theorem Rct.one (x : Rct) : ∀ u ∈ x.cs, u.oneCell' = true := by
  intro u hu
  simp [Rct.cs] at hu
  rcases hu with rfl | rfl | rfl | rfl <;> rfl
theorem infoSeat : (Tryz.prog.info? 115).map (fun i => (i.zero, i.size, i.bytes)) = some (some (.agg #[.pointer none, .int .i64 0]), 2, 16) := by kernel_rfl
theorem infoRct : (Tryz.prog.info? 48).map (fun i => (i.zero, i.size, i.bytes)) = some (some (.agg #[.int .i64 0, .int .i64 0, .int .i64 0, .int .i64 0]), 4, 32) := by kernel_rfl
theorem infoSeatZ : (Tryz.prog.info? 115).map (·.size) = some 2 := by kernel_rfl
theorem infoRctZ : (Tryz.prog.info? 48).map (·.size) = some 4 := by kernel_rfl
abbrev RowS (w : World) (v : Value) (l : List Seat) : Prop := RowG 115 2 Seat.cs w 0 v l
abbrev RowR (w : World) (v : Value) (l : List Rct) : Prop := RowG 48 4 Rct.cs w 0 v l
theorem one_news {α : Type} {cs : α → List Value} {w : World} {vb : Nat} {x : α} {T : TypeId} (h : w.heap[vb]? = some (.cells (cs x).toArray T (0, 0))) : ∀ j u, (cs x)[j]? = some u → w.cell? ((⟨vb, 0, none⟩ : Addr).add j) = some u := by
  intro j u hj
  rw [add_none, Nat.zero_add, cell_row h]
  simpa using hj
theorem wpList_app3 {w : World} {ops : Array Oper} {rest : List Oper} {o : Oper} {a : Act} {Q : Exit → Act → World → Prop} (hgd : o.guard = none) (s x : Operand) (T1 T2 : TypeId)
    (ho : o.op = .call { callee := .builtin .append, args := #[s, x], argTypes := #[T1, T2] }) (v xv : Value) (hs : a.eval s = v) (hx : a.eval x = xv) (v' : Value) (w' : World)
    (hr : (Builtin.append_ #[T1, T2] o.type #[v, xv]).run Tryz.prog w = .ok v' w') (h : wpList Tryz.prog ops Q rest (a.put o.dst v') w') : wpList Tryz.prog ops Q (o :: rest) a w :=
  wpList_plain hgd fun K hK => by
    unfold Oper.wp execOp
    simp only [ho, resolve, invoke, builtin, Sem.run_bind, Sem.run_pure, Result.andThen_ok, List.map_toArray, List.map_cons, List.map_nil, hs, hx, hr]
    exact hK _ _ h
/-- What a row is turned to: it lies where it lay, or in a new block. -/
def InsP {α : Type} (E : TypeId) (sz : Nat) (cs : α → List Value) (w : World) (v : Value) (l' : List α) (e : Ending) (w' : World) : Prop := ∃ v', e = .returned v' ∧ RowG E sz cs w' 0 v' l' ∧ (v'.ownBlock = v.ownBlock ∨ ∃ g, v'.ownBlock = some g ∧ w.heap.size ≤ g) ∧ Mut (fun k => v.ownBlock = some k) w w'
def WoP {α : Type} (E : TypeId) (sz : Nat) (cs : α → List Value) (w : World) (v : Value) (l' : List α) (e : Ending) (w' : World) : Prop := ∃ v', e = .returned v' ∧ RowG E sz cs w' 0 v' l' ∧ (∀ g, v'.ownBlock = some g → v.ownBlock = some g ∨ w.heap.size ≤ g) ∧ Mut (fun k => v.ownBlock = some k) w w'
theorem InsP.wo {α : Type} {E : TypeId} {sz : Nat} {cs : α → List Value} {w : World} {v : Value} {l' : List α} {e : Ending} {w' : World} (h : InsP E sz cs w v l' e w') : WoP E sz cs w v l' e w' := by
  obtain ⟨v', e1, h1, h2, h3⟩ := h
  refine ⟨v', e1, h1, fun g hg => ?_, h3⟩
  rcases h2 with q | ⟨g', q, r⟩
  · exact .inl (q.symm.trans hg)
  · rw [q] at hg; injection hg with hg; subst hg; exact .inr r
end Go.Proofs.YtgojnijpjfdocaaGreat
