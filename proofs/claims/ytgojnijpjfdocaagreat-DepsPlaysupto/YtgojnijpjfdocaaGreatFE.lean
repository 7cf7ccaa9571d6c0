/- The law's cells and edges, at lists that are the same: true; equality of edges. New memory alone is made. -/
import Derived.Test.YtgojnijpjfdocaaGreatFP
namespace Go.Proofs.YtgojnijpjfdocaaGreat
open Go.RowKit
set_option linter.all false
/-- A list that is read. -/
def VL {α : Type} (sz : Nat) (cs : α → List Value) (w : World) (v : Value) (l : List α) : Prop := ∃ q cap, v = .slice q l.length cap ∧ l.length ≤ cap ∧ cap ≤ 9223372036854775807 ∧ (0 < l.length → ∃ g, q = some ⟨g, 0, none⟩ ∧ g < w.heap.size ∧ ∀ i x, l[i]? = some x → ∀ j u, (cs x)[j]? = some u → w.cell? ⟨g, i * sz + j, none⟩ = some u)
theorem RowG.vl {α : Type} {E : TypeId} {sz : Nat} {cs : α → List Value} {w : World} {base : Nat} {v : Value} {l : List α} (hc : ∀ x, (cs x).length = sz) (h : RowG E sz cs w base v l) : VL sz cs w v l := RowG.view hc h
theorem VL.keep {α : Type} {sz : Nat} {cs : α → List Value} {w w' : World} {v : Value} {l : List α} (h : VL sz cs w v l) (hb : Below w.heap.size w w') : VL sz cs w' v l := by
  obtain ⟨q, cap, h1, h2, h3, h4⟩ := h
  refine ⟨q, cap, h1, h2, h3, fun h0 => ?_⟩
  obtain ⟨g, k1, k2, k3⟩ := h4 h0
  exact ⟨g, k1, Nat.lt_of_lt_of_le k2 hb.size, fun i x hi j u hu => (hb.cell (p := ⟨g, i * sz + j, none⟩) k2).trans (k3 i x hi j u hu)⟩
theorem eqSCl (x : Cl) (w : World) : (binOp .eql 33 (.agg #[.int .i64 x.r, .int .i64 x.c]) (.agg #[.int .i64 x.r, .int .i64 x.c])).run Tryz.prog w = .ok (.bool true) w := by
  rw [run_eql_struct, run_equalIn_agg w 9999 33 _ _ (by kernel_rfl) (by kernel_rfl)]
  go_simp
theorem neSCl (x : Cl) (w : World) : (binOp .neq 33 (.agg #[.int .i64 x.r, .int .i64 x.c]) (.agg #[.int .i64 x.r, .int .i64 x.c])).run Tryz.prog w = .ok (.bool false) w := by
  rw [run_neq_struct, run_equalIn_agg w 9999 33 _ _ (by kernel_rfl) (by kernel_rfl)]
  go_simp
theorem eqSEd (x : Ed) (w : World) : (binOp .eql 52 (.agg #[.int .i64 x.r, .int .i64 x.c, .bool x.f.m, .int .i64 x.f.t, .int .i64 x.f.l, .int .i64 x.f.b, .int .i64 x.f.q]) (.agg #[.int .i64 x.r, .int .i64 x.c, .bool x.f.m, .int .i64 x.f.t, .int .i64 x.f.l, .int .i64 x.f.b, .int .i64 x.f.q])).run Tryz.prog w = .ok (.bool true) w := by
  rw [run_eql_struct, run_equalIn_agg w 9999 52 _ _ (by kernel_rfl) (by kernel_rfl)]
  go_simp
theorem neSEd (x : Ed) (w : World) : (binOp .neq 52 (.agg #[.int .i64 x.r, .int .i64 x.c, .bool x.f.m, .int .i64 x.f.t, .int .i64 x.f.l, .int .i64 x.f.b, .int .i64 x.f.q]) (.agg #[.int .i64 x.r, .int .i64 x.c, .bool x.f.m, .int .i64 x.f.t, .int .i64 x.f.l, .int .i64 x.f.b, .int .i64 x.f.q])).run Tryz.prog w = .ok (.bool false) w := by
  rw [run_neq_struct, run_equalIn_agg w 9999 52 _ _ (by kernel_rfl) (by kernel_rfl)]
  go_simp
set_option maxRecDepth 100000 in
set_option maxHeartbeats 4000000 in
theorem lcells_any (w : World) (v u : Value) (l : List Cl) (hv : VL 2 Cl.cs w v l) (hu : VL 2 Cl.cs w u l) : Calls Tryz.prog 14 #[v, u] w fun e w' => e = .returned (.bool true) ∧ Below w.heap.size w w' := by
  have mixed : Tryz.prog.follows .mixedOrders = true := by kernel_rfl
  obtain ⟨qb, cb, rfl, hcb1, hcb2, hub⟩ := hu
  obtain ⟨qa, ca, rfl, hca1, hca2, hua⟩ := hv
  obtain ⟨n, hn⟩ : ∃ n, n = l.length := ⟨_, rfl⟩
  have HN : Hid (n = l.length) := hn
  rw [← hn] at hca1 hua hcb1 hub ⊢
  have HA : Hid _ := hua
  have HU : Hid _ := hub
  clear hn hub hua
  go_enter Tryz.func14, Tryz.ntmps14
  go_wp2
  go_loopw [4, 5] (fun u4 u5 w' => ∃ i : Nat, u4 = .bool false ∧ u5 = .int .i64 i ∧ i ≤ n ∧ Below w.heap.size w w') (fun _ u5 _ => n - (intOf u5).toNat)
  case atStart => exact ⟨0, rfl, rfl, by omega, by with_reducible (repeat' first | assumption | exact Below.refl _ _ | refine Below.drew ?_ | refine bdrewN ?_ _ | refine Below.setCell ?_ (by first | exact Nat.le_refl _ | (simp; done) | (simp; omega) | omega) _ | refine Below.alloc ?_ (by first | exact Nat.le_refl _ | (simp; done) | (simp; omega) | omega) _)⟩
  case round =>
    obtain ⟨i, rfl, rfl, hi, hB⟩ := hrel
    by_cases hlt : i < n
    · have hlt' : (i : Int) < n := by omega
      obtain ⟨x, hx⟩ : ∃ x, l[i]? = some x := ⟨_, List.getElem?_eq_getElem (by rw [← HN.out]; omega)⟩
      obtain ⟨ga, rfl, hga, hca0⟩ := HA.out (by omega)
      obtain ⟨gb, rfl, hgb, hcb0⟩ := HU.out (by omega)
      have ya0 : wr.cell? ⟨ga, i * 2, none⟩ = some (.int .i64 x.r) := (hB.cell (p := ⟨ga, i * 2, none⟩) hga).trans (hca0 i x hx 0 _ rfl)
      have ya1 : wr.cell? ⟨ga, i * 2 + 1, none⟩ = some (.int .i64 x.c) := (hB.cell (p := ⟨ga, i * 2 + 1, none⟩) hga).trans (hca0 i x hx 1 _ rfl)
      have yb0 : wr.cell? ⟨gb, i * 2, none⟩ = some (.int .i64 x.r) := (hB.cell (p := ⟨gb, i * 2, none⟩) hgb).trans (hcb0 i x hx 0 _ rfl)
      have yb1 : wr.cell? ⟨gb, i * 2 + 1, none⟩ = some (.int .i64 x.c) := (hB.cell (p := ⟨gb, i * 2 + 1, none⟩) hgb).trans (hcb0 i x hx 1 _ rfl)
      have z := hB.size
      have hga2 : ga < wr.heap.size := by omega
      have hgb2 : gb < wr.heap.size := by omega
      have he := neSCl x
      clear hx hca0 hcb0
      go_wp2
      go_quiet (fail)
      go_wp2
      all_goals exact ⟨⟨i + 1, rfl, by go_num, by omega, by with_reducible (repeat' first | assumption | exact Below.refl _ _ | refine Below.drew ?_ | refine bdrewN ?_ _ | refine Below.setCell ?_ (by first | exact Nat.le_refl _ | (simp; done) | (simp; omega) | omega) _ | refine Below.alloc ?_ (by first | exact Nat.le_refl _ | (simp; done) | (simp; omega) | omega) _)⟩, by simp [intOf]; omega⟩
    · have hin : i = n := by omega
      subst hin
      go_wp2
      go_ret
      exact ⟨rfl, hB⟩
set_option maxRecDepth 100000 in
set_option maxHeartbeats 4000000 in
theorem ledges_any (w : World) (v u : Value) (l : List Ed) (hv : VL 7 Ed.cs w v l) (hu : VL 7 Ed.cs w u l) : Calls Tryz.prog 17 #[v, u] w fun e w' => e = .returned (.bool true) ∧ Below w.heap.size w w' := by
  have mixed : Tryz.prog.follows .mixedOrders = true := by kernel_rfl
  obtain ⟨qb, cb, rfl, hcb1, hcb2, hub⟩ := hu
  obtain ⟨qa, ca, rfl, hca1, hca2, hua⟩ := hv
  obtain ⟨n, hn⟩ : ∃ n, n = l.length := ⟨_, rfl⟩
  have HN : Hid (n = l.length) := hn
  rw [← hn] at hca1 hua hcb1 hub ⊢
  have HA : Hid _ := hua
  have HU : Hid _ := hub
  clear hn hub hua
  go_enter Tryz.func17, Tryz.ntmps17
  go_wp2
  go_loopw [4, 5] (fun u4 u5 w' => ∃ i : Nat, u4 = .bool false ∧ u5 = .int .i64 i ∧ i ≤ n ∧ Below w.heap.size w w') (fun _ u5 _ => n - (intOf u5).toNat)
  case atStart => exact ⟨0, rfl, rfl, by omega, by with_reducible (repeat' first | assumption | exact Below.refl _ _ | refine Below.drew ?_ | refine bdrewN ?_ _ | refine Below.setCell ?_ (by first | exact Nat.le_refl _ | (simp; done) | (simp; omega) | omega) _ | refine Below.alloc ?_ (by first | exact Nat.le_refl _ | (simp; done) | (simp; omega) | omega) _)⟩
  case round =>
    obtain ⟨i, rfl, rfl, hi, hB⟩ := hrel
    by_cases hlt : i < n
    · have hlt' : (i : Int) < n := by omega
      obtain ⟨x, hx⟩ : ∃ x, l[i]? = some x := ⟨_, List.getElem?_eq_getElem (by rw [← HN.out]; omega)⟩
      obtain ⟨ga, rfl, hga, hca0⟩ := HA.out (by omega)
      obtain ⟨gb, rfl, hgb, hcb0⟩ := HU.out (by omega)
      have ya0 : wr.cell? ⟨ga, i * 7, none⟩ = some (.int .i64 x.r) := (hB.cell (p := ⟨ga, i * 7, none⟩) hga).trans (hca0 i x hx 0 _ rfl)
      have ya1 : wr.cell? ⟨ga, i * 7 + 1, none⟩ = some (.int .i64 x.c) := (hB.cell (p := ⟨ga, i * 7 + 1, none⟩) hga).trans (hca0 i x hx 1 _ rfl)
      have ya2 : wr.cell? ⟨ga, i * 7 + 2, none⟩ = some (.bool x.f.m) := (hB.cell (p := ⟨ga, i * 7 + 2, none⟩) hga).trans (hca0 i x hx 2 _ rfl)
      have ya3 : wr.cell? ⟨ga, i * 7 + 3, none⟩ = some (.int .i64 x.f.t) := (hB.cell (p := ⟨ga, i * 7 + 3, none⟩) hga).trans (hca0 i x hx 3 _ rfl)
      have ya4 : wr.cell? ⟨ga, i * 7 + 4, none⟩ = some (.int .i64 x.f.l) := (hB.cell (p := ⟨ga, i * 7 + 4, none⟩) hga).trans (hca0 i x hx 4 _ rfl)
      have ya5 : wr.cell? ⟨ga, i * 7 + 5, none⟩ = some (.int .i64 x.f.b) := (hB.cell (p := ⟨ga, i * 7 + 5, none⟩) hga).trans (hca0 i x hx 5 _ rfl)
      have ya6 : wr.cell? ⟨ga, i * 7 + 6, none⟩ = some (.int .i64 x.f.q) := (hB.cell (p := ⟨ga, i * 7 + 6, none⟩) hga).trans (hca0 i x hx 6 _ rfl)
      have yb0 : wr.cell? ⟨gb, i * 7, none⟩ = some (.int .i64 x.r) := (hB.cell (p := ⟨gb, i * 7, none⟩) hgb).trans (hcb0 i x hx 0 _ rfl)
      have yb1 : wr.cell? ⟨gb, i * 7 + 1, none⟩ = some (.int .i64 x.c) := (hB.cell (p := ⟨gb, i * 7 + 1, none⟩) hgb).trans (hcb0 i x hx 1 _ rfl)
      have yb2 : wr.cell? ⟨gb, i * 7 + 2, none⟩ = some (.bool x.f.m) := (hB.cell (p := ⟨gb, i * 7 + 2, none⟩) hgb).trans (hcb0 i x hx 2 _ rfl)
      have yb3 : wr.cell? ⟨gb, i * 7 + 3, none⟩ = some (.int .i64 x.f.t) := (hB.cell (p := ⟨gb, i * 7 + 3, none⟩) hgb).trans (hcb0 i x hx 3 _ rfl)
      have yb4 : wr.cell? ⟨gb, i * 7 + 4, none⟩ = some (.int .i64 x.f.l) := (hB.cell (p := ⟨gb, i * 7 + 4, none⟩) hgb).trans (hcb0 i x hx 4 _ rfl)
      have yb5 : wr.cell? ⟨gb, i * 7 + 5, none⟩ = some (.int .i64 x.f.b) := (hB.cell (p := ⟨gb, i * 7 + 5, none⟩) hgb).trans (hcb0 i x hx 5 _ rfl)
      have yb6 : wr.cell? ⟨gb, i * 7 + 6, none⟩ = some (.int .i64 x.f.q) := (hB.cell (p := ⟨gb, i * 7 + 6, none⟩) hgb).trans (hcb0 i x hx 6 _ rfl)
      have z := hB.size
      have hga2 : ga < wr.heap.size := by omega
      have hgb2 : gb < wr.heap.size := by omega
      have he := neSEd x
      clear hx hca0 hcb0
      go_wp2
      go_quiet (fail)
      go_wp2
      all_goals exact ⟨⟨i + 1, rfl, by go_num, by omega, by with_reducible (repeat' first | assumption | exact Below.refl _ _ | refine Below.drew ?_ | refine bdrewN ?_ _ | refine Below.setCell ?_ (by first | exact Nat.le_refl _ | (simp; done) | (simp; omega) | omega) _ | refine Below.alloc ?_ (by first | exact Nat.le_refl _ | (simp; done) | (simp; omega) | omega) _)⟩, by simp [intOf]; omega⟩
    · have hin : i = n := by omega
      subst hin
      go_wp2
      go_ret
      exact ⟨rfl, hB⟩
end Go.Proofs.YtgojnijpjfdocaaGreat
