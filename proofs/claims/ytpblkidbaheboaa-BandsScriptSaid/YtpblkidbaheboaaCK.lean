/- The law's cells and edges, at lists that are the same: true; the first one is written over. -/
import Derived.Test.YtpblkidbaheboaaCV
namespace Go.Proofs.Ytpblkidbaheboaa
open Go.RowKit
set_option linter.all false
theorem eqE (a : Pr) (w : World) : (binOp .eql 46 (.agg #[.int .i64 a.r, .int .i64 a.c, .bool true, .int .i64 a.t, .int .i64 a.l, .int .i64 a.b, .int .i64 a.q]) (.agg #[.int .i64 a.r, .int .i64 a.c, .bool true, .int .i64 a.t, .int .i64 a.l, .int .i64 a.b, .int .i64 a.q])).run Try.prog w = .ok (.bool true) w := by
  rw [run_eql_struct, run_equalIn_agg w 9999 46 _ _ (by kernel_rfl) (by kernel_rfl)]
  go_simp
/-- A list that is read. -/
def VL {α : Type} (sz : Nat) (cs : α → List Value) (w : World) (v : Value) (l : List α) : Prop := ∃ q cap, v = .slice q l.length cap ∧ l.length ≤ cap ∧ cap ≤ 9223372036854775807 ∧ (0 < l.length → ∃ g, q = some ⟨g, 0, none⟩ ∧ g < w.heap.size ∧ ∀ i x, l[i]? = some x → ∀ j u, (cs x)[j]? = some u → w.cell? ⟨g, i * sz + j, none⟩ = some u)
set_option maxRecDepth 100000 in
set_option maxHeartbeats 4000000 in
theorem cells_eq (w : World) (base : Nat) (v u : Value) (l : List Cl) (hv : RowG 33 2 Cl.cs w base v l) (hu : VL 2 Cl.cs w u l) (hne : ∀ g, v.ownBlock = some g → u.ownBlock ≠ some g) : Calls Try.prog 12 #[v, u] w fun e w' => e = .returned (.bool true) ∧ Mut (fun b => v.ownBlock = some b) w w' := by
  have mixed : Try.prog.follows .mixedOrders = true := by kernel_rfl
  obtain ⟨q, cb, rfl, hcb1, hcb2, hub⟩ := hu
  rcases hv.two with ⟨rfl, rfl⟩ | ⟨g, cap, cur0, rfl, _, h1, h2, h3, h4, h5, h6⟩
  · go_enter Try.func12, Try.ntmps12
    go_wp2
    go_loop [5, 6] (fun u5 u6 => u5 = .bool true ∧ u6 = .int .i64 0) (fun _ _ => 0)
    case atStart => exact ⟨rfl, rfl⟩
    case round =>
      obtain ⟨rfl, rfl⟩ := hrel
      go_wp2
      go_ret
      exact ⟨rfl, Mut.refl _ _⟩
  have hcell := row_cellsG Cl.len h2 h6
  obtain ⟨n, hn⟩ : ∃ n, n = l.length := ⟨_, rfl⟩
  have HN : Hid (n = l.length) := hn
  rw [← hn] at h3 hcb1 hub ⊢
  have HU : Hid _ := hub
  have HC0 : Hid (∀ i x j u, l[i]? = some x → (x.cs)[j]? = some u → cur0[i * 2 + j]? = some u) := (show _ from fun i x j u a b => by rw [← cell_row h2]; exact hcell i x j u a b)
  have hsz0 : n * 2 ≤ cur0.size := by rw [h5]; exact Nat.mul_le_mul_right _ h3
  have hne' := hne g rfl
  have hcm : cap ≤ 9223372036854775807 := by unfold maxLen at h4; omega
  have hO0 : Hid (Own w g cur0) := own_row h2
  clear hn hub hcell hne h1 h2 h4 h5 h6 hv
  go_enter Try.func12, Try.ntmps12
  go_wp2
  go_loopw [5, 6] (fun u5 u6 w' => ∃ i : Nat, u5 = .bool true ∧ u6 = .int .i64 i ∧ i ≤ n ∧ Hid (∃ cur : Array Value, Own w' g cur ∧ cur.size = cur0.size ∧ ∀ o, i * 2 ≤ o → cur[o]? = cur0[o]?) ∧ Hid (Mut (fun b => g = b) w w')) (fun _ u6 _ => n - (intOf u6).toNat)
  case atStart => exact ⟨0, by simp, rfl, by omega, (show Hid _ from ⟨cur0, hO0.out, rfl, fun _ _ => rfl⟩), (show Mut _ _ _ from Mut.refl _ _)⟩
  case round =>
    obtain ⟨i, rfl, rfl, hi, HCu, HM⟩ := hrel
    obtain ⟨cur, hC, hcs, hcur⟩ := HCu.out
    have hM := HM.out
    by_cases hlt : i < n
    · have hlt' : (i : Int) < n := by omega
      obtain ⟨x, hx⟩ : ∃ x, l[i]? = some x := ⟨_, List.getElem?_eq_getElem (by rw [← HN.out]; omega)⟩
      obtain ⟨gb, rfl, hgb, hcb0⟩ := HU.out (by omega)
      have hca := fun j u (hu : x.cs[j]? = some u) => HC0.out i x j u hx hu
      have hcb := fun j u (hu : x.cs[j]? = some u) => hcb0 i x hx j u hu
      have hne : gb ≠ g := fun q => hne' (by rw [← q]; rfl)
      have hgl := hC.lt
      have ya0 : wr.cell? ⟨g, i * 2, none⟩ = some (.int .i64 x.r) := by rw [hC.cell, hcur _ (by omega)]; exact hca 0 _ rfl
      have ya1 : wr.cell? ⟨g, i * 2 + 1, none⟩ = some (.int .i64 x.c) := by rw [hC.cell, hcur _ (by omega)]; exact hca 1 _ rfl
      have yb0 : wr.cell? ⟨gb, i * 2, none⟩ = some (.int .i64 x.r) := (World.cell?_of_block (a := ⟨gb, i * 2, none⟩) (hM.block gb hgb (fun q => hne q.symm))).trans (hcb 0 _ rfl)
      have yb1 : wr.cell? ⟨gb, i * 2 + 1, none⟩ = some (.int .i64 x.c) := (World.cell?_of_block (a := ⟨gb, i * 2 + 1, none⟩) (hM.block gb hgb (fun q => hne q.symm))).trans (hcb 1 _ rfl)
      have yf0 : wr.frozen? ⟨g, i * 2, none⟩ = false := hC.fro _
      have yf1 : wr.frozen? ⟨g, i * 2 + 1, none⟩ = false := hC.fro _
      have he := eqC x.r x.c x.r x.c
      rw [sameC_refl] at he
      have HO : Hid (∀ z : Nat, Own ((((wr.drewN z)).setCell ⟨g, i * 2, none⟩ (.int .i64 (-1))).setCell ⟨g, i * 2 + 1, none⟩ (.int .i64 (0))) g ((cur.setIfInBounds (i * 2) (.int .i64 (-1))).setIfInBounds (i * 2 + 1) (.int .i64 (0)))) := (show _ from fun z => (show Own _ _ _ from (own_put' (own_put' (Own.drewN hC z) (by first | omega | (simp; omega))) (by first | omega | (simp; omega)))))
      have HC2 : Hid (∀ o, (i + 1) * 2 ≤ o → ((cur.setIfInBounds (i * 2) (.int .i64 (-1))).setIfInBounds (i * 2 + 1) (.int .i64 (0)))[o]? = cur0[o]?) := (show _ from fun o ho => by
        have h0 := hcur o (by omega)
        simp only [Array.getElem?_setIfInBounds]
        rw [if_neg (by omega), if_neg (by omega)]
        exact h0)
      have HS2 : Hid (((cur.setIfInBounds (i * 2) (.int .i64 (-1))).setIfInBounds (i * 2 + 1) (.int .i64 (0))).size = cur0.size) := (show _ = _ by simpa using hcs)
      have HM2 : Hid (∀ z : Nat, Mut (fun b => g = b) w ((((wr.drewN z)).setCell ⟨g, i * 2, none⟩ (.int .i64 (-1))).setCell ⟨g, i * 2 + 1, none⟩ (.int .i64 (0)))) := (show _ from fun z => (Mut.set (Mut.set (Mut.drewN hM z) (.inl rfl) _) (.inl rfl) _))
      clear hca hcb hcb0 hx hcur hC hM hcs HCu HM
      go_wp2
      go_quiet (fail)
      go_wp2
      all_goals exact ⟨⟨i + 1, by simp, by go_num, by omega, (show Hid _ from ⟨_, HO.out _, HS2.out, HC2.out⟩), (show Mut _ _ _ from HM2.out _)⟩, by simp [intOf]; omega⟩
    · have hin : i = n := by omega
      subst hin
      go_wp2
      go_ret
      exact ⟨rfl, ⟨hM.os, hM.tape, hM.output, hM.size, fun b hb hs => hM.block b hb (fun q => hs (by rw [← q]; rfl))⟩⟩
set_option maxRecDepth 100000 in
set_option maxHeartbeats 4000000 in
theorem edges_eq (w : World) (base : Nat) (v u : Value) (l : List Pr) (hv : RowG 46 7 Pr.cs w base v l) (hu : VL 7 Pr.cs w u l) (hne : ∀ g, v.ownBlock = some g → u.ownBlock ≠ some g) : Calls Try.prog 15 #[v, u] w fun e w' => e = .returned (.bool true) ∧ Mut (fun b => v.ownBlock = some b) w w' := by
  have mixed : Try.prog.follows .mixedOrders = true := by kernel_rfl
  obtain ⟨q, cb, rfl, hcb1, hcb2, hub⟩ := hu
  rcases hv.two with ⟨rfl, rfl⟩ | ⟨g, cap, cur0, rfl, _, h1, h2, h3, h4, h5, h6⟩
  · go_enter Try.func15, Try.ntmps15
    go_wp2
    go_loop [5, 6] (fun u5 u6 => u5 = .bool true ∧ u6 = .int .i64 0) (fun _ _ => 0)
    case atStart => exact ⟨rfl, rfl⟩
    case round =>
      obtain ⟨rfl, rfl⟩ := hrel
      go_wp2
      go_ret
      exact ⟨rfl, Mut.refl _ _⟩
  have hcell := row_cellsG Pr.len h2 h6
  obtain ⟨n, hn⟩ : ∃ n, n = l.length := ⟨_, rfl⟩
  have HN : Hid (n = l.length) := hn
  rw [← hn] at h3 hcb1 hub ⊢
  have HU : Hid _ := hub
  have HC0 : Hid (∀ i x j u, l[i]? = some x → (x.cs)[j]? = some u → cur0[i * 7 + j]? = some u) := (show _ from fun i x j u a b => by rw [← cell_row h2]; exact hcell i x j u a b)
  have hsz0 : n * 7 ≤ cur0.size := by rw [h5]; exact Nat.mul_le_mul_right _ h3
  have hne' := hne g rfl
  have hcm : cap ≤ 9223372036854775807 := by unfold maxLen at h4; omega
  have hO0 : Hid (Own w g cur0) := own_row h2
  clear hn hub hcell hne h1 h2 h4 h5 h6 hv
  go_enter Try.func15, Try.ntmps15
  go_wp2
  go_loopw [5, 6] (fun u5 u6 w' => ∃ i : Nat, u5 = .bool true ∧ u6 = .int .i64 i ∧ i ≤ n ∧ Hid (∃ cur : Array Value, Own w' g cur ∧ cur.size = cur0.size ∧ ∀ o, i * 7 ≤ o → cur[o]? = cur0[o]?) ∧ Hid (Mut (fun b => g = b) w w')) (fun _ u6 _ => n - (intOf u6).toNat)
  case atStart => exact ⟨0, by simp, rfl, by omega, (show Hid _ from ⟨cur0, hO0.out, rfl, fun _ _ => rfl⟩), (show Mut _ _ _ from Mut.refl _ _)⟩
  case round =>
    obtain ⟨i, rfl, rfl, hi, HCu, HM⟩ := hrel
    obtain ⟨cur, hC, hcs, hcur⟩ := HCu.out
    have hM := HM.out
    by_cases hlt : i < n
    · have hlt' : (i : Int) < n := by omega
      obtain ⟨x, hx⟩ : ∃ x, l[i]? = some x := ⟨_, List.getElem?_eq_getElem (by rw [← HN.out]; omega)⟩
      obtain ⟨gb, rfl, hgb, hcb0⟩ := HU.out (by omega)
      have hca := fun j u (hu : x.cs[j]? = some u) => HC0.out i x j u hx hu
      have hcb := fun j u (hu : x.cs[j]? = some u) => hcb0 i x hx j u hu
      have hne : gb ≠ g := fun q => hne' (by rw [← q]; rfl)
      have hgl := hC.lt
      have ya0 : wr.cell? ⟨g, i * 7, none⟩ = some (.int .i64 x.r) := by rw [hC.cell, hcur _ (by omega)]; exact hca 0 _ rfl
      have ya1 : wr.cell? ⟨g, i * 7 + 1, none⟩ = some (.int .i64 x.c) := by rw [hC.cell, hcur _ (by omega)]; exact hca 1 _ rfl
      have ya2 : wr.cell? ⟨g, i * 7 + 2, none⟩ = some (.bool true) := by rw [hC.cell, hcur _ (by omega)]; exact hca 2 _ rfl
      have ya3 : wr.cell? ⟨g, i * 7 + 3, none⟩ = some (.int .i64 x.t) := by rw [hC.cell, hcur _ (by omega)]; exact hca 3 _ rfl
      have ya4 : wr.cell? ⟨g, i * 7 + 4, none⟩ = some (.int .i64 x.l) := by rw [hC.cell, hcur _ (by omega)]; exact hca 4 _ rfl
      have ya5 : wr.cell? ⟨g, i * 7 + 5, none⟩ = some (.int .i64 x.b) := by rw [hC.cell, hcur _ (by omega)]; exact hca 5 _ rfl
      have ya6 : wr.cell? ⟨g, i * 7 + 6, none⟩ = some (.int .i64 x.q) := by rw [hC.cell, hcur _ (by omega)]; exact hca 6 _ rfl
      have yb0 : wr.cell? ⟨gb, i * 7, none⟩ = some (.int .i64 x.r) := (World.cell?_of_block (a := ⟨gb, i * 7, none⟩) (hM.block gb hgb (fun q => hne q.symm))).trans (hcb 0 _ rfl)
      have yb1 : wr.cell? ⟨gb, i * 7 + 1, none⟩ = some (.int .i64 x.c) := (World.cell?_of_block (a := ⟨gb, i * 7 + 1, none⟩) (hM.block gb hgb (fun q => hne q.symm))).trans (hcb 1 _ rfl)
      have yb2 : wr.cell? ⟨gb, i * 7 + 2, none⟩ = some (.bool true) := (World.cell?_of_block (a := ⟨gb, i * 7 + 2, none⟩) (hM.block gb hgb (fun q => hne q.symm))).trans (hcb 2 _ rfl)
      have yb3 : wr.cell? ⟨gb, i * 7 + 3, none⟩ = some (.int .i64 x.t) := (World.cell?_of_block (a := ⟨gb, i * 7 + 3, none⟩) (hM.block gb hgb (fun q => hne q.symm))).trans (hcb 3 _ rfl)
      have yb4 : wr.cell? ⟨gb, i * 7 + 4, none⟩ = some (.int .i64 x.l) := (World.cell?_of_block (a := ⟨gb, i * 7 + 4, none⟩) (hM.block gb hgb (fun q => hne q.symm))).trans (hcb 4 _ rfl)
      have yb5 : wr.cell? ⟨gb, i * 7 + 5, none⟩ = some (.int .i64 x.b) := (World.cell?_of_block (a := ⟨gb, i * 7 + 5, none⟩) (hM.block gb hgb (fun q => hne q.symm))).trans (hcb 5 _ rfl)
      have yb6 : wr.cell? ⟨gb, i * 7 + 6, none⟩ = some (.int .i64 x.q) := (World.cell?_of_block (a := ⟨gb, i * 7 + 6, none⟩) (hM.block gb hgb (fun q => hne q.symm))).trans (hcb 6 _ rfl)
      have yf0 : wr.frozen? ⟨g, i * 7, none⟩ = false := hC.fro _
      have yf1 : wr.frozen? ⟨g, i * 7 + 1, none⟩ = false := hC.fro _
      have yf2 : wr.frozen? ⟨g, i * 7 + 2, none⟩ = false := hC.fro _
      have yf3 : wr.frozen? ⟨g, i * 7 + 3, none⟩ = false := hC.fro _
      have yf4 : wr.frozen? ⟨g, i * 7 + 4, none⟩ = false := hC.fro _
      have yf5 : wr.frozen? ⟨g, i * 7 + 5, none⟩ = false := hC.fro _
      have yf6 : wr.frozen? ⟨g, i * 7 + 6, none⟩ = false := hC.fro _
      have he := eqE x
      have HO : Hid (∀ z : Nat, Own (((((((((wr.drewN z)).setCell ⟨g, i * 7, none⟩ (.int .i64 (-1))).setCell ⟨g, i * 7 + 1, none⟩ (.int .i64 (0))).setCell ⟨g, i * 7 + 2, none⟩ (.bool false)).setCell ⟨g, i * 7 + 3, none⟩ (.int .i64 (0))).setCell ⟨g, i * 7 + 4, none⟩ (.int .i64 (0))).setCell ⟨g, i * 7 + 5, none⟩ (.int .i64 (0))).setCell ⟨g, i * 7 + 6, none⟩ (.int .i64 (0))) g (((((((cur.setIfInBounds (i * 7) (.int .i64 (-1))).setIfInBounds (i * 7 + 1) (.int .i64 (0))).setIfInBounds (i * 7 + 2) (.bool false)).setIfInBounds (i * 7 + 3) (.int .i64 (0))).setIfInBounds (i * 7 + 4) (.int .i64 (0))).setIfInBounds (i * 7 + 5) (.int .i64 (0))).setIfInBounds (i * 7 + 6) (.int .i64 (0)))) := (show _ from fun z => (show Own _ _ _ from (own_put' (own_put' (own_put' (own_put' (own_put' (own_put' (own_put' (Own.drewN hC z) (by first | omega | (simp; omega))) (by first | omega | (simp; omega))) (by first | omega | (simp; omega))) (by first | omega | (simp; omega))) (by first | omega | (simp; omega))) (by first | omega | (simp; omega))) (by first | omega | (simp; omega)))))
      have HC2 : Hid (∀ o, (i + 1) * 7 ≤ o → (((((((cur.setIfInBounds (i * 7) (.int .i64 (-1))).setIfInBounds (i * 7 + 1) (.int .i64 (0))).setIfInBounds (i * 7 + 2) (.bool false)).setIfInBounds (i * 7 + 3) (.int .i64 (0))).setIfInBounds (i * 7 + 4) (.int .i64 (0))).setIfInBounds (i * 7 + 5) (.int .i64 (0))).setIfInBounds (i * 7 + 6) (.int .i64 (0)))[o]? = cur0[o]?) := (show _ from fun o ho => by
        have h0 := hcur o (by omega)
        simp only [Array.getElem?_setIfInBounds]
        rw [if_neg (by omega), if_neg (by omega), if_neg (by omega), if_neg (by omega), if_neg (by omega), if_neg (by omega), if_neg (by omega)]
        exact h0)
      have HS2 : Hid ((((((((cur.setIfInBounds (i * 7) (.int .i64 (-1))).setIfInBounds (i * 7 + 1) (.int .i64 (0))).setIfInBounds (i * 7 + 2) (.bool false)).setIfInBounds (i * 7 + 3) (.int .i64 (0))).setIfInBounds (i * 7 + 4) (.int .i64 (0))).setIfInBounds (i * 7 + 5) (.int .i64 (0))).setIfInBounds (i * 7 + 6) (.int .i64 (0))).size = cur0.size) := (show _ = _ by simpa using hcs)
      have HM2 : Hid (∀ z : Nat, Mut (fun b => g = b) w (((((((((wr.drewN z)).setCell ⟨g, i * 7, none⟩ (.int .i64 (-1))).setCell ⟨g, i * 7 + 1, none⟩ (.int .i64 (0))).setCell ⟨g, i * 7 + 2, none⟩ (.bool false)).setCell ⟨g, i * 7 + 3, none⟩ (.int .i64 (0))).setCell ⟨g, i * 7 + 4, none⟩ (.int .i64 (0))).setCell ⟨g, i * 7 + 5, none⟩ (.int .i64 (0))).setCell ⟨g, i * 7 + 6, none⟩ (.int .i64 (0)))) := (show _ from fun z => (Mut.set (Mut.set (Mut.set (Mut.set (Mut.set (Mut.set (Mut.set (Mut.drewN hM z) (.inl rfl) _) (.inl rfl) _) (.inl rfl) _) (.inl rfl) _) (.inl rfl) _) (.inl rfl) _) (.inl rfl) _))
      clear hca hcb hcb0 hx hcur hC hM hcs HCu HM
      go_wp2
      go_quiet (fail)
      go_wp2
      all_goals exact ⟨⟨i + 1, by simp, by go_num, by omega, (show Hid _ from ⟨_, HO.out _, HS2.out, HC2.out⟩), (show Mut _ _ _ from HM2.out _)⟩, by simp [intOf]; omega⟩
    · have hin : i = n := by omega
      subst hin
      go_wp2
      go_ret
      exact ⟨rfl, ⟨hM.os, hM.tape, hM.output, hM.size, fun b hb hs => hM.block b hb (fun q => hs (by rw [← q]; rfl))⟩⟩
end Go.Proofs.Ytpblkidbaheboaa
