/- The contracts of the clock's New, Drop, of. -/
import Derived.Test.YtmajbophgdimlaaKD
namespace Go.Proofs.Ytmajbophgdimlaa
open Go.RowKit
set_option linter.all false
set_option maxRecDepth 100000 in
set_option maxHeartbeats 2000000 in
theorem kdrop_any (w : World) (F : Nat → Prop) (N bm : Nat) (G : Int → Int → Nat) (most last turns : Int) (S : St) (n : Nat) (x y : Int) (h : Ck F w N bm G most last turns S n) (hx : I64 x) (hy : I64 y) : Calls Try.prog 11 #[.pointer (some ⟨N, 0, none⟩), .agg #[.int .i64 x, .int .i64 y]] w fun e w' => e = .returned (.tuple #[]) ∧ Ck F w' N bm G most last turns (upS S x y none) n ∧ Mut (fun b => ¬ F b) w w' := by
  have mixed : Try.prog.follows .mixedOrders = true := by kernel_rfl
  have hD : ∀ W, Below w.heap.size w W → ∃ w3, (Builtin.delete_ #[46, 30] 0 #[.map (some bm), .agg #[.int .i64 x, .int .i64 y]]).run Try.prog W = .ok (.tuple #[]) w3 ∧ Ck F w3 N bm G most last turns (upS S x y none) n ∧ Mut (fun k => k = bm) W w3 := fun W hb => by
    have h1 := h.keep hb
    obtain ⟨w3, k1, k2, k3⟩ := h1.map.del Try.underlying46 x y hx hy 0
    exact ⟨w3, k1, h1.drop k2 k3, k3⟩
  have oN := h.own
  have lN := oN.lt
  have hfB := h.fB
  have lB := h.map.lt
  have HD : Hid _ := hD
  clear h hx hy hD
  go_enter Try.func11, Try.ntmps11
  go_wp2
  obtain ⟨W1, hW1⟩ : ∃ W1 : World, W1 = (w.alloc (.cells #[.int .i64 x, .int .i64 y] 30)) := ⟨_, rfl⟩
  have hB1 : Below w.heap.size w W1 := (by rw [hW1]; with_reducible (repeat' first | assumption | exact Below.refl _ _ | refine Below.drew ?_ | refine bdrewN ?_ _ | refine Below.setCell ?_ (by first | exact Nat.le_refl _ | (simp; done) | (simp; omega) | omega) _ | refine Below.alloc ?_ (by first | exact Nat.le_refl _ | (simp; done) | (simp; omega) | omega) _))
  have oN1 : Own W1 N #[.int .i64 most, .int .i64 last, .int .i64 turns, .map (some bm)] := oN.keep hB1
  have oC1 : Own W1 w.heap.size #[.int .i64 x, .int .i64 y] := (by rw [hW1]; with_reducible (repeat' first | assumption | refine Own.drew ?_ | refine Own.drewN ?_ _ | (refine Own.at ?_; first | rfl | (simp; done)) | refine Own.past ?_ _))
  have b0 : W1.cell? ⟨N, 0, none⟩ = some (.int .i64 most) := oN1.cell 0
  have b1 : W1.cell? ⟨N, 1, none⟩ = some (.int .i64 last) := oN1.cell 1
  have b2 : W1.cell? ⟨N, 2, none⟩ = some (.int .i64 turns) := oN1.cell 2
  have b3 : W1.cell? ⟨N, 3, none⟩ = some (.map (some bm)) := oN1.cell 3
  have c0 : W1.cell? ⟨w.heap.size, 0, none⟩ = some (.int .i64 x) := oC1.cell 0
  have c1 : W1.cell? ⟨w.heap.size, 1, none⟩ = some (.int .i64 y) := oC1.cell 1
  have lN1 := oN1.lt
  have lC1 := oC1.lt
  obtain ⟨w3, hdel, hck, hm3⟩ := HD.out W1.drew (by with_reducible (repeat' first | assumption | exact Below.refl _ _ | refine Below.drew ?_ | refine bdrewN ?_ _ | refine Below.setCell ?_ (by first | exact Nat.le_refl _ | (simp; done) | (simp; omega) | omega) _ | refine Below.alloc ?_ (by first | exact Nat.le_refl _ | (simp; done) | (simp; omega) | omega) _))
  have HCk : Hid (Ck F w3 N bm G most last turns (upS S x y none) n) := hck
  have HM3 : Hid (Mut (fun k => k = bm) W1.drew w3) := hm3
  have oN3 := hck.own
  have oC3 : Own w3 w.heap.size #[.int .i64 x, .int .i64 y] := Own.mut (by with_reducible (repeat' first | assumption | refine Own.drew ?_ | refine Own.drewN ?_ _ | (refine Own.at ?_; first | rfl | (simp; done)) | refine Own.past ?_ _)) hm3 (fun q => by omega)
  have d0 : w3.cell? ⟨N, 0, none⟩ = some (.int .i64 most) := oN3.cell 0
  have d1 : w3.cell? ⟨N, 1, none⟩ = some (.int .i64 last) := oN3.cell 1
  have d2 : w3.cell? ⟨N, 2, none⟩ = some (.int .i64 turns) := oN3.cell 2
  have d3 : w3.cell? ⟨N, 3, none⟩ = some (.map (some bm)) := oN3.cell 3
  have f0 : w3.cell? ⟨w.heap.size, 0, none⟩ = some (.int .i64 x) := oC3.cell 0
  have f1 : w3.cell? ⟨w.heap.size, 1, none⟩ = some (.int .i64 y) := oC3.cell 1
  rw [← hW1]
  clear hW1 hck hm3 HD oN oN1 oC1 oN3 oC3
  refine wp_region_held_drew (S := (fun w' => w'.cell? ⟨N, 0, none⟩ = some (.int .i64 most) ∧ w'.cell? ⟨N, 1, none⟩ = some (.int .i64 last) ∧ w'.cell? ⟨N, 2, none⟩ = some (.int .i64 turns) ∧ w'.cell? ⟨N, 3, none⟩ = some (.map (some bm)) ∧ w'.cell? ⟨w.heap.size, 0, none⟩ = some (.int .i64 x) ∧ w'.cell? ⟨w.heap.size, 1, none⟩ = some (.int .i64 y))) (by kernel_rfl) (by (try dsimp only); ((repeat' apply And.intro) <;> (first | (go_keep; done) | (go_simp; done)))) (fun hHeld => ?_)
  refine wpAnyH_take (i := 0) (v := .pointer (some ⟨N, 0, none⟩)) rfl (by kernel_rfl) (by kernel_rfl) (by kernel_rfl) (fun _ _ _ h => h) (Or.inl ⟨by first | rfl | kernel_rfl, by intro wz hSw; (try dsimp only at hSw); go_simp⟩) (by assumption) ?_
  (try simp only [Act.put, List.getElem_toArray, List.getElem_cons_succ, List.getElem_cons_zero, List.setIfInBounds_toArray, List.set_cons_zero, List.set_cons_succ])
  refine wpAnyH_take (i := 1) (v := .pointer (some ⟨N, 0, none⟩)) rfl (by kernel_rfl) (by kernel_rfl) (by kernel_rfl) (fun _ _ _ h => h) (Or.inl ⟨by first | rfl | kernel_rfl, by intro wz hSw; (try dsimp only at hSw); go_simp⟩) (by assumption) ?_
  (try simp only [Act.put, List.getElem_toArray, List.getElem_cons_succ, List.getElem_cons_zero, List.setIfInBounds_toArray, List.set_cons_zero, List.set_cons_succ])
  refine wpAnyH_take (i := 2) (v := .pointer (some ⟨N, 3, none⟩)) rfl (by kernel_rfl) (by kernel_rfl) (by kernel_rfl) (fun _ _ _ h => h) (Or.inl ⟨by first | rfl | kernel_rfl, by intro wz hSw; (try dsimp only at hSw); go_simp⟩) (by assumption) ?_
  (try simp only [Act.put, List.getElem_toArray, List.getElem_cons_succ, List.getElem_cons_zero, List.setIfInBounds_toArray, List.set_cons_zero, List.set_cons_succ])
  refine wpAnyH_take (i := 3) (v := .map (some bm)) rfl (by kernel_rfl) (by kernel_rfl) (by kernel_rfl) (fun _ _ _ h => h) (Or.inl ⟨by first | rfl | kernel_rfl, by intro wz hSw; (try dsimp only at hSw); go_simp⟩) (by assumption) ?_
  (try simp only [Act.put, List.getElem_toArray, List.getElem_cons_succ, List.getElem_cons_zero, List.setIfInBounds_toArray, List.set_cons_zero, List.set_cons_succ])
  refine wpAnyH_take (i := 4) (v := (.agg #[.int .i64 x, .int .i64 y])) rfl (by kernel_rfl) (by kernel_rfl) (by kernel_rfl) (fun _ _ _ h => h) (Or.inl ⟨by first | rfl | kernel_rfl, by intro wz hSw; (try dsimp only at hSw); go_simp⟩) (by assumption) ?_
  (try simp only [Act.put, List.getElem_toArray, List.getElem_cons_succ, List.getElem_cons_zero, List.setIfInBounds_toArray, List.set_cons_zero, List.set_cons_succ])
  refine wpAnyH_ready (rs := [5]) (by kernel_rfl) (by simp) ?_
  refine AllReadyH.cons rfl (fun K hK => ?_) ?_
  · go_simp
    refine hK.out _ _ (by (try dsimp only); first | (with_reducible assumption) | ((repeat' apply And.intro) <;> (first | (go_keep; done) | (go_simp; done)))) (fun hHeld => ?_)
    clear hK K
    (try simp only [Act.put, List.getElem_toArray, List.getElem_cons_succ, List.getElem_cons_zero, List.setIfInBounds_toArray, List.set_cons_zero, List.set_cons_succ])
    refine wpAnyH_done (by kernel_rfl) ?_ _
    go_wp2
    go_end0
    exact ⟨rfl, HCk.out.keep (by with_reducible (repeat' first | assumption | exact Below.refl _ _ | refine Below.drew ?_ | refine bdrewN ?_ _ | refine Below.setCell ?_ (by first | exact Nat.le_refl _ | (simp; done) | (simp; omega) | omega) _ | refine Below.alloc ?_ (by first | exact Nat.le_refl _ | (simp; done) | (simp; omega) | omega) _)), ((Mut.of_below (show Below w.heap.size w W1.drew from by with_reducible (repeat' first | assumption | exact Below.refl _ _ | refine Below.drew ?_ | refine bdrewN ?_ _ | refine Below.setCell ?_ (by first | exact Nat.le_refl _ | (simp; done) | (simp; omega) | omega) _ | refine Below.alloc ?_ (by first | exact Nat.le_refl _ | (simp; done) | (simp; omega) | omega) _))).call HM3.out (fun b q => .inl (by rw [q]; exact hfB))).below (by with_reducible (repeat' first | assumption | exact Below.refl _ _ | refine Below.drew ?_ | refine bdrewN ?_ _ | refine Below.setCell ?_ (by first | exact Nat.le_refl _ | (simp; done) | (simp; omega) | omega) _ | refine Below.alloc ?_ (by first | exact Nat.le_refl _ | (simp; done) | (simp; omega) | omega) _))⟩
  exact AllReadyH.nil

def ofS (S : St) (x y : Int) : St := match S x y with | none => upS S x y (some (0, 0)) | some _ => S
set_option maxRecDepth 100000 in
set_option maxHeartbeats 2000000 in
theorem kof_any (w : World) (F : Nat → Prop) (N bm : Nat) (G : Int → Int → Nat) (most last turns : Int) (S : St) (n : Nat) (x y : Int) (h : Ck F w N bm G most last turns S n) (hx : I64 x) (hy : I64 y) (hF : ∀ b, F b → b < w.heap.size) (hn : n ≤ 4000000000000) : Calls Try.prog 18 #[.pointer (some ⟨N, 0, none⟩), .agg #[.int .i64 x, .int .i64 y]] w fun e w' => ∃ G', e = .returned (.pointer (some ⟨G' x y, 0, none⟩)) ∧ Ck F w' N bm G' most last turns (ofS S x y) (n + 1) ∧ Mut (fun b => ¬ F b) w w' := by
  have mixed : Try.prog.follows .mixedOrders = true := by kernel_rfl
  have HL : Hid (∀ W, Below w.heap.size w W → (Instr.lookup 46 (.map (some bm)) (.agg #[.int .i64 x, .int .i64 y]) false).run Try.prog W = .ok (vf S G x y) W) := (show _ from fun W hb => (h.map.keep hb).look Try.underlying46 (zeroPtr W) x y hx hy)
  have hP : S x y = none → ∀ W g, Below w.heap.size w W → w.heap.size ≤ g → Own W g #[.int .i64 0, .int .i64 0] → ∃ w3, (Instr.mapUpdate 46 (.map (some bm)) (.agg #[.int .i64 x, .int .i64 y]) (.pointer (some ⟨g, 0, none⟩))).run Try.prog W = .ok () w3 ∧ Ck F w3 N bm (upG G x y g) most last turns (upS S x y (some (0, 0))) (n + 1) ∧ Mut (fun k => k = bm) W w3 := fun hS W g hb hg ho => by
    obtain ⟨w3, k1, k2, k3⟩ := (h.map.keep hb).put Try.underlying46 (by unfold maxLen; omega) x y hx hy (.pointer (some ⟨g, 0, none⟩)) (by intro q; injection q with q; cases q)
    exact ⟨w3, k1, h.add hx hy hF hg hb ho k2 k3, k3⟩
  have HK : Hid (∀ W, Below w.heap.size w W → Ck F W N bm G most last turns S n) := (show _ from fun W hb => h.keep hb)
  have oN := h.own
  have lN := oN.lt
  have hfB := h.fB
  have lB := h.map.lt
  clear h hx hy hF
  cases hS : S x y with
  | some p =>
    have hv : vf S G x y = .pointer (some ⟨G x y, 0, none⟩) := vf_some hS
    rw [hv] at HL
    have ho : ofS S x y = S := by unfold ofS; rw [hS]
    rw [ho]
    clear hP hv hS ho
    go_enter Try.func18, Try.ntmps18
    go_wp2
    obtain ⟨W1, hW1⟩ : ∃ W1 : World, W1 = (w.alloc (.cells #[.int .i64 x, .int .i64 y] 30)) := ⟨_, rfl⟩
    have hB1 : Below w.heap.size w W1 := (by rw [hW1]; with_reducible (repeat' first | assumption | exact Below.refl _ _ | refine Below.drew ?_ | refine bdrewN ?_ _ | refine Below.setCell ?_ (by first | exact Nat.le_refl _ | (simp; done) | (simp; omega) | omega) _ | refine Below.alloc ?_ (by first | exact Nat.le_refl _ | (simp; done) | (simp; omega) | omega) _))
    have oN1 : Own W1 N #[.int .i64 most, .int .i64 last, .int .i64 turns, .map (some bm)] := oN.keep hB1
    have oC1 : Own W1 w.heap.size #[.int .i64 x, .int .i64 y] := (by rw [hW1]; with_reducible (repeat' first | assumption | refine Own.drew ?_ | refine Own.drewN ?_ _ | (refine Own.at ?_; first | rfl | (simp; done)) | refine Own.past ?_ _))
    have b0 : W1.cell? ⟨N, 0, none⟩ = some (.int .i64 most) := oN1.cell 0
    have b1 : W1.cell? ⟨N, 1, none⟩ = some (.int .i64 last) := oN1.cell 1
    have b2 : W1.cell? ⟨N, 2, none⟩ = some (.int .i64 turns) := oN1.cell 2
    have b3 : W1.cell? ⟨N, 3, none⟩ = some (.map (some bm)) := oN1.cell 3
    have c0 : W1.cell? ⟨w.heap.size, 0, none⟩ = some (.int .i64 x) := oC1.cell 0
    have c1 : W1.cell? ⟨w.heap.size, 1, none⟩ = some (.int .i64 y) := oC1.cell 1
    have lN1 := oN1.lt
    have lC1 := oC1.lt
    have hk1 := HL.out W1.drew (by with_reducible (repeat' first | assumption | exact Below.refl _ _ | refine Below.drew ?_ | refine bdrewN ?_ _ | refine Below.setCell ?_ (by first | exact Nat.le_refl _ | (simp; done) | (simp; omega) | omega) _ | refine Below.alloc ?_ (by first | exact Nat.le_refl _ | (simp; done) | (simp; omega) | omega) _))
    rw [← hW1]
    clear hW1
    go_region_held3 (fun w' => w'.cell? ⟨N, 0, none⟩ = some (.int .i64 most) ∧ w'.cell? ⟨N, 1, none⟩ = some (.int .i64 last) ∧ w'.cell? ⟨N, 2, none⟩ = some (.int .i64 turns) ∧ w'.cell? ⟨N, 3, none⟩ = some (.map (some bm)) ∧ w'.cell? ⟨w.heap.size, 0, none⟩ = some (.int .i64 x) ∧ w'.cell? ⟨w.heap.size, 1, none⟩ = some (.int .i64 y) ∧ (Instr.lookup 46 (.map (some bm)) (.agg #[.int .i64 x, .int .i64 y]) false).run Try.prog w' = .ok (.pointer (some ⟨G x y, 0, none⟩)) w') ((repeat' apply And.intro) <;> (first | (go_keep; done) | (go_simp; done))) (fail)
    go_wp2
    go_ret
    exact ⟨G, rfl, (HK.out _ (by with_reducible (repeat' first | assumption | exact Below.refl _ _ | refine Below.drew ?_ | refine bdrewN ?_ _ | refine Below.setCell ?_ (by first | exact Nat.le_refl _ | (simp; done) | (simp; omega) | omega) _ | refine Below.alloc ?_ (by first | exact Nat.le_refl _ | (simp; done) | (simp; omega) | omega) _))).more (by omega), Mut.of_below (by with_reducible (repeat' first | assumption | exact Below.refl _ _ | refine Below.drew ?_ | refine bdrewN ?_ _ | refine Below.setCell ?_ (by first | exact Nat.le_refl _ | (simp; done) | (simp; omega) | omega) _ | refine Below.alloc ?_ (by first | exact Nat.le_refl _ | (simp; done) | (simp; omega) | omega) _))⟩
  | none =>
    have hv : vf S G x y = .pointer none := vf_none hS
    rw [hv] at HL
    have ho : ofS S x y = upS S x y (some (0, 0)) := by unfold ofS; rw [hS]
    rw [ho]
    have HP : Hid _ := hP hS
    clear hP hv hS ho
    go_enter Try.func18, Try.ntmps18
    go_wp2
    obtain ⟨W1, hW1⟩ : ∃ W1 : World, W1 = (w.alloc (.cells #[.int .i64 x, .int .i64 y] 30)) := ⟨_, rfl⟩
    have hB1 : Below w.heap.size w W1 := (by rw [hW1]; with_reducible (repeat' first | assumption | exact Below.refl _ _ | refine Below.drew ?_ | refine bdrewN ?_ _ | refine Below.setCell ?_ (by first | exact Nat.le_refl _ | (simp; done) | (simp; omega) | omega) _ | refine Below.alloc ?_ (by first | exact Nat.le_refl _ | (simp; done) | (simp; omega) | omega) _))
    have oN1 : Own W1 N #[.int .i64 most, .int .i64 last, .int .i64 turns, .map (some bm)] := oN.keep hB1
    have oC1 : Own W1 w.heap.size #[.int .i64 x, .int .i64 y] := (by rw [hW1]; with_reducible (repeat' first | assumption | refine Own.drew ?_ | refine Own.drewN ?_ _ | (refine Own.at ?_; first | rfl | (simp; done)) | refine Own.past ?_ _))
    have b0 : W1.cell? ⟨N, 0, none⟩ = some (.int .i64 most) := oN1.cell 0
    have b1 : W1.cell? ⟨N, 1, none⟩ = some (.int .i64 last) := oN1.cell 1
    have b2 : W1.cell? ⟨N, 2, none⟩ = some (.int .i64 turns) := oN1.cell 2
    have b3 : W1.cell? ⟨N, 3, none⟩ = some (.map (some bm)) := oN1.cell 3
    have c0 : W1.cell? ⟨w.heap.size, 0, none⟩ = some (.int .i64 x) := oC1.cell 0
    have c1 : W1.cell? ⟨w.heap.size, 1, none⟩ = some (.int .i64 y) := oC1.cell 1
    have lN1 := oN1.lt
    have lC1 := oC1.lt
    have hk1 := HL.out W1.drew (by with_reducible (repeat' first | assumption | exact Below.refl _ _ | refine Below.drew ?_ | refine bdrewN ?_ _ | refine Below.setCell ?_ (by first | exact Nat.le_refl _ | (simp; done) | (simp; omega) | omega) _ | refine Below.alloc ?_ (by first | exact Nat.le_refl _ | (simp; done) | (simp; omega) | omega) _))
    rw [← hW1]
    clear hW1
    go_region_held3 (fun w' => w'.cell? ⟨N, 0, none⟩ = some (.int .i64 most) ∧ w'.cell? ⟨N, 1, none⟩ = some (.int .i64 last) ∧ w'.cell? ⟨N, 2, none⟩ = some (.int .i64 turns) ∧ w'.cell? ⟨N, 3, none⟩ = some (.map (some bm)) ∧ w'.cell? ⟨w.heap.size, 0, none⟩ = some (.int .i64 x) ∧ w'.cell? ⟨w.heap.size, 1, none⟩ = some (.int .i64 y) ∧ (Instr.lookup 46 (.map (some bm)) (.agg #[.int .i64 x, .int .i64 y]) false).run Try.prog w' = .ok (.pointer none) w') ((repeat' apply And.intro) <;> (first | (go_keep; done) | (go_simp; done))) (fail)
    go_wp2
    obtain ⟨W2, hW2⟩ : ∃ W2 : World, W2 = (W1.alloc (.cells #[.int .i64 0, .int .i64 0] 43)).drew := ⟨_, rfl⟩
    have hB2 : Below w.heap.size w W2 := (by rw [hW2]; with_reducible (repeat' first | assumption | exact Below.refl _ _ | refine Below.drew ?_ | refine bdrewN ?_ _ | refine Below.setCell ?_ (by first | exact Nat.le_refl _ | (simp; done) | (simp; omega) | omega) _ | refine Below.alloc ?_ (by first | exact Nat.le_refl _ | (simp; done) | (simp; omega) | omega) _))
    have oN2 : Own W2 N #[.int .i64 most, .int .i64 last, .int .i64 turns, .map (some bm)] := oN.keep hB2
    have oC2 : Own W2 w.heap.size #[.int .i64 x, .int .i64 y] := (by rw [hW2]; with_reducible (repeat' first | assumption | refine Own.drew ?_ | refine Own.drewN ?_ _ | (refine Own.at ?_; first | rfl | (simp; done)) | refine Own.past ?_ _))
    have oG2 : Own W2 W1.heap.size #[.int .i64 0, .int .i64 0] := (by rw [hW2]; with_reducible (repeat' first | assumption | refine Own.drew ?_ | refine Own.drewN ?_ _ | (refine Own.at ?_; first | rfl | (simp; done)) | refine Own.past ?_ _))
    have z1 := hB1.size
    rw [← hW2]
    obtain ⟨g, hg⟩ : ∃ g, g = W1.heap.size := ⟨_, rfl⟩
    rw [← hg] at oG2
    rw [← hg]
    have hgw : w.heap.size ≤ g := by omega
    have lG2 := oG2.lt
    have m0 : W2.cell? ⟨N, 0, none⟩ = some (.int .i64 most) := oN2.cell 0
    have m1 : W2.cell? ⟨N, 1, none⟩ = some (.int .i64 last) := oN2.cell 1
    have m2 : W2.cell? ⟨N, 2, none⟩ = some (.int .i64 turns) := oN2.cell 2
    have m3 : W2.cell? ⟨N, 3, none⟩ = some (.map (some bm)) := oN2.cell 3
    have k0 : W2.cell? ⟨w.heap.size, 0, none⟩ = some (.int .i64 x) := oC2.cell 0
    have k1 : W2.cell? ⟨w.heap.size, 1, none⟩ = some (.int .i64 y) := oC2.cell 1
    obtain ⟨w3, hup, hck, hm3⟩ := HP.out W2.drew g (by with_reducible (repeat' first | assumption | exact Below.refl _ _ | refine Below.drew ?_ | refine bdrewN ?_ _ | refine Below.setCell ?_ (by first | exact Nat.le_refl _ | (simp; done) | (simp; omega) | omega) _ | refine Below.alloc ?_ (by first | exact Nat.le_refl _ | (simp; done) | (simp; omega) | omega) _)) hgw (by with_reducible (repeat' first | assumption | refine Own.drew ?_ | refine Own.drewN ?_ _ | (refine Own.at ?_; first | rfl | (simp; done)) | refine Own.past ?_ _))
    have HCk : Hid (Ck F w3 N bm (upG G x y g) most last turns (upS S x y (some (0, 0))) (n + 1)) := hck
    have HM3 : Hid (Mut (fun k => k = bm) W2.drew w3) := hm3
    have oN3 := hck.own
    have oC3 : Own w3 w.heap.size #[.int .i64 x, .int .i64 y] := Own.mut (by with_reducible (repeat' first | assumption | refine Own.drew ?_ | refine Own.drewN ?_ _ | (refine Own.at ?_; first | rfl | (simp; done)) | refine Own.past ?_ _)) hm3 (fun q => by omega)
    have d0 : w3.cell? ⟨N, 0, none⟩ = some (.int .i64 most) := oN3.cell 0
    have d1 : w3.cell? ⟨N, 1, none⟩ = some (.int .i64 last) := oN3.cell 1
    have d2 : w3.cell? ⟨N, 2, none⟩ = some (.int .i64 turns) := oN3.cell 2
    have d3 : w3.cell? ⟨N, 3, none⟩ = some (.map (some bm)) := oN3.cell 3
    have f0 : w3.cell? ⟨w.heap.size, 0, none⟩ = some (.int .i64 x) := oC3.cell 0
    have f1 : w3.cell? ⟨w.heap.size, 1, none⟩ = some (.int .i64 y) := oC3.cell 1
    clear hW2 hg hck hm3 HP oN3 oC3 HL hk1 b0 b1 b2 b3 c0 c1 oN1 oC1
    refine wp_region_held_drew (S := (fun w' => w'.cell? ⟨N, 0, none⟩ = some (.int .i64 most) ∧ w'.cell? ⟨N, 1, none⟩ = some (.int .i64 last) ∧ w'.cell? ⟨N, 2, none⟩ = some (.int .i64 turns) ∧ w'.cell? ⟨N, 3, none⟩ = some (.map (some bm)) ∧ w'.cell? ⟨w.heap.size, 0, none⟩ = some (.int .i64 x) ∧ w'.cell? ⟨w.heap.size, 1, none⟩ = some (.int .i64 y))) (by kernel_rfl) (by (try dsimp only); ((repeat' apply And.intro) <;> (first | (go_keep; done) | (go_simp; done)))) (fun hHeld => ?_)
    refine wpAnyH_take (i := 0) (v := .pointer (some ⟨N, 0, none⟩)) rfl (by kernel_rfl) (by kernel_rfl) (by kernel_rfl) (fun _ _ _ h => h) (Or.inl ⟨by first | rfl | kernel_rfl, by intro wz hSw; (try dsimp only at hSw); go_simp⟩) (by assumption) ?_
    (try simp only [Act.put, List.getElem_toArray, List.getElem_cons_succ, List.getElem_cons_zero, List.setIfInBounds_toArray, List.set_cons_zero, List.set_cons_succ])
    refine wpAnyH_take (i := 1) (v := .pointer (some ⟨N, 0, none⟩)) rfl (by kernel_rfl) (by kernel_rfl) (by kernel_rfl) (fun _ _ _ h => h) (Or.inl ⟨by first | rfl | kernel_rfl, by intro wz hSw; (try dsimp only at hSw); go_simp⟩) (by assumption) ?_
    (try simp only [Act.put, List.getElem_toArray, List.getElem_cons_succ, List.getElem_cons_zero, List.setIfInBounds_toArray, List.set_cons_zero, List.set_cons_succ])
    refine wpAnyH_take (i := 2) (v := .pointer (some ⟨N, 3, none⟩)) rfl (by kernel_rfl) (by kernel_rfl) (by kernel_rfl) (fun _ _ _ h => h) (Or.inl ⟨by first | rfl | kernel_rfl, by intro wz hSw; (try dsimp only at hSw); go_simp⟩) (by assumption) ?_
    (try simp only [Act.put, List.getElem_toArray, List.getElem_cons_succ, List.getElem_cons_zero, List.setIfInBounds_toArray, List.set_cons_zero, List.set_cons_succ])
    refine wpAnyH_take (i := 3) (v := .map (some bm)) rfl (by kernel_rfl) (by kernel_rfl) (by kernel_rfl) (fun _ _ _ h => h) (Or.inl ⟨by first | rfl | kernel_rfl, by intro wz hSw; (try dsimp only at hSw); go_simp⟩) (by assumption) ?_
    (try simp only [Act.put, List.getElem_toArray, List.getElem_cons_succ, List.getElem_cons_zero, List.setIfInBounds_toArray, List.set_cons_zero, List.set_cons_succ])
    refine wpAnyH_take (i := 4) (v := (.agg #[.int .i64 x, .int .i64 y])) rfl (by kernel_rfl) (by kernel_rfl) (by kernel_rfl) (fun _ _ _ h => h) (Or.inl ⟨by first | rfl | kernel_rfl, by intro wz hSw; (try dsimp only at hSw); go_simp⟩) (by assumption) ?_
    (try simp only [Act.put, List.getElem_toArray, List.getElem_cons_succ, List.getElem_cons_zero, List.setIfInBounds_toArray, List.set_cons_zero, List.set_cons_succ])
    refine wpAnyH_take (i := 5) (v := .pointer (some ⟨g, 0, none⟩)) rfl (by kernel_rfl) (by kernel_rfl) (by kernel_rfl) (fun _ _ _ h => h) (Or.inl ⟨by first | rfl | kernel_rfl, by intro wz hSw; (try dsimp only at hSw); go_simp⟩) (by assumption) ?_
    (try simp only [Act.put, List.getElem_toArray, List.getElem_cons_succ, List.getElem_cons_zero, List.setIfInBounds_toArray, List.set_cons_zero, List.set_cons_succ])
    refine wpAnyH_ready (rs := [6]) (by kernel_rfl) (by simp) ?_
    refine AllReadyH.cons rfl (fun K hK => ?_) ?_
    · go_simp
      refine hK.out _ _ (by (try dsimp only); first | (with_reducible assumption) | ((repeat' apply And.intro) <;> (first | (go_keep; done) | (go_simp; done)))) (fun hHeld => ?_)
      clear hK K
      (try simp only [Act.put, List.getElem_toArray, List.getElem_cons_succ, List.getElem_cons_zero, List.setIfInBounds_toArray, List.set_cons_zero, List.set_cons_succ])
      refine wpAnyH_done (by kernel_rfl) ?_ _
      go_wp2
      go_ret
      exact ⟨upG G x y g, by rw [show upG G x y g x y = g from if_pos ⟨rfl, rfl⟩]; rfl, HCk.out.keep (by with_reducible (repeat' first | assumption | exact Below.refl _ _ | refine Below.drew ?_ | refine bdrewN ?_ _ | refine Below.setCell ?_ (by first | exact Nat.le_refl _ | (simp; done) | (simp; omega) | omega) _ | refine Below.alloc ?_ (by first | exact Nat.le_refl _ | (simp; done) | (simp; omega) | omega) _)), ((Mut.of_below (show Below w.heap.size w W2.drew from by with_reducible (repeat' first | assumption | exact Below.refl _ _ | refine Below.drew ?_ | refine bdrewN ?_ _ | refine Below.setCell ?_ (by first | exact Nat.le_refl _ | (simp; done) | (simp; omega) | omega) _ | refine Below.alloc ?_ (by first | exact Nat.le_refl _ | (simp; done) | (simp; omega) | omega) _))).call HM3.out (fun b q => .inl (by rw [q]; exact hfB))).below (by with_reducible (repeat' first | assumption | exact Below.refl _ _ | refine Below.drew ?_ | refine bdrewN ?_ _ | refine Below.setCell ?_ (by first | exact Nat.le_refl _ | (simp; done) | (simp; omega) | omega) _ | refine Below.alloc ?_ (by first | exact Nat.le_refl _ | (simp; done) | (simp; omega) | omega) _))⟩
    exact AllReadyH.nil

set_option maxRecDepth 100000 in
theorem knew_bad (w : World) (most : Int) (h : most < 2 ∨ 1099511627776 < most) : Calls Try.prog 6 #[.int .i64 most] w fun e w' => e = .returned (.tuple #[.pointer none, .int .i64 1]) ∧ Below w.heap.size w w' := by
  by_cases h1 : most < 2
  · have h1' : decide (most < 2) = true := by simpa using h1
    go_enter Try.func6, Try.ntmps6
    go_wp2
    exact bodyPost_ret (v := .tuple #[.pointer none, .int .i64 1]) (by simp [results, Try.results6, go_sem]) rfl ⟨rfl, by with_reducible (repeat' first | assumption | exact Below.refl _ _ | refine Below.drew ?_ | refine bdrewN ?_ _ | refine Below.setCell ?_ (by first | exact Nat.le_refl _ | (simp; done) | (simp; omega) | omega) _ | refine Below.alloc ?_ (by first | exact Nat.le_refl _ | (simp; done) | (simp; omega) | omega) _)⟩
  · have h2 : 1099511627776 < most := by omega
    have h1' : decide (most < 2) = false := by simpa using h1
    have h2' : decide (1099511627776 < most) = true := by simpa using h2
    go_enter Try.func6, Try.ntmps6
    go_wp2
    exact bodyPost_ret (v := .tuple #[.pointer none, .int .i64 1]) (by simp [results, Try.results6, go_sem]) rfl ⟨rfl, by with_reducible (repeat' first | assumption | exact Below.refl _ _ | refine Below.drew ?_ | refine bdrewN ?_ _ | refine Below.setCell ?_ (by first | exact Nat.le_refl _ | (simp; done) | (simp; omega) | omega) _ | refine Below.alloc ?_ (by first | exact Nat.le_refl _ | (simp; done) | (simp; omega) | omega) _)⟩
set_option maxRecDepth 100000 in
theorem knew_any (w : World) (most : Int) (h1 : 2 ≤ most) (h2 : most ≤ 1099511627776) : Calls Try.prog 6 #[.int .i64 most] w fun e w' => ∃ N bm, e = .returned (.tuple #[.pointer (some ⟨N, 0, none⟩), .int .i64 0]) ∧ Ck (fun b => b < w.heap.size) w' N bm (fun _ _ => 0) most 0 0 (fun _ _ => none) 0 ∧ Below w.heap.size w w' := by
  have hmm : ∀ (W : World), (Instr.makeMap 46 none).run Try.prog W = .ok (.map (some W.heap.size)) (W.alloc (.map #[] 0)) := fun W => run_makeMap _ W
  have hn1 : ¬ most < 2 := by omega
  have hn2 : ¬ 1099511627776 < most := by omega
  have h1' : decide (most < 2) = false := by simpa using hn1
  have h2' : decide (1099511627776 < most) = false := by simpa using hn2
  go_enter Try.func6, Try.ntmps6
  go_wp2
  exact bodyPost_ret (v := .tuple #[.pointer (some ⟨w.heap.size + 1, 0, none⟩), .int .i64 0]) (by simp [results, Try.results6, go_sem]) rfl ⟨w.heap.size + 1, rfl, ⟨w.heap.size, Ck.new (by with_reducible (repeat' first | assumption | refine Own.drew ?_ | refine Own.drewN ?_ _ | (refine Own.at ?_; first | rfl | (simp; done)) | refine Own.past ?_ _)) ((MapF.made w).keep (by with_reducible (repeat' first | assumption | exact Below.refl _ _ | refine Below.drew ?_ | refine bdrewN ?_ _ | refine Below.setCell ?_ (by first | exact Nat.le_refl _ | (simp; done) | (simp; omega) | omega) _ | refine Below.alloc ?_ (by first | exact Nat.le_refl _ | (simp; done) | (simp; omega) | omega) _))) (by omega) (by omega) (by omega)⟩, by with_reducible (repeat' first | assumption | exact Below.refl _ _ | refine Below.drew ?_ | refine bdrewN ?_ _ | refine Below.setCell ?_ (by first | exact Nat.le_refl _ | (simp; done) | (simp; omega) | omega) _ | refine Below.alloc ?_ (by first | exact Nat.le_refl _ | (simp; done) | (simp; omega) | omega) _)⟩
end Go.Proofs.Ytmajbophgdimlaa
