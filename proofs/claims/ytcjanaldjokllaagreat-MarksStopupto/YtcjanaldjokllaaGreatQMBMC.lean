/- Marks in memory; the contracts of New, State, Clean, Peak. · The contract of All: all states, row by row. -/
import Derived.Test.YtcjanaldjokllaaGreatQFRFXMA
import Derived.Deep.RegionHeld3
import Derived.Deep.RegionLaw
namespace Go.Proofs.YtcjanaldjokllaaGreat
open Go.RowKit Go.Shelf
set_option linter.all false
/-- Marks at N over the Deps at Nd, their map bm; the states M; the peak. -/
structure Mm (w : World) (N Nd bm n : Nat) (M : Ms) (pk : Int) : Prop where
  own : Own w N #[.pointer (some ⟨Nd, 0, none⟩), .map (some bm), .int .i64 pk]
  map : MapI w bm n M
  ne : N ≠ bm
theorem Mm.keep {w w' : World} {N Nd bm n : Nat} {M : Ms} {pk : Int} (h : Mm w N Nd bm n M pk) (hb : Below w.heap.size w w') : Mm w' N Nd bm n M pk := ⟨h.own.keep hb, MapF.keep h.map hb, h.ne⟩
theorem Mm.more {w : World} {N Nd bm n n' : Nat} {M : Ms} {pk : Int} (h : Mm w N Nd bm n M pk) (hn : n ≤ n') : Mm w N Nd bm n' M pk := { h with map := MapF.more h.map hn }
theorem Mm.mut {S : Nat → Prop} {w w' : World} {N Nd bm n : Nat} {M : Ms} {pk : Int} (h : Mm w N Nd bm n M pk) (hm : Mut S w w') (h1 : ¬ S N) (h2 : ¬ S bm) : Mm w' N Nd bm n M pk := ⟨h.own.mut hm h1, MapF.mut h.map hm h2, h.ne⟩
/-- The map was turned. -/
theorem Mm.turn {w w' : World} {N Nd bm n n' : Nat} {M M' : Ms} {pk : Int} (h : Mm w N Nd bm n M pk) (hM : MapI w' bm n' M') (hm : Mut (fun k => k = bm) w w') : Mm w' N Nd bm n' M' pk := ⟨h.own.mut hm (fun q => h.ne q), hM, h.ne⟩
theorem Mm.peak {w : World} {N Nd bm n : Nat} {M : Ms} {pk : Int} (h : Mm w N Nd bm n M pk) (v : Int) : Mm (w.setCell ⟨N, 2, none⟩ (.int .i64 v)) N Nd bm n M v :=
  ⟨own_put' (k := 2) h.own (by simp), MapF.of_block h.map (Below.heap_setCell w ⟨N, 2, none⟩ _ bm (fun q => h.ne q.symm)), h.ne⟩
theorem zeroI (w : World) : (zeroValue 3).run Tryz.prog w = .ok (.int .i64 0) w := by kernel_rfl
set_option maxRecDepth 100000 in
theorem mnew_any (w : World) (Nd : Nat) : Calls Tryz.prog 20 #[.pointer (some ⟨Nd, 0, none⟩)] w fun e w' => ∃ N bm, e = .returned (.pointer (some ⟨N, 0, none⟩)) ∧ Mm w' N Nd bm 0 (fun _ _ => none) 0 ∧ w.heap.size ≤ N ∧ w.heap.size ≤ bm ∧ Below w.heap.size w w' := by
  have hmm : ∀ (W : World), (Instr.makeMap 81 none).run Tryz.prog W = .ok (.map (some W.heap.size)) (W.alloc (.map #[] 0)) := fun W => run_makeMap _ W
  go_enter Tryz.func20, Tryz.ntmps20
  go_wp2
  go_ret
  exact ⟨w.heap.size + 1, w.heap.size, rfl, ⟨by with_reducible (repeat' first | assumption | refine Own.drew ?_ | refine Own.drewN ?_ _ | (refine Own.at ?_; first | rfl | (simp; done)) | refine Own.past ?_ _), MapF.keep (MapF.madeI w) zqb, by omega⟩, by omega, by omega, by with_reducible (repeat' first | assumption | exact Below.refl _ _ | refine Below.drew ?_ | refine bdrewN ?_ _ | refine Below.setCell ?_ (by first | exact Nat.le_refl _ | (simp; done) | (simp; omega) | omega) _ | refine Below.alloc ?_ (by first | exact Nat.le_refl _ | (simp; done) | (simp; omega) | omega) _)⟩
theorem mnew_nil (w : World) : Calls Tryz.prog 20 #[.pointer none] w fun e w' => e = .returned (.pointer none) ∧ Below w.heap.size w w' := by
  go_enter Tryz.func20, Tryz.ntmps20
  go_wp2
  go_ret
  exact ⟨rfl, by with_reducible (repeat' first | assumption | exact Below.refl _ _ | refine Below.drew ?_ | refine bdrewN ?_ _ | refine Below.setCell ?_ (by first | exact Nat.le_refl _ | (simp; done) | (simp; omega) | omega) _ | refine Below.alloc ?_ (by first | exact Nat.le_refl _ | (simp; done) | (simp; omega) | omega) _)⟩
set_option maxRecDepth 100000 in
set_option maxHeartbeats 2000000 in
theorem mstate_any (w : World) (N Nd bm n : Nat) (M : Ms) (pk : Int) (x y : Int) (h : Mm w N Nd bm n M pk) (hx : I64 x) (hy : I64 y) : Calls Tryz.prog 13 #[.pointer (some ⟨N, 0, none⟩), .agg #[.int .i64 x, .int .i64 y]] w fun e w' => e = .returned (.tuple #[.int .i64 (stM M x y), .bool (M x y).isSome]) ∧ Below w.heap.size w w' := by
  have mixed : Tryz.prog.follows .mixedOrders = true := by kernel_rfl
  have HL : Hid (∀ W, Below w.heap.size w W → (Instr.lookup 81 (.map (some bm)) (.agg #[.int .i64 x, .int .i64 y]) true).run Tryz.prog W = .ok (.tuple #[.int .i64 (stM M x y), .bool (M x y).isSome]) W) := (show _ from fun W hb => MapF.lookOkI (MapF.keep h.map hb) Tryz.underlying81 (zeroI W) x y hx hy)
  have oN := h.own
  have lN := oN.lt
  clear h hx hy
  go_enter Tryz.func13, Tryz.ntmps13
  go_wp2
  obtain ⟨W1, hW1⟩ : ∃ W1 : World, W1 = (w.alloc (.cells #[.int .i64 x, .int .i64 y] 32)) := ⟨_, rfl⟩
  have hB1 : Below w.heap.size w W1 := (by rw [hW1]; with_reducible (repeat' first | assumption | exact Below.refl _ _ | refine Below.drew ?_ | refine bdrewN ?_ _ | refine Below.setCell ?_ (by first | exact Nat.le_refl _ | (simp; done) | (simp; omega) | omega) _ | refine Below.alloc ?_ (by first | exact Nat.le_refl _ | (simp; done) | (simp; omega) | omega) _))
  have oN1 : Own W1 N #[.pointer (some ⟨Nd, 0, none⟩), .map (some bm), .int .i64 pk] := oN.keep hB1
  have oC1 : Own W1 w.heap.size #[.int .i64 x, .int .i64 y] := (by rw [hW1]; with_reducible (repeat' first | assumption | refine Own.drew ?_ | refine Own.drewN ?_ _ | (refine Own.at ?_; first | rfl | (simp; done)) | refine Own.past ?_ _))
  have b0 : W1.cell? ⟨N, 0, none⟩ = some (.pointer (some ⟨Nd, 0, none⟩)) := oN1.cell 0
  have b1 : W1.cell? ⟨N, 1, none⟩ = some (.map (some bm)) := oN1.cell 1
  have b2 : W1.cell? ⟨N, 2, none⟩ = some (.int .i64 pk) := oN1.cell 2
  have c0 : W1.cell? ⟨w.heap.size, 0, none⟩ = some (.int .i64 x) := oC1.cell 0
  have c1 : W1.cell? ⟨w.heap.size, 1, none⟩ = some (.int .i64 y) := oC1.cell 1
  have lN1 := oN1.lt
  have lC1 := oC1.lt
  have hk1 := HL.out W1.drew zqb
  rw [← hW1]
  clear hW1
  go_region_held3 (fun w' => w'.cell? ⟨N, 0, none⟩ = some (.pointer (some ⟨Nd, 0, none⟩)) ∧ w'.cell? ⟨N, 1, none⟩ = some (.map (some bm)) ∧ w'.cell? ⟨N, 2, none⟩ = some (.int .i64 pk) ∧ w'.cell? ⟨w.heap.size, 0, none⟩ = some (.int .i64 x) ∧ w'.cell? ⟨w.heap.size, 1, none⟩ = some (.int .i64 y) ∧ (Instr.lookup 81 (.map (some bm)) (.agg #[.int .i64 x, .int .i64 y]) true).run Tryz.prog w' = .ok (.tuple #[.int .i64 (stM M x y), .bool (M x y).isSome]) w') ((repeat' apply And.intro) <;> (first | (go_keep; done) | (go_simp; done))) (fail)
  go_wp2
  exact bodyPost_ret (v := .tuple #[.int .i64 (stM M x y), .bool (M x y).isSome]) (by simp [results, Tryz.results13, go_sem]) rfl ⟨rfl, by with_reducible (repeat' first | assumption | exact Below.refl _ _ | refine Below.drew ?_ | refine bdrewN ?_ _ | refine Below.setCell ?_ (by first | exact Nat.le_refl _ | (simp; done) | (simp; omega) | omega) _ | refine Below.alloc ?_ (by first | exact Nat.le_refl _ | (simp; done) | (simp; omega) | omega) _)⟩
theorem mpeak_any (w : World) (N Nd bm n : Nat) (M : Ms) (pk : Int) (h : Mm w N Nd bm n M pk) : Calls Tryz.prog 16 #[.pointer (some ⟨N, 0, none⟩)] w fun e w' => e = .returned (.int .i64 pk) ∧ Below w.heap.size w w' := by
  have oN := h.own
  have b0 : w.cell? ⟨N, 0, none⟩ = some (.pointer (some ⟨Nd, 0, none⟩)) := oN.cell 0
  have b1 : w.cell? ⟨N, 1, none⟩ = some (.map (some bm)) := oN.cell 1
  have b2 : w.cell? ⟨N, 2, none⟩ = some (.int .i64 pk) := oN.cell 2
  have lN := oN.lt
  clear h
  go_enter Tryz.func16, Tryz.ntmps16
  go_wp2
  go_ret
  exact ⟨rfl, by with_reducible (repeat' first | assumption | exact Below.refl _ _ | refine Below.drew ?_ | refine bdrewN ?_ _ | refine Below.setCell ?_ (by first | exact Nat.le_refl _ | (simp; done) | (simp; omega) | omega) _ | refine Below.alloc ?_ (by first | exact Nat.le_refl _ | (simp; done) | (simp; omega) | omega) _)⟩
/-- What Clean makes of the states. -/
def clM (M : Ms) (x y : Int) : Ms := if (M x y).isSome = true then upM M x y (some 0) else M
set_option maxRecDepth 100000 in
set_option maxHeartbeats 2000000 in
theorem mclean_any (w : World) (N Nd bm n : Nat) (M : Ms) (pk : Int) (x y : Int) (h : Mm w N Nd bm n M pk) (hx : I64 x) (hy : I64 y) (hn : n ≤ 4000000000000000) : Calls Tryz.prog 28 #[.pointer (some ⟨N, 0, none⟩), .agg #[.int .i64 x, .int .i64 y]] w fun e w' => e = .returned (.tuple #[]) ∧ Mm w' N Nd bm (n + 1) (clM M x y) pk ∧ Mut (fun b => b = bm) w w' := by
  have mixed : Tryz.prog.follows .mixedOrders = true := by kernel_rfl
  have HL : Hid (∀ W, Below w.heap.size w W → (Instr.lookup 81 (.map (some bm)) (.agg #[.int .i64 x, .int .i64 y]) true).run Tryz.prog W = .ok (.tuple #[.int .i64 (stM M x y), .bool (M x y).isSome]) W) := (show _ from fun W hb => MapF.lookOkI (MapF.keep h.map hb) Tryz.underlying81 (zeroI W) x y hx hy)
  have HP : Hid (∀ W, Below w.heap.size w W → ∃ w3, (Instr.mapUpdate 81 (.map (some bm)) (.agg #[.int .i64 x, .int .i64 y]) (.int .i64 0)).run Tryz.prog W = .ok () w3 ∧ Mm w3 N Nd bm (n + 1) (upM M x y (some 0)) pk ∧ Mut (fun k => k = bm) W w3) := (show _ from fun W hb => by
    have h1 := h.keep hb
    obtain ⟨w3, k1, k2, k3⟩ := MapF.putI h1.map Tryz.underlying81 (by unfold maxLen; omega) x y hx hy 0
    exact ⟨w3, k1, h1.turn k2 k3, k3⟩)
  have HK : Hid (Mm w N Nd bm n M pk) := h
  have oN := h.own
  have lN := oN.lt
  have lB := MapF.lt h.map
  have hne := h.ne
  clear h hx hy
  cases hi : (M x y).isSome with
  | false =>
    have hc : clM M x y = M := by unfold clM; rw [hi]; rfl
    rw [hc]
    rw [hi] at HL
    clear hi hc HP
    go_enter Tryz.func28, Tryz.ntmps28
    go_wp2
    obtain ⟨W1, hW1⟩ : ∃ W1 : World, W1 = (w.alloc (.cells #[.int .i64 x, .int .i64 y] 32)) := ⟨_, rfl⟩
    have hB1 : Below w.heap.size w W1 := (by rw [hW1]; with_reducible (repeat' first | assumption | exact Below.refl _ _ | refine Below.drew ?_ | refine bdrewN ?_ _ | refine Below.setCell ?_ (by first | exact Nat.le_refl _ | (simp; done) | (simp; omega) | omega) _ | refine Below.alloc ?_ (by first | exact Nat.le_refl _ | (simp; done) | (simp; omega) | omega) _))
    have oN1 : Own W1 N #[.pointer (some ⟨Nd, 0, none⟩), .map (some bm), .int .i64 pk] := oN.keep hB1
    have oC1 : Own W1 w.heap.size #[.int .i64 x, .int .i64 y] := (by rw [hW1]; with_reducible (repeat' first | assumption | refine Own.drew ?_ | refine Own.drewN ?_ _ | (refine Own.at ?_; first | rfl | (simp; done)) | refine Own.past ?_ _))
    have b0 : W1.cell? ⟨N, 0, none⟩ = some (.pointer (some ⟨Nd, 0, none⟩)) := oN1.cell 0
    have b1 : W1.cell? ⟨N, 1, none⟩ = some (.map (some bm)) := oN1.cell 1
    have b2 : W1.cell? ⟨N, 2, none⟩ = some (.int .i64 pk) := oN1.cell 2
    have c0 : W1.cell? ⟨w.heap.size, 0, none⟩ = some (.int .i64 x) := oC1.cell 0
    have c1 : W1.cell? ⟨w.heap.size, 1, none⟩ = some (.int .i64 y) := oC1.cell 1
    have lN1 := oN1.lt
    have lC1 := oC1.lt
    have hk1 := HL.out W1.drew zqb
    rw [← hW1]
    clear hW1
    go_region_held3 (fun w' => w'.cell? ⟨N, 0, none⟩ = some (.pointer (some ⟨Nd, 0, none⟩)) ∧ w'.cell? ⟨N, 1, none⟩ = some (.map (some bm)) ∧ w'.cell? ⟨N, 2, none⟩ = some (.int .i64 pk) ∧ w'.cell? ⟨w.heap.size, 0, none⟩ = some (.int .i64 x) ∧ w'.cell? ⟨w.heap.size, 1, none⟩ = some (.int .i64 y) ∧ (Instr.lookup 81 (.map (some bm)) (.agg #[.int .i64 x, .int .i64 y]) true).run Tryz.prog w' = .ok (.tuple #[.int .i64 (stM M x y), .bool false]) w') ((repeat' apply And.intro) <;> (first | (go_keep; done) | (go_simp; done))) (fail)
    go_wp2
    go_end0
    exact ⟨rfl, (HK.out.keep zqb).more (by omega), Mut.of_below zqb⟩
  | true =>
    have hc : clM M x y = upM M x y (some 0) := by unfold clM; rw [hi]; rfl
    rw [hc]
    rw [hi] at HL
    clear hi hc
    go_enter Tryz.func28, Tryz.ntmps28
    go_wp2
    obtain ⟨W1, hW1⟩ : ∃ W1 : World, W1 = (w.alloc (.cells #[.int .i64 x, .int .i64 y] 32)) := ⟨_, rfl⟩
    have hB1 : Below w.heap.size w W1 := (by rw [hW1]; with_reducible (repeat' first | assumption | exact Below.refl _ _ | refine Below.drew ?_ | refine bdrewN ?_ _ | refine Below.setCell ?_ (by first | exact Nat.le_refl _ | (simp; done) | (simp; omega) | omega) _ | refine Below.alloc ?_ (by first | exact Nat.le_refl _ | (simp; done) | (simp; omega) | omega) _))
    have oN1 : Own W1 N #[.pointer (some ⟨Nd, 0, none⟩), .map (some bm), .int .i64 pk] := oN.keep hB1
    have oC1 : Own W1 w.heap.size #[.int .i64 x, .int .i64 y] := (by rw [hW1]; with_reducible (repeat' first | assumption | refine Own.drew ?_ | refine Own.drewN ?_ _ | (refine Own.at ?_; first | rfl | (simp; done)) | refine Own.past ?_ _))
    have b0 : W1.cell? ⟨N, 0, none⟩ = some (.pointer (some ⟨Nd, 0, none⟩)) := oN1.cell 0
    have b1 : W1.cell? ⟨N, 1, none⟩ = some (.map (some bm)) := oN1.cell 1
    have b2 : W1.cell? ⟨N, 2, none⟩ = some (.int .i64 pk) := oN1.cell 2
    have c0 : W1.cell? ⟨w.heap.size, 0, none⟩ = some (.int .i64 x) := oC1.cell 0
    have c1 : W1.cell? ⟨w.heap.size, 1, none⟩ = some (.int .i64 y) := oC1.cell 1
    have lN1 := oN1.lt
    have lC1 := oC1.lt
    have hk1 := HL.out W1.drew zqb
    rw [← hW1]
    clear hW1
    go_region_held3 (fun w' => w'.cell? ⟨N, 0, none⟩ = some (.pointer (some ⟨Nd, 0, none⟩)) ∧ w'.cell? ⟨N, 1, none⟩ = some (.map (some bm)) ∧ w'.cell? ⟨N, 2, none⟩ = some (.int .i64 pk) ∧ w'.cell? ⟨w.heap.size, 0, none⟩ = some (.int .i64 x) ∧ w'.cell? ⟨w.heap.size, 1, none⟩ = some (.int .i64 y) ∧ (Instr.lookup 81 (.map (some bm)) (.agg #[.int .i64 x, .int .i64 y]) true).run Tryz.prog w' = .ok (.tuple #[.int .i64 (stM M x y), .bool true]) w') ((repeat' apply And.intro) <;> (first | (go_keep; done) | (go_simp; done))) (fail)
    go_wp2
    obtain ⟨w3, hup, hmm, hm3⟩ := HP.out W1.drew.drew zqb
    have HMm : Hid (Mm w3 N Nd bm (n + 1) (upM M x y (some 0)) pk) := hmm
    have HM3 : Hid (Mut (fun k => k = bm) W1.drew.drew w3) := hm3
    have oN3 := hmm.own
    have oC3 : Own w3 w.heap.size #[.int .i64 x, .int .i64 y] := Own.mut (by with_reducible (repeat' first | assumption | refine Own.drew ?_ | refine Own.drewN ?_ _ | (refine Own.at ?_; first | rfl | (simp; done)) | refine Own.past ?_ _)) hm3 (fun q => by omega)
    have d0 : w3.cell? ⟨N, 0, none⟩ = some (.pointer (some ⟨Nd, 0, none⟩)) := oN3.cell 0
    have d1 : w3.cell? ⟨N, 1, none⟩ = some (.map (some bm)) := oN3.cell 1
    have d2 : w3.cell? ⟨N, 2, none⟩ = some (.int .i64 pk) := oN3.cell 2
    have f0 : w3.cell? ⟨w.heap.size, 0, none⟩ = some (.int .i64 x) := oC3.cell 0
    have f1 : w3.cell? ⟨w.heap.size, 1, none⟩ = some (.int .i64 y) := oC3.cell 1
    clear hmm hm3 HP oN3 oC3 HL hk1 oN1 oC1
    refine wp_region_held_drew (S := (fun w' => w'.cell? ⟨N, 0, none⟩ = some (.pointer (some ⟨Nd, 0, none⟩)) ∧ w'.cell? ⟨N, 1, none⟩ = some (.map (some bm)) ∧ w'.cell? ⟨N, 2, none⟩ = some (.int .i64 pk) ∧ w'.cell? ⟨w.heap.size, 0, none⟩ = some (.int .i64 x) ∧ w'.cell? ⟨w.heap.size, 1, none⟩ = some (.int .i64 y))) (by kernel_rfl) (by (try dsimp only); ((repeat' apply And.intro) <;> (first | (go_keep; done) | (go_simp; done)))) (fun hHeld => ?_)
    refine wpAnyH_take (i := 0) (v := .pointer (some ⟨N, 0, none⟩)) rfl (by kernel_rfl) (by kernel_rfl) (by kernel_rfl) (fun _ _ _ h => h) (Or.inl ⟨by first | rfl | kernel_rfl, by intro wz hSw; (try dsimp only at hSw); go_simp⟩) (by assumption) ?_
    (try simp only [Act.put, List.getElem_toArray, List.getElem_cons_succ, List.getElem_cons_zero, List.setIfInBounds_toArray, List.set_cons_zero, List.set_cons_succ])
    refine wpAnyH_take (i := 1) (v := .pointer (some ⟨N, 0, none⟩)) rfl (by kernel_rfl) (by kernel_rfl) (by kernel_rfl) (fun _ _ _ h => h) (Or.inl ⟨by first | rfl | kernel_rfl, by intro wz hSw; (try dsimp only at hSw); go_simp⟩) (by assumption) ?_
    (try simp only [Act.put, List.getElem_toArray, List.getElem_cons_succ, List.getElem_cons_zero, List.setIfInBounds_toArray, List.set_cons_zero, List.set_cons_succ])
    refine wpAnyH_take (i := 2) (v := .pointer (some ⟨N, 1, none⟩)) rfl (by kernel_rfl) (by kernel_rfl) (by kernel_rfl) (fun _ _ _ h => h) (Or.inl ⟨by first | rfl | kernel_rfl, by intro wz hSw; (try dsimp only at hSw); go_simp⟩) (by assumption) ?_
    (try simp only [Act.put, List.getElem_toArray, List.getElem_cons_succ, List.getElem_cons_zero, List.setIfInBounds_toArray, List.set_cons_zero, List.set_cons_succ])
    refine wpAnyH_take (i := 3) (v := .map (some bm)) rfl (by kernel_rfl) (by kernel_rfl) (by kernel_rfl) (fun _ _ _ h => h) (Or.inl ⟨by first | rfl | kernel_rfl, by intro wz hSw; (try dsimp only at hSw); go_simp⟩) (by assumption) ?_
    (try simp only [Act.put, List.getElem_toArray, List.getElem_cons_succ, List.getElem_cons_zero, List.setIfInBounds_toArray, List.set_cons_zero, List.set_cons_succ])
    refine wpAnyH_take (i := 4) (v := (.agg #[.int .i64 x, .int .i64 y])) rfl (by kernel_rfl) (by kernel_rfl) (by kernel_rfl) (fun _ _ _ h => h) (Or.inl ⟨by first | rfl | kernel_rfl, by intro wz hSw; (try dsimp only at hSw); go_simp⟩) (by assumption) ?_
    (try simp only [Act.put, List.getElem_toArray, List.getElem_cons_succ, List.getElem_cons_zero, List.setIfInBounds_toArray, List.set_cons_zero, List.set_cons_succ])
    refine wpAnyH_ready (rs := [5]) (by kernel_rfl) (by simp) ?_
    refine AllReadyH.cons rfl (fun K hK => ?_) ?_
    · go_simp
      refine hK.out _ _ (by (try dsimp only); first | (with_reducible assumption) | ((repeat' apply And.intro) <;> (first | (go_keep; done) | (go_simp; done)))) (fun hHeld => ?_)
      clear hK K
      (try simp only [Act.put, List.getElem_toArray, List.getElem_cons_succ, List.getElem_cons_zero, List.setIfInBounds_toArray, List.set_cons_zero, List.set_cons_succ])
      refine wpAnyH_done (by kernel_rfl) ?_ _
      go_wp2
      go_end0
      exact ⟨rfl, HMm.out.keep zqb, ((Mut.of_below (show Below w.heap.size w W1.drew.drew from by with_reducible (repeat' first | assumption | exact Below.refl _ _ | refine Below.drew ?_ | refine bdrewN ?_ _ | refine Below.setCell ?_ (by first | exact Nat.le_refl _ | (simp; done) | (simp; omega) | omega) _ | refine Below.alloc ?_ (by first | exact Nat.le_refl _ | (simp; done) | (simp; omega) | omega) _))).call HM3.out (fun b q => .inl q)).below zqb⟩
    exact AllReadyH.nil
end Go.Proofs.YtcjanaldjokllaaGreat
namespace Go.Proofs.YtcjanaldjokllaaGreat
open Go.RowKit Go.Sort Go.Shelf
set_option linter.all false
/-- A cell with its state. -/
def mkS (M : Ms) (c : Cl) : List Value := [.int .i64 c.r, .int .i64 c.c, .int .i64 (stM M c.r c.c)]
theorem mkS_len (M : Ms) (c : Cl) : (mkS M c).length = 3 := rfl
theorem mkS_one (M : Ms) (c : Cl) : ∀ u ∈ mkS M c, u.oneCell' = true := by
  intro u hu
  simp only [mkS, List.mem_cons, List.not_mem_nil, or_false] at hu
  rcases hu with rfl | rfl | rfl <;> rfl
abbrev RowMk (M : Ms) (w : World) (base : Nat) (v : Value) (l : List Cl) : Prop := RowG 61 3 (mkS M) w base v l
theorem infoMk : (Tryz.prog.info? 61).map (fun i => (i.zero, i.size, i.bytes)) = some (some (.agg #[.int .i64 0, .int .i64 0, .int .i64 0]), 3, 24) := by kernel_rfl
/-- A list of states, one more. -/
def ApS (M : Ms) (b : Nat) : Prop := ∀ W (v : Value) (L : List Cl) vb (x : Cl), RowMk M W b v L → W.heap[vb]? = some (.cells (mkS M x).toArray 61 (0, 0)) → b ≤ W.heap.size → L.length ≤ 4000000000000 → ∀ ty, ∃ v' w', (Builtin.append_ #[58, 58] ty #[v, .slice (some ⟨vb, 0, none⟩) 1 1]).run Tryz.prog W = .ok v' w' ∧ RowMk M w' b v' (L ++ [x]) ∧ Below b W w' ∧ (v'.ownBlock = v.ownBlock ∨ v'.ownBlock = some W.heap.size) ∧ Mut (fun b => v.ownBlock = some b) W w'
theorem apS (M : Ms) (b : Nat) : ApS M b := by
  obtain ⟨i0, hi0, hz0, hzs, hzb⟩ := info_parts infoMk
  exact fun W v L vb x r1 r2 r3 r4 ty => app_one Tryz.underlying58 hi0 hz0 hzs hzb rfl (by omega) (mkS_len M) (mkS_one M) r1 r2 r3 (by omega) (by omega) ty
set_option maxRecDepth 100000 in
set_option maxHeartbeats 2000000 in
theorem mall1_any (M : Ms) (x y : Cl) (w : World) : Calls Tryz.prog 33 #[.agg #[.int .i64 x.r, .int .i64 x.c, .int .i64 (stM M x.r x.c)], .agg #[.int .i64 y.r, .int .i64 y.c, .int .i64 (stM M y.r y.c)]] w fun e w' => e = .returned (.int .i64 (cmpK x y)) ∧ Gr w w' := by
  have HC : Hid (∀ W, Calls Tryz.prog 34 #[.agg #[.int .i64 x.r, .int .i64 x.c], .agg #[.int .i64 y.r, .int .i64 y.c]] W fun e w' => e = .returned (.int .i64 (cmpC x.r x.c y.r y.c)) ∧ Gr W w') := ocel_gr _ _ _ _
  unfold cmpK
  generalize stM M x.r x.c = s1 at *
  generalize stM M y.r y.c = s2 at *
  generalize cmpC x.r x.c y.r y.c = n at *
  go_enter Tryz.func33, Tryz.ntmps33
  go_wp2_with (go_at_call 34; refine (HC.out _).mono ?_; rintro e w1 ⟨rfl, hg1⟩; have hG1 : Gr w w1 := Gr.trans (by with_reducible (repeat' first | assumption | exact Gr.refl _ | refine Gr.drew ?_ | refine Gr.drewN ?_ _ | refine Gr.alloc ?_ _)) hg1; clear hg1)
  go_ret
  exact ⟨rfl, by with_reducible (repeat' first | assumption | exact Gr.refl _ | refine Gr.drew ?_ | refine Gr.drewN ?_ _ | refine Gr.alloc ?_ _)⟩
theorem sortm_any (M : Ms) (w : World) (base : Nat) (v : Value) (l : List Cl) (hv : RowMk M w base v l) (hl : l.length < 4611686018427387904) : Calls Tryz.prog 32 #[v, .func (.func 33) #[] #[]] w fun e w' => e = .returned (.tuple #[]) ∧ RowMk M w' base v (srtL cmpK l) ∧ Mut (fun b => v.ownBlock = some b) w w' :=
  sort_row ⟨⟨0, 0⟩⟩ Tryz.sortM (mkS_len M) (mkS_one M) Tryz.isAgg61 Tryz.sizeOf61 cmpK cmpK_swo cmpK_tot 33 (enters_of Tryz.func33 (by kernel_rfl) rfl) (fun x y W => mall1_any M x y W) hv hl
/-- All cells that have a state, row by row. -/
def IsAll (M : Ms) (l : List Cl) : Prop := SrtK l ∧ ∀ c, c ∈ l ↔ M c.r c.c ≠ none
theorem IsAll.uniq {M : Ms} {l k : List Cl} (h : IsAll M l) (h' : IsAll M k) : l = k := srt_uniq cmpK_as l k h.1 h'.1 (fun z => (h.2 z).trans (h'.2 z).symm)
theorem IsAll.few {M : Ms} {l : List Cl} (h : IsAll M l) (hM : OkM M) : l.length ≤ 1048576 := srtK_few h.1 (fun z hz => by
  have q := (h.2 z).1 hz
  cases e : M z.r z.c with
  | none => exact absurd e q
  | some s => exact (hM _ _ _ e).2.2)
theorem srt_strict {K : List Cl} (hn : K.Nodup) : SrtK (srtL cmpK K) := by
  have h1 := srtL_srt cmpK_swo K
  have h2 : (srtL cmpK K).Nodup := (srtL_perm cmpK K).nodup_iff.2 hn
  refine (h1.and h2).imp (fun {a b} q => ?_)
  have q0 : cmpK a b ≠ 0 := fun e => q.2 ((cmpK_zero a b).1 e)
  have q1 := q.1
  cases hl : ltOf cmpK a b with
  | true => unfold ltOf at hl; simpa using hl
  | false =>
    have h3 : ltOf cmpK b a = false := by unfold ltOf; simpa using q1
    exact absurd ((cmpK_zero a b).2 (cmpK_tot a b hl h3)) q0
theorem isAll_srt {M : Ms} {K : List Cl} (hn : K.Nodup) (hm : ∀ c : Cl, c ∈ K ↔ M c.r c.c ≠ none) : IsAll M (srtL cmpK K) :=
  ⟨srt_strict hn, fun c => (srtL_perm cmpK K).mem_iff.trans (hm c)⟩
theorem nodup_few {K : List Cl} (hn : K.Nodup) (hm : ∀ z ∈ K, mayC z.r z.c = true) : K.length ≤ 1048576 := by
  have h := srtK_few (srt_strict hn) (fun z hz => hm z ((srtL_perm cmpK K).mem_iff.1 hz))
  rwa [srtL_len] at h
theorem RangeF.nodup {w : World} {b r n : Nat} {f : Int → Int → Value} {K : List Cl} {cnt : Nat} (h : RangeF w b r n f K cnt) : K.Nodup := by
  obtain ⟨D, left, h1, h2, h3, h4, h5, h6⟩ := h
  exact h5
theorem RangeF.told {w : World} {b r n : Nat} {f : Int → Int → Value} {K : List Cl} {cnt : Nat} (h : RangeF w b r n f K cnt) : ∀ k ∈ K, f k.r k.c ≠ nilS ∧ I64 k.r ∧ I64 k.c := by
  obtain ⟨D, left, h1, h2, h3, h4, h5, h6⟩ := h
  exact h6
set_option maxRecDepth 100000 in
set_option maxHeartbeats 4000000 in
theorem mall_any (w : World) (N Nd bm n : Nat) (M : Ms) (pk : Int) (h : Mm w N Nd bm n M pk) (hM : OkM M) : Calls Tryz.prog 18 #[.pointer (some ⟨N, 0, none⟩)] w fun e w' => ∃ v, e = .returned v ∧ ∃ l, RowMk M w' w.heap.size v l ∧ IsAll M l ∧ Below w.heap.size w w' := by
  have mixed : Tryz.prog.follows .mixedOrders = true := by kernel_rfl
  have oN := h.own
  have lN := oN.lt
  have a1 : w.cell? ⟨N, 1, none⟩ = some (.map (some bm)) := oN.cell 1
  have lB := MapF.lt h.map
  have HAP : Hid (ApS M w.heap.size) := (show ApS M _ from apS M _)
  have HMp : Hid (MapF w bm n (vI M)) := h.map
  have HMy : Hid (∀ a b, vI M a b ≠ nilS → vI M a b = .int .i64 (stM M a b) ∧ mayC a b = true) := (show _ from fun a b q => by
    cases e : M a b with
    | none => exact absurd (vI_none.2 e) q
    | some s => exact ⟨by unfold vI oI stM; rw [e]; rfl, (hM _ _ _ e).2.2⟩)
  have HI : Hid (∀ a b, M a b ≠ none → I64 a ∧ I64 b ∧ vI M a b ≠ nilS) := (show _ from fun a b q => by
    have q' : vI M a b ≠ nilS := fun e => q (vI_none.1 e)
    have := mayC_is (HMy.out a b q').2
    exact ⟨by constructor <;> omega, by constructor <;> omega, q'⟩)
  clear h hM
  go_enter Tryz.func18, Tryz.ntmps18
  go_wp2_with (at_range; refine wpList_rangeF rfl _ _ _ rfl rfl (HMp.out.keep zqb) Tryz.underlying81 ?_; intro w0 cnt0 hrg0 hb0 hs0; have HG0 : Hid (RangeF w0 bm w.heap.size n (vI M) [] cnt0) := (show RangeF _ _ _ _ _ _ _ from by simpa using hrg0); have hB0 : Below w.heap.size w w0 := bup zqb hb0; clear hrg0 hb0)
  go_frame
  go_loopw [3] (fun u3 w' => ∃ (K : List Cl) (cnt : Nat), Hid (RangeF w' bm w.heap.size n (vI M) K cnt) ∧ Hid (RowMk M w' w.heap.size u3 K) ∧ Below w.heap.size w w' ∧ Hid (∀ b, u3.ownBlock = some b → b ≠ w.heap.size)) (fun _ w' => w'.rangeLeft bm w.heap.size)
  case atStart => exact ⟨[], cnt0, by simpa using HG0, (show RowG _ _ _ _ _ _ _ from RowG.nil _), hB0, (show Hid _ from fun b q => by cases q)⟩
  case round =>
    clear HG0 hB0 hs0
    obtain ⟨K, cnt, HG, HR, hB, hne⟩ := hrel
    go_wp2_with (at_next; refine wpList_nextF rfl _ rfl rfl HG.out ?_ ?_)
    · intro hdone
      have HK : Hid (K.Nodup ∧ ∀ c : Cl, c ∈ K ↔ M c.r c.c ≠ none) := (show _ from ⟨HG.out.nodup, fun c => ⟨fun q e => (HG.out.told c q).1 (vI_none.2 e), fun q => by
        obtain ⟨h1, h2, h3⟩ := HI.out c.r c.c q
        exact hdone c.r c.c h1 h2 h3⟩⟩)
      have HLn : Hid (K.length < 4611686018427387904) := (show _ < _ from by
        have := nodup_few HK.out.1 (fun z hz => (HMy.out z.r z.c (HG.out.told z hz).1).2)
        omega)
      clear hdone
      go_wp2_with (go_loud (go_at_call 32; refine (sortm_any M _ _ _ _ (HR.out.keep zqb) HLn.out).mono ?_; rintro e wa ⟨rfl, q1, q2⟩; have HRa : Hid (RowMk M wa w.heap.size u3 (srtL cmpK K)) := q1; have hBa : Below w.heap.size w wa := (show Below w.heap.size w _ from by with_reducible (repeat' first | assumption | exact Below.refl _ _ | refine Below.drew ?_ | refine bdrewN ?_ _ | refine Below.setCell ?_ (by first | exact Nat.le_refl _ | (simp; done) | (simp; omega) | omega) _ | refine Below.alloc ?_ (by first | exact Nat.le_refl _ | (simp; done) | (simp; omega) | omega) _)).trans (q2.to_below (by have := hB.size; omega) (fun k q => (HR.out.lt k q).1)); clear q1 q2))
      go_ret
      exact ⟨_, rfl, _, HRa.out, isAll_srt HK.out.1 HK.out.2, hBa⟩
    · intro a b w1 cnt1 hx hy hnK hnl hrg1 hlt hmu hs1 hen
      have hle := HG.out.left_eq
      have hB1 : Below w.heap.size w w1 := hB.trans (hmu.to_below hB.size (fun k hk => by rw [hk]; omega))
      have HG1 : Hid (RangeF w1 bm w.heap.size n (vI M) (K ++ [⟨a, b⟩]) cnt1) := hrg1
      have HR1 : Hid (RowMk M w1 w.heap.size u3 K) := (show RowG _ _ _ _ _ _ _ from HR.out.mut hmu (fun g q => hne.out g q))
      obtain ⟨s1, s2⟩ := HMy.out a b hnl
      have HFw : Hid (K.length ≤ 4000000000000) := (show _ ≤ _ from by
        have q := nodup_few HG1.out.nodup (fun z hz => (HMy.out z.r z.c (HG1.out.told z hz).1).2)
        rw [List.length_append] at q
        omega)
      rw [s1] at hen ⊢
      have zB1 := hB1.size
      clear hrg1 HG HR hmu hnK hnl s1 s2 hB hx hy hs1
      go_wp2_with (go_loud (at_builtin; refine wpList_appx rfl _ _ _ _ rfl _ (.slice (some ⟨w1.heap.size + 1, 0, none⟩) 1 1) rfl rfl (HAP.out _ _ _ (w1.heap.size + 1) ⟨a, b⟩ (RowG.keep HR1.out zqb) (heap_at (by simp)) (by simp; omega) HFw.out) (fun v' w3 hq => ?_); obtain ⟨r1, r2, r3, r4⟩ := hq; have R1 : Hid (RowMk M w3 w.heap.size v' (K ++ [⟨a, b⟩])) := r1; have R2 : Below w.heap.size w w3 := (show Below w.heap.size w _ from by with_reducible (repeat' first | assumption | exact Below.refl _ _ | refine Below.drew ?_ | refine bdrewN ?_ _ | refine Below.setCell ?_ (by first | exact Nat.le_refl _ | (simp; done) | (simp; omega) | omega) _ | refine Below.alloc ?_ (by first | exact Nat.le_refl _ | (simp; done) | (simp; omega) | omega) _)).trans r2; have R3 : Hid (∀ g, v'.ownBlock = some g → g ≠ w.heap.size) := (show ∀ g, v'.ownBlock = some g → g ≠ w.heap.size from fun g q => by rcases r3 with s | s; exact hne.out g (s.symm.trans q); rw [s] at q; injection q with q; simp at q; omega); have HG3 : Hid (RangeF w3 bm w.heap.size n (vI M) (K ++ [⟨a, b⟩]) cnt1) := (show RangeF _ _ _ _ _ _ _ from (HG1.out.keep zqb).mut r4 (fun q => by have := (HR1.out.lt _ q).1; omega) (fun q => hne.out _ q rfl)); clear r1 r2 r3 r4))
      exact ⟨⟨K ++ [(⟨a, b⟩ : Cl)], cnt1, HG3, R1, R2, R3⟩, by first | (rw [RangeF.left_eq (HG3.out), hle]; exact hlt) | (rw [RangeF.left_eq (HG3.out)]; exact hlt) | exact hlt⟩
end Go.Proofs.YtcjanaldjokllaaGreat
