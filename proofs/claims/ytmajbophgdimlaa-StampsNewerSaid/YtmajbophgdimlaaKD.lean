/- The contracts of the clock's Get, Newer, Last, Turns, Drop, of, See, New. -/
import Derived.Test.YtmajbophgdimlaaKC
import Derived.Deep.RegionHeld3
import Derived.Deep.RegionLaw
namespace Go.Proofs.Ytmajbophgdimlaa
open Go.RowKit
set_option linter.all false
/-- What Get answers. -/
def getV (S : St) (x y : Int) : Value := .tuple #[.agg #[.int .i64 (chg S x y), .int .i64 (sen S x y)], .bool (S x y).isSome]
set_option maxRecDepth 100000 in
set_option maxHeartbeats 2000000 in
theorem kget_any (w : World) (F : Nat → Prop) (N bm : Nat) (G : Int → Int → Nat) (most last turns : Int) (S : St) (n : Nat) (x y : Int) (h : Ck F w N bm G most last turns S n) (hx : I64 x) (hy : I64 y) : Calls Try.prog 15 #[.pointer (some ⟨N, 0, none⟩), .agg #[.int .i64 x, .int .i64 y]] w fun e w' => e = .returned (getV S x y) ∧ Below w.heap.size w w' := by
  have mixed : Try.prog.follows .mixedOrders = true := by kernel_rfl
  have HL : Hid (∀ W, Below w.heap.size w W → (Instr.lookup 46 (.map (some bm)) (.agg #[.int .i64 x, .int .i64 y]) false).run Try.prog W = .ok (vf S G x y) W) := (show _ from fun W hb => (h.map.keep hb).look Try.underlying46 (zeroPtr W) x y hx hy)
  have oN := h.own
  have lN := oN.lt
  have hst := h.st x y
  clear h
  cases hS : S x y with
  | none =>
    have hv : vf S G x y = .pointer none := vf_none hS
    rw [hv] at HL
    have hr : getV S x y = .tuple #[.agg #[.int .i64 0, .int .i64 0], .bool false] := by unfold getV chg sen; rw [hS]; rfl
    rw [hr]
    clear hst hv hr hS
    go_enter Try.func15, Try.ntmps15
    go_wp2
    obtain ⟨W1, hW1⟩ : ∃ W1 : World, W1 = ((w.alloc (.cells #[.int .i64 x, .int .i64 y] 30)).alloc (.cells #[.int .i64 0, .int .i64 0] 43)) := ⟨_, rfl⟩
    have hB1 : Below w.heap.size w W1 := (by rw [hW1]; with_reducible (repeat' first | assumption | exact Below.refl _ _ | refine Below.drew ?_ | refine bdrewN ?_ _ | refine Below.setCell ?_ (by first | exact Nat.le_refl _ | (simp; done) | (simp; omega) | omega) _ | refine Below.alloc ?_ (by first | exact Nat.le_refl _ | (simp; done) | (simp; omega) | omega) _))
    have oN1 : Own W1 N #[.int .i64 most, .int .i64 last, .int .i64 turns, .map (some bm)] := oN.keep hB1
    have oC1 : Own W1 w.heap.size #[.int .i64 x, .int .i64 y] := (by rw [hW1]; with_reducible (repeat' first | assumption | refine Own.drew ?_ | refine Own.drewN ?_ _ | (refine Own.at ?_; first | rfl | (simp; done)) | refine Own.past ?_ _))
    have b0 : W1.cell? ⟨N, 0, none⟩ = some (.int .i64 most) := oN1.cell 0
    have b1 : W1.cell? ⟨N, 1, none⟩ = some (.int .i64 last) := oN1.cell 1
    have b2 : W1.cell? ⟨N, 2, none⟩ = some (.int .i64 turns) := oN1.cell 2
    have b3 : W1.cell? ⟨N, 3, none⟩ = some (.map (some bm)) := oN1.cell 3
    have c0 : W1.cell? ⟨w.heap.size, 0, none⟩ = some (.int .i64 x) := oC1.cell 0
    have c1 : W1.cell? ⟨w.heap.size, 1, none⟩ = some (.int .i64 y) := oC1.cell 1
    have lN1 := oN1.lt
    have lC1 := oC1.lt
    have hk1 := HL.out W1.drew (by with_reducible (repeat' first | assumption | exact Below.refl _ _ | refine Below.drew ?_ | refine bdrewN ?_ _ | refine Below.setCell ?_ (by first | exact Nat.le_refl _ | (simp; done) | (simp; omega) | omega) _ | refine Below.alloc ?_ (by first | exact Nat.le_refl _ | (simp; done) | (simp; omega) | omega) _))
    have oR1 : Own W1 (w.heap.size + 1) #[.int .i64 0, .int .i64 0] := (by rw [hW1]; with_reducible (repeat' first | assumption | refine Own.drew ?_ | refine Own.drewN ?_ _ | (refine Own.at ?_; first | rfl | (simp; done)) | refine Own.past ?_ _))
    have cR1 := oR1.cell
    have fR1 := oR1.fro
    have lR1 := oR1.lt
    rw [← hW1]
    clear hW1
    go_region_held3 (fun w' => w'.cell? ⟨N, 0, none⟩ = some (.int .i64 most) ∧ w'.cell? ⟨N, 1, none⟩ = some (.int .i64 last) ∧ w'.cell? ⟨N, 2, none⟩ = some (.int .i64 turns) ∧ w'.cell? ⟨N, 3, none⟩ = some (.map (some bm)) ∧ w'.cell? ⟨w.heap.size, 0, none⟩ = some (.int .i64 x) ∧ w'.cell? ⟨w.heap.size, 1, none⟩ = some (.int .i64 y) ∧ (Instr.lookup 46 (.map (some bm)) (.agg #[.int .i64 x, .int .i64 y]) false).run Try.prog w' = .ok (.pointer none) w') ((repeat' apply And.intro) <;> (first | (go_keep; done) | (go_simp; done))) (fail)
    go_wp2
    exact bodyPost_ret (v := .tuple #[.agg #[.int .i64 0, .int .i64 0], .bool false]) (by simp [results, Try.results15, go_sem, cR1, fR1, lR1]) rfl ⟨rfl, by with_reducible (repeat' first | assumption | exact Below.refl _ _ | refine Below.drew ?_ | refine bdrewN ?_ _ | refine Below.setCell ?_ (by first | exact Nat.le_refl _ | (simp; done) | (simp; omega) | omega) _ | refine Below.alloc ?_ (by first | exact Nat.le_refl _ | (simp; done) | (simp; omega) | omega) _)⟩
  | some p =>
    obtain ⟨_, oG⟩ := hst p hS
    have hv : vf S G x y = .pointer (some ⟨G x y, 0, none⟩) := vf_some hS
    rw [hv] at HL
    have hr : getV S x y = .tuple #[.agg #[.int .i64 p.1, .int .i64 p.2], .bool true] := by unfold getV chg sen; rw [hS]; rfl
    rw [hr]
    obtain ⟨g, hg⟩ : ∃ g, g = G x y := ⟨_, rfl⟩
    rw [← hg] at HL oG
    have lG := oG.lt
    clear hst hv hr hS hg
    go_enter Try.func15, Try.ntmps15
    go_wp2
    have oG1 : Own ((w.alloc (.cells #[.int .i64 x, .int .i64 y] 30)).alloc (.cells #[.int .i64 0, .int .i64 0] 43)) g #[.int .i64 p.1, .int .i64 p.2] := oG.keep (by with_reducible (repeat' first | assumption | exact Below.refl _ _ | refine Below.drew ?_ | refine bdrewN ?_ _ | refine Below.setCell ?_ (by first | exact Nat.le_refl _ | (simp; done) | (simp; omega) | omega) _ | refine Below.alloc ?_ (by first | exact Nat.le_refl _ | (simp; done) | (simp; omega) | omega) _))
    obtain ⟨W1, hW1⟩ : ∃ W1 : World, W1 = ((w.alloc (.cells #[.int .i64 x, .int .i64 y] 30)).alloc (.cells #[.int .i64 0, .int .i64 0] 43)) := ⟨_, rfl⟩
    have hB1 : Below w.heap.size w W1 := (by rw [hW1]; with_reducible (repeat' first | assumption | exact Below.refl _ _ | refine Below.drew ?_ | refine bdrewN ?_ _ | refine Below.setCell ?_ (by first | exact Nat.le_refl _ | (simp; done) | (simp; omega) | omega) _ | refine Below.alloc ?_ (by first | exact Nat.le_refl _ | (simp; done) | (simp; omega) | omega) _))
    have oN1 : Own W1 N #[.int .i64 most, .int .i64 last, .int .i64 turns, .map (some bm)] := oN.keep hB1
    have oC1 : Own W1 w.heap.size #[.int .i64 x, .int .i64 y] := (by rw [hW1]; with_reducible (repeat' first | assumption | refine Own.drew ?_ | refine Own.drewN ?_ _ | (refine Own.at ?_; first | rfl | (simp; done)) | refine Own.past ?_ _))
    have b0 : W1.cell? ⟨N, 0, none⟩ = some (.int .i64 most) := oN1.cell 0
    have b1 : W1.cell? ⟨N, 1, none⟩ = some (.int .i64 last) := oN1.cell 1
    have b2 : W1.cell? ⟨N, 2, none⟩ = some (.int .i64 turns) := oN1.cell 2
    have b3 : W1.cell? ⟨N, 3, none⟩ = some (.map (some bm)) := oN1.cell 3
    have c0 : W1.cell? ⟨w.heap.size, 0, none⟩ = some (.int .i64 x) := oC1.cell 0
    have c1 : W1.cell? ⟨w.heap.size, 1, none⟩ = some (.int .i64 y) := oC1.cell 1
    have lN1 := oN1.lt
    have lC1 := oC1.lt
    have hk1 := HL.out W1.drew (by with_reducible (repeat' first | assumption | exact Below.refl _ _ | refine Below.drew ?_ | refine bdrewN ?_ _ | refine Below.setCell ?_ (by first | exact Nat.le_refl _ | (simp; done) | (simp; omega) | omega) _ | refine Below.alloc ?_ (by first | exact Nat.le_refl _ | (simp; done) | (simp; omega) | omega) _))
    have oR1 : Own W1 (w.heap.size + 1) #[.int .i64 0, .int .i64 0] := (by rw [hW1]; with_reducible (repeat' first | assumption | refine Own.drew ?_ | refine Own.drewN ?_ _ | (refine Own.at ?_; first | rfl | (simp; done)) | refine Own.past ?_ _))
    have cR1 := oR1.cell
    have fR1 := oR1.fro
    have lR1 := oR1.lt
    rw [← hW1] at oG1
    have g0 : W1.cell? ⟨g, 0, none⟩ = some (.int .i64 p.1) := oG1.cell 0
    have g1 : W1.cell? ⟨g, 1, none⟩ = some (.int .i64 p.2) := oG1.cell 1
    have lG1 := oG1.lt
    rw [← hW1]
    clear hW1
    go_region_held3 (fun w' => w'.cell? ⟨N, 0, none⟩ = some (.int .i64 most) ∧ w'.cell? ⟨N, 1, none⟩ = some (.int .i64 last) ∧ w'.cell? ⟨N, 2, none⟩ = some (.int .i64 turns) ∧ w'.cell? ⟨N, 3, none⟩ = some (.map (some bm)) ∧ w'.cell? ⟨w.heap.size, 0, none⟩ = some (.int .i64 x) ∧ w'.cell? ⟨w.heap.size, 1, none⟩ = some (.int .i64 y) ∧ (Instr.lookup 46 (.map (some bm)) (.agg #[.int .i64 x, .int .i64 y]) false).run Try.prog w' = .ok (.pointer (some ⟨g, 0, none⟩)) w') ((repeat' apply And.intro) <;> (first | (go_keep; done) | (go_simp; done))) (fail)
    go_wp2
    exact bodyPost_ret (v := .tuple #[.agg #[.int .i64 p.1, .int .i64 p.2], .bool true]) (by simp [results, Try.results15, go_sem, cR1, fR1, lR1]) rfl ⟨rfl, by with_reducible (repeat' first | assumption | exact Below.refl _ _ | refine Below.drew ?_ | refine bdrewN ?_ _ | refine Below.setCell ?_ (by first | exact Nat.le_refl _ | (simp; done) | (simp; omega) | omega) _ | refine Below.alloc ?_ (by first | exact Nat.le_refl _ | (simp; done) | (simp; omega) | omega) _)⟩
set_option maxRecDepth 100000 in
set_option maxHeartbeats 2000000 in
theorem knewer_any (w : World) (F : Nat → Prop) (N bm : Nat) (G : Int → Int → Nat) (most last turns : Int) (S : St) (n : Nat) (a b x y : Int) (h : Ck F w N bm G most last turns S n) (ha : I64 a) (hb : I64 b) (hx : I64 x) (hy : I64 y) : Calls Try.prog 12 #[.pointer (some ⟨N, 0, none⟩), .agg #[.int .i64 a, .int .i64 b], .agg #[.int .i64 x, .int .i64 y]] w fun e w' => e = .returned (.bool (decide (sen S x y < chg S a b))) ∧ Below w.heap.size w w' := by
  have mixed : Try.prog.follows .mixedOrders = true := by kernel_rfl
  have HP : Hid (∀ W, Below w.heap.size w W → Calls Try.prog 15 #[.pointer (some ⟨N, 0, none⟩), .agg #[.int .i64 a, .int .i64 b]] W fun e w' => e = .returned (.tuple #[.agg #[.int .i64 (chg S a b), .int .i64 (sen S a b)], .bool (S a b).isSome]) ∧ Below W.heap.size W w') := (show _ from fun W h1 => kget_any W F N bm G most last turns S n a b (h.keep h1) ha hb)
  have HX : Hid (∀ W, Below w.heap.size w W → Calls Try.prog 15 #[.pointer (some ⟨N, 0, none⟩), .agg #[.int .i64 x, .int .i64 y]] W fun e w' => e = .returned (.tuple #[.agg #[.int .i64 (chg S x y), .int .i64 (sen S x y)], .bool (S x y).isSome]) ∧ Below W.heap.size W w') := (show _ from fun W h1 => kget_any W F N bm G most last turns S n x y (h.keep h1) hx hy)
  clear h ha hb hx hy
  have t1 : True := trivial
  have t2 : True := trivial
  go_enter Try.func12, Try.ntmps12
  go_wp2_with (first
    | (go_at_call 15; clear t1; refine (HP.out _ (by with_reducible (repeat' first | assumption | exact Below.refl _ _ | refine Below.drew ?_ | refine bdrewN ?_ _ | refine Below.setCell ?_ (by first | exact Nat.le_refl _ | (simp; done) | (simp; omega) | omega) _ | refine Below.alloc ?_ (by first | exact Nat.le_refl _ | (simp; done) | (simp; omega) | omega) _))).mono ?_; rintro e wa ⟨rfl, hb⟩; have hBa : Below w.heap.size w wa := bup (by with_reducible (repeat' first | assumption | exact Below.refl _ _ | refine Below.drew ?_ | refine bdrewN ?_ _ | refine Below.setCell ?_ (by first | exact Nat.le_refl _ | (simp; done) | (simp; omega) | omega) _ | refine Below.alloc ?_ (by first | exact Nat.le_refl _ | (simp; done) | (simp; omega) | omega) _)) hb; have oXa : Own wa (w.heap.size + 1) #[.int .i64 x, .int .i64 y] := Own.keep (by with_reducible (repeat' first | assumption | refine Own.drew ?_ | refine Own.drewN ?_ _ | (refine Own.at ?_; first | rfl | (simp; done)) | refine Own.past ?_ _)) hb; have cXa := oXa.cell; have lXa := oXa.lt; clear hb)
    | (go_at_call 15; clear t2; refine (HX.out _ (by with_reducible (repeat' first | assumption | exact Below.refl _ _ | refine Below.drew ?_ | refine bdrewN ?_ _ | refine Below.setCell ?_ (by first | exact Nat.le_refl _ | (simp; done) | (simp; omega) | omega) _ | refine Below.alloc ?_ (by first | exact Nat.le_refl _ | (simp; done) | (simp; omega) | omega) _))).mono ?_; rintro e wb ⟨rfl, hb⟩; have hBb : Below w.heap.size w wb := bup (by with_reducible (repeat' first | assumption | exact Below.refl _ _ | refine Below.drew ?_ | refine bdrewN ?_ _ | refine Below.setCell ?_ (by first | exact Nat.le_refl _ | (simp; done) | (simp; omega) | omega) _ | refine Below.alloc ?_ (by first | exact Nat.le_refl _ | (simp; done) | (simp; omega) | omega) _)) hb; have oRb : Own wb wa.heap.size #[.int .i64 (chg S a b), .int .i64 (sen S a b)] := Own.keep (by with_reducible (repeat' first | assumption | refine Own.drew ?_ | refine Own.drewN ?_ _ | (refine Own.at ?_; first | rfl | (simp; done)) | refine Own.past ?_ _)) hb; have cRb := oRb.cell; have lRb := oRb.lt; clear hb))
  go_ret
  exact ⟨rfl, by with_reducible (repeat' first | assumption | exact Below.refl _ _ | refine Below.drew ?_ | refine bdrewN ?_ _ | refine Below.setCell ?_ (by first | exact Nat.le_refl _ | (simp; done) | (simp; omega) | omega) _ | refine Below.alloc ?_ (by first | exact Nat.le_refl _ | (simp; done) | (simp; omega) | omega) _)⟩
theorem klast_any (w : World) (F : Nat → Prop) (N bm : Nat) (G : Int → Int → Nat) (most last turns : Int) (S : St) (n : Nat) (h : Ck F w N bm G most last turns S n) : Calls Try.prog 13 #[.pointer (some ⟨N, 0, none⟩)] w fun e w' => e = .returned (.int .i64 last) ∧ Below w.heap.size w w' := by
  have oN := h.own
  have b0 : w.cell? ⟨N, 0, none⟩ = some (.int .i64 most) := oN.cell 0
  have b1 : w.cell? ⟨N, 1, none⟩ = some (.int .i64 last) := oN.cell 1
  have b2 : w.cell? ⟨N, 2, none⟩ = some (.int .i64 turns) := oN.cell 2
  have b3 : w.cell? ⟨N, 3, none⟩ = some (.map (some bm)) := oN.cell 3
  have lN := oN.lt
  clear h
  go_enter Try.func13, Try.ntmps13
  go_wp2
  go_ret
  exact ⟨rfl, by with_reducible (repeat' first | assumption | exact Below.refl _ _ | refine Below.drew ?_ | refine bdrewN ?_ _ | refine Below.setCell ?_ (by first | exact Nat.le_refl _ | (simp; done) | (simp; omega) | omega) _ | refine Below.alloc ?_ (by first | exact Nat.le_refl _ | (simp; done) | (simp; omega) | omega) _)⟩
theorem kturns_any (w : World) (F : Nat → Prop) (N bm : Nat) (G : Int → Int → Nat) (most last turns : Int) (S : St) (n : Nat) (h : Ck F w N bm G most last turns S n) : Calls Try.prog 14 #[.pointer (some ⟨N, 0, none⟩)] w fun e w' => e = .returned (.int .i64 turns) ∧ Below w.heap.size w w' := by
  have oN := h.own
  have b0 : w.cell? ⟨N, 0, none⟩ = some (.int .i64 most) := oN.cell 0
  have b1 : w.cell? ⟨N, 1, none⟩ = some (.int .i64 last) := oN.cell 1
  have b2 : w.cell? ⟨N, 2, none⟩ = some (.int .i64 turns) := oN.cell 2
  have b3 : w.cell? ⟨N, 3, none⟩ = some (.map (some bm)) := oN.cell 3
  have lN := oN.lt
  clear h
  go_enter Try.func14, Try.ntmps14
  go_wp2
  go_ret
  exact ⟨rfl, by with_reducible (repeat' first | assumption | exact Below.refl _ _ | refine Below.drew ?_ | refine bdrewN ?_ _ | refine Below.setCell ?_ (by first | exact Nat.le_refl _ | (simp; done) | (simp; omega) | omega) _ | refine Below.alloc ?_ (by first | exact Nat.le_refl _ | (simp; done) | (simp; omega) | omega) _)⟩
end Go.Proofs.Ytmajbophgdimlaa
