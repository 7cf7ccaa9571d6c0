/- The contract of the clock's See. -/
import Derived.Test.YtmajbophgdimlaaKE
namespace Go.Proofs.Ytmajbophgdimlaa
open Go.RowKit
set_option linter.all false
def seeS (S : St) (last x y : Int) : St := if mayC x y = true then upS S x y (some (chg S x y, last)) else S
theorem ofS_at (S : St) (x y : Int) : ofS S x y x y = some (chg S x y, sen S x y) := by
  unfold ofS chg sen
  cases h : S x y with
  | none => simp only [upS_same]
  | some p => simp only [h]
theorem upS_ofS (S : St) (x y : Int) (p : Option (Int × Int)) : upS (ofS S x y) x y p = upS S x y p := by
  funext a b
  by_cases t : a = x ∧ b = y
  · rw [t.1, t.2, upS_same, upS_same]
  · rw [upS_other t, upS_other t]
    unfold ofS
    cases h : S x y with
    | none => simp only [upS_other t]
    | some p => rfl
set_option maxRecDepth 100000 in
set_option maxHeartbeats 2000000 in
theorem ksee_any (w : World) (F : Nat → Prop) (N bm : Nat) (G : Int → Int → Nat) (most last turns : Int) (S : St) (n : Nat) (x y : Int) (h : Ck F w N bm G most last turns S n) (hx : I64 x) (hy : I64 y) (hF : ∀ b, F b → b < w.heap.size) (hn : n ≤ 4000000000000) : Calls Try.prog 9 #[.pointer (some ⟨N, 0, none⟩), .agg #[.int .i64 x, .int .i64 y]] w fun e w' => e = .returned (.tuple #[]) ∧ (∃ G', Ck F w' N bm G' most last turns (seeS S last x y) (n + 1)) ∧ Mut (fun b => ¬ F b) w w' := by
  have mixed : Try.prog.follows .mixedOrders = true := by kernel_rfl
  have HK : Hid (∀ W, Below w.heap.size w W → Ck F W N bm G most last turns S n) := (show _ from fun W hb => h.keep hb)
  have HO : Hid (∀ W, Below w.heap.size w W → w.heap.size < W.heap.size → Calls Try.prog 18 #[.pointer (some ⟨N, 0, none⟩), .agg #[.int .i64 x, .int .i64 y]] W fun e w' => ∃ G', e = .returned (.pointer (some ⟨G' x y, 0, none⟩)) ∧ Ck (fun b => F b ∨ b = w.heap.size) w' N bm G' most last turns (ofS S x y) (n + 1) ∧ Mut (fun b => ¬ (F b ∨ b = w.heap.size)) W w') := (show _ from fun W hb hz => kof_any W (fun b => F b ∨ b = w.heap.size) N bm G most last turns S n x y ((h.fresh (fun b q => q.elim .inl (fun q => .inr (by rw [q]; exact Nat.le_refl _)))).keep hb) hx hy (fun b q => q.elim (fun q => Nat.lt_trans (hF b q) hz) (fun q => by rw [q]; exact hz)) hn)
  have HM0 := fun W => may_any x y W
  have oN := h.own
  have lN := oN.lt
  clear h hx hy
  cases hm : mayC x y
  · rw [show seeS S last x y = S by unfold seeS; rw [hm]; rfl]
    have HM : Hid (∀ W, Calls Try.prog 17 #[.agg #[.int .i64 x, .int .i64 y]] W fun e w' => e = .returned (.bool false) ∧ Below W.heap.size W w') := (show _ from fun W => by have := HM0 W; rw [hm] at this; exact this)
    clear HM0 hm
    go_enter Try.func9, Try.ntmps9
    go_wp2_with (go_at_call 17; refine (HM.out _).mono ?_; rintro e wa ⟨rfl, hb⟩; have hBa : Below w.heap.size w wa := bup (by with_reducible (repeat' first | assumption | exact Below.refl _ _ | refine Below.drew ?_ | refine bdrewN ?_ _ | refine Below.setCell ?_ (by first | exact Nat.le_refl _ | (simp; done) | (simp; omega) | omega) _ | refine Below.alloc ?_ (by first | exact Nat.le_refl _ | (simp; done) | (simp; omega) | omega) _)) hb; clear hb)
    go_end0
    exact ⟨rfl, ⟨G, (HK.out _ (by with_reducible (repeat' first | assumption | exact Below.refl _ _ | refine Below.drew ?_ | refine bdrewN ?_ _ | refine Below.setCell ?_ (by first | exact Nat.le_refl _ | (simp; done) | (simp; omega) | omega) _ | refine Below.alloc ?_ (by first | exact Nat.le_refl _ | (simp; done) | (simp; omega) | omega) _))).more (by omega)⟩, Mut.of_below (by with_reducible (repeat' first | assumption | exact Below.refl _ _ | refine Below.drew ?_ | refine bdrewN ?_ _ | refine Below.setCell ?_ (by first | exact Nat.le_refl _ | (simp; done) | (simp; omega) | omega) _ | refine Below.alloc ?_ (by first | exact Nat.le_refl _ | (simp; done) | (simp; omega) | omega) _))⟩
  · rw [show seeS S last x y = upS S x y (some (chg S x y, last)) by unfold seeS; rw [hm]; rfl]
    have HM : Hid (∀ W, Calls Try.prog 17 #[.agg #[.int .i64 x, .int .i64 y]] W fun e w' => e = .returned (.bool true) ∧ Below W.heap.size W w') := (show _ from fun W => by have := HM0 W; rw [hm] at this; exact this)
    clear HM0 hm
    go_enter Try.func9, Try.ntmps9
    go_wp2_with (go_at_call 17; refine (HM.out _).mono ?_; rintro e wa ⟨rfl, hb⟩; have hBa : Below w.heap.size w wa := bup (by with_reducible (repeat' first | assumption | exact Below.refl _ _ | refine Below.drew ?_ | refine bdrewN ?_ _ | refine Below.setCell ?_ (by first | exact Nat.le_refl _ | (simp; done) | (simp; omega) | omega) _ | refine Below.alloc ?_ (by first | exact Nat.le_refl _ | (simp; done) | (simp; omega) | omega) _)) hb; have oCa : Own wa w.heap.size #[.int .i64 x, .int .i64 y] := Own.keep (by with_reducible (repeat' first | assumption | refine Own.drew ?_ | refine Own.drewN ?_ _ | (refine Own.at ?_; first | rfl | (simp; done)) | refine Own.past ?_ _)) hb; clear hb)
    have oNa := oN.keep hBa
    have a0 : wa.cell? ⟨N, 0, none⟩ = some (.int .i64 most) := oNa.cell 0
    have a1 : wa.cell? ⟨N, 1, none⟩ = some (.int .i64 last) := oNa.cell 1
    have a2 : wa.cell? ⟨N, 2, none⟩ = some (.int .i64 turns) := oNa.cell 2
    have a3 : wa.cell? ⟨N, 3, none⟩ = some (.map (some bm)) := oNa.cell 3
    have c0 : wa.cell? ⟨w.heap.size, 0, none⟩ = some (.int .i64 x) := oCa.cell 0
    have c1 : wa.cell? ⟨w.heap.size, 1, none⟩ = some (.int .i64 y) := oCa.cell 1
    have lNa := oNa.lt
    have lCa := oCa.lt
    go_region_held3 (fun w' => w'.cell? ⟨N, 0, none⟩ = some (.int .i64 most) ∧ w'.cell? ⟨N, 1, none⟩ = some (.int .i64 last) ∧ w'.cell? ⟨N, 2, none⟩ = some (.int .i64 turns) ∧ w'.cell? ⟨N, 3, none⟩ = some (.map (some bm)) ∧ w'.cell? ⟨w.heap.size, 0, none⟩ = some (.int .i64 x) ∧ w'.cell? ⟨w.heap.size, 1, none⟩ = some (.int .i64 y)) ((repeat' apply And.intro) <;> (first | (go_keep; done) | (go_simp; done))) ((go_at_call 18; refine (HO.out _ (by with_reducible (repeat' first | assumption | exact Below.refl _ _ | refine Below.drew ?_ | refine bdrewN ?_ _ | refine Below.setCell ?_ (by first | exact Nat.le_refl _ | (simp; done) | (simp; omega) | omega) _ | refine Below.alloc ?_ (by first | exact Nat.le_refl _ | (simp; done) | (simp; omega) | omega) _)) (by first | exact lCa | (simp; omega))).mono ?_; rintro e wb ⟨G', rfl, q1, q2⟩; have HCk : Hid (Ck (fun b => F b ∨ b = w.heap.size) wb N bm G' most last turns (ofS S x y) (n + 1)) := q1; have hMb : Hid (Mut (fun b => ¬ F b) w wb) := (show Mut _ _ _ from ((Mut.of_below (show Below w.heap.size w _ from by with_reducible (repeat' first | assumption | exact Below.refl _ _ | refine Below.drew ?_ | refine bdrewN ?_ _ | refine Below.setCell ?_ (by first | exact Nat.le_refl _ | (simp; done) | (simp; omega) | omega) _ | refine Below.alloc ?_ (by first | exact Nat.le_refl _ | (simp; done) | (simp; omega) | omega) _))).call q2 (fun b q => .inl (fun p => q (.inl p))))); have oNb := q1.own; have oCb : Own wb w.heap.size #[.int .i64 x, .int .i64 y] := Own.mut (by with_reducible (repeat' first | assumption | refine Own.drew ?_ | refine Own.drewN ?_ _ | (refine Own.at ?_; first | rfl | (simp; done)) | refine Own.past ?_ _)) q2 (fun q => q (.inr rfl)); have oGb := (q1.st x y _ (ofS_at S x y)).2; have m0 : wb.cell? ⟨N, 0, none⟩ = some (.int .i64 most) := oNb.cell 0; have m1 : wb.cell? ⟨N, 1, none⟩ = some (.int .i64 last) := oNb.cell 1; have m2 : wb.cell? ⟨N, 2, none⟩ = some (.int .i64 turns) := oNb.cell 2; have m3 : wb.cell? ⟨N, 3, none⟩ = some (.map (some bm)) := oNb.cell 3; have k0 : wb.cell? ⟨w.heap.size, 0, none⟩ = some (.int .i64 x) := oCb.cell 0; have k1 : wb.cell? ⟨w.heap.size, 1, none⟩ = some (.int .i64 y) := oCb.cell 1; have hgN : G' x y ≠ N := (q1.ne x y _ (ofS_at S x y)).1; have hgC : G' x y ≠ w.heap.size := (fun q => q1.fG x y _ (ofS_at S x y) (.inr q)); have g1 : wb.cell? ⟨G' x y, 1, none⟩ = some (.int .i64 (sen S x y)) := oGb.cell 1; have gf1 : wb.frozen? ⟨G' x y, 1, none⟩ = false := oGb.fro 1; have lG := oGb.lt; have lNb := oNb.lt; have lCb := oCb.lt; clear q1 q2))
    go_wp2
    go_end0
    exact ⟨rfl, ⟨G', by
      have q := HCk.out.put (k := 1) (ofS_at S x y) (by omega) last
      rw [upS_ofS] at q
      exact ((q.fresh (fun b q => .inl (.inl q))).keep (by with_reducible (repeat' first | assumption | exact Below.refl _ _ | refine Below.drew ?_ | refine bdrewN ?_ _ | refine Below.setCell ?_ (by first | exact Nat.le_refl _ | (simp; done) | (simp; omega) | omega) _ | refine Below.alloc ?_ (by first | exact Nat.le_refl _ | (simp; done) | (simp; omega) | omega) _)))⟩, by
      have q := Mut.set (S := fun b => ¬ F b) hMb.out (a := ⟨G' x y, 1, none⟩) (.inl (fun p => HCk.out.fG x y _ (ofS_at S x y) (.inl p))) (.int .i64 last)
      exact q.below (by with_reducible (repeat' first | assumption | exact Below.refl _ _ | refine Below.drew ?_ | refine bdrewN ?_ _ | refine Below.setCell ?_ (by first | exact Nat.le_refl _ | (simp; done) | (simp; omega) | omega) _ | refine Below.alloc ?_ (by first | exact Nat.le_refl _ | (simp; done) | (simp; omega) | omega) _))⟩
end Go.Proofs.Ytmajbophgdimlaa
