/- The contract of the clock's Change: where all is numbered anew; where there is no number left. -/
import Derived.Test.YtmajbophgdimlaaKU
namespace Go.Proofs.Ytmajbophgdimlaa
open Go.RowKit
set_option linter.all false
set_option maxRecDepth 100000 in
set_option maxHeartbeats 4000000 in
theorem kchg_full (w : World) (F : Nat → Prop) (N bm : Nat) (G : Int → Int → Nat) (most last turns : Int) (S : St) (n : Nat) (M : Nat) (x y : Int) (h : Ck F w N bm G most last turns S n) (hx : I64 x) (hy : I64 y) (hM : M ≤ 4000000000000) (hf : ∀ K : List Cl, K.Nodup → (∀ k ∈ K, S k.r k.c ≠ none) → K.length ≤ M) (hD : ∀ c d : Cl, 0 < chg S c.r c.c → chg S c.r c.c = chg S d.r d.c → c = d) (hF : ∀ b, F b → b < w.heap.size) (hms : 2 ≤ most ∧ most ≤ 1099511627776) (hs : ∀ a b p, S a b = some p → 0 ≤ p.2 ∧ p.2 ≤ 4000000000000) (ht : 0 ≤ turns ∧ turns ≤ 4000000000000) (hn : n ≤ 4000000000000) (hm : mayC x y = true) (hl : last + 1 = most) (l : List Cl) (hl1 : IsOth S x y l) (hl2 : l.length ≤ M) (hfull : most - 1 ≤ l.length) : Calls Try.prog 10 #[.pointer (some ⟨N, 0, none⟩), .agg #[.int .i64 x, .int .i64 y]] w fun e w' => e = .returned (.int .i64 50) ∧ Below w.heap.size w w' := by
  have mixed : Try.prog.follows .mixedOrders = true := by kernel_rfl
  have HM : Hid (∀ W, Calls Try.prog 17 #[.agg #[.int .i64 x, .int .i64 y]] W fun e w' => e = .returned (.bool true) ∧ Below W.heap.size W w') := (show _ from fun W => by have := may_any x y W; rw [hm] at this; exact this)
  have HA : Hid (∀ W, Below w.heap.size w W → w.heap.size < W.heap.size → Calls Try.prog 19 #[.pointer (some ⟨N, 0, none⟩), .agg #[.int .i64 x, .int .i64 y]] W fun e w' => e = .returned (.bool false) ∧ Below W.heap.size W w') := (show _ from fun W hb hz => (kanew_any W (fun b => F b ∨ b = w.heap.size) N bm G most last turns S n M x y ((h.fresh (fun b q => q.elim .inl (fun q => .inr (by rw [q]; exact Nat.le_refl _)))).keep hb) hM hf hD (fun b q => q.elim (fun q => Nat.lt_trans (hF b q) hz) (fun q => by rw [q]; exact hz)) hms hs ht l hl1 hl2).mono (by
    rintro e w' (⟨_, q1, q2⟩ | ⟨q0, _⟩)
    · exact ⟨q1, q2⟩
    · omega))
  have oN := h.own
  have lN := oN.lt
  have hwr : IntKind.i64.wrap (last + 1) = last + 1 := by rw [IntKind.wrap_i64]; omega
  have hwm : IntKind.i64.wrap most = most := by rw [IntKind.wrap_i64]; omega
  have hlb : (last + 1 == most) = true := by simp [hl]
  have hld : decide (last + 1 = most) = true := by simp [hl]
  clear h hx hy hm hF hf hD hs hl1
  go_enter Try.func10, Try.ntmps10
  go_wp2_with (go_at_call 17; refine (HM.out _).mono ?_; rintro e wa ⟨rfl, hb⟩; have hBa : Below w.heap.size w wa := bup (by with_reducible (repeat' first | assumption | exact Below.refl _ _ | refine Below.drew ?_ | refine bdrewN ?_ _ | refine Below.setCell ?_ (by first | exact Nat.le_refl _ | (simp; done) | (simp; omega) | omega) _ | refine Below.alloc ?_ (by first | exact Nat.le_refl _ | (simp; done) | (simp; omega) | omega) _)) hb; have oCa : Own wa w.heap.size #[.int .i64 x, .int .i64 y] := Own.keep (by with_reducible (repeat' first | assumption | refine Own.drew ?_ | refine Own.drewN ?_ _ | (refine Own.at ?_; first | rfl | (simp; done)) | refine Own.past ?_ _)) hb; clear hb)
  have oNa := oN.keep hBa
  have a0 : wa.cell? ⟨N, 0, none⟩ = some (.int .i64 most) := oNa.cell 0
  have a1 : wa.cell? ⟨N, 1, none⟩ = some (.int .i64 last) := oNa.cell 1
  have a2 : wa.cell? ⟨N, 2, none⟩ = some (.int .i64 turns) := oNa.cell 2
  have a3 : wa.cell? ⟨N, 3, none⟩ = some (.map (some bm)) := oNa.cell 3
  have c0 : wa.cell? ⟨w.heap.size, 0, none⟩ = some (.int .i64 x) := oCa.cell 0
  have c1 : wa.cell? ⟨w.heap.size, 1, none⟩ = some (.int .i64 y) := oCa.cell 1
  have lNa := oNa.lt
  have fa1 : wa.frozen? ⟨N, 1, none⟩ = false := oNa.fro 1
  have lCa := oCa.lt
  refine wp_region_held_drew (S := (fun w' => w'.cell? ⟨N, 0, none⟩ = some (.int .i64 most) ∧ w'.cell? ⟨w.heap.size, 0, none⟩ = some (.int .i64 x) ∧ w'.cell? ⟨w.heap.size, 1, none⟩ = some (.int .i64 y))) (by kernel_rfl) (by (try dsimp only); ((repeat' apply And.intro) <;> (first | (go_keep; done) | (go_simp; done)))) (fun hHeld => ?_)
  refine wpAnyH_take (i := 0) (v := .pointer (some ⟨N, 0, none⟩)) rfl (by kernel_rfl) (by kernel_rfl) (by kernel_rfl) (fun _ _ _ h => h) (Or.inl ⟨by first | rfl | kernel_rfl, by intro wz hSw; (try dsimp only at hSw); go_simp⟩) (by assumption) ?_
  (try simp only [Act.put, List.getElem_toArray, List.getElem_cons_succ, List.getElem_cons_zero, List.setIfInBounds_toArray, List.set_cons_zero, List.set_cons_succ])
  refine wpAnyH_take (i := 1) (v := .pointer (some ⟨N, 0, none⟩)) rfl (by kernel_rfl) (by kernel_rfl) (by kernel_rfl) (fun _ _ _ h => h) (Or.inl ⟨by first | rfl | kernel_rfl, by intro wz hSw; (try dsimp only at hSw); go_simp⟩) (by assumption) ?_
  (try simp only [Act.put, List.getElem_toArray, List.getElem_cons_succ, List.getElem_cons_zero, List.setIfInBounds_toArray, List.set_cons_zero, List.set_cons_succ])
  refine wpAnyH_take (i := 2) (v := .pointer (some ⟨N, 1, none⟩)) rfl (by kernel_rfl) (by kernel_rfl) (by kernel_rfl) (fun _ _ _ h => h) (Or.inl ⟨by first | rfl | kernel_rfl, by intro wz hSw; (try dsimp only at hSw); go_simp⟩) (by assumption) ?_
  (try simp only [Act.put, List.getElem_toArray, List.getElem_cons_succ, List.getElem_cons_zero, List.setIfInBounds_toArray, List.set_cons_zero, List.set_cons_succ])
  refine wpAnyH_take (i := 5) (v := .pointer (some ⟨N, 0, none⟩)) rfl (by kernel_rfl) (by kernel_rfl) (by kernel_rfl) (fun _ _ _ h => h) (Or.inl ⟨by first | rfl | kernel_rfl, by intro wz hSw; (try dsimp only at hSw); go_simp⟩) (by assumption) ?_
  (try simp only [Act.put, List.getElem_toArray, List.getElem_cons_succ, List.getElem_cons_zero, List.setIfInBounds_toArray, List.set_cons_zero, List.set_cons_succ])
  refine wpAnyH_take (i := 6) (v := .pointer (some ⟨N, 0, none⟩)) rfl (by kernel_rfl) (by kernel_rfl) (by kernel_rfl) (fun _ _ _ h => h) (Or.inl ⟨by first | rfl | kernel_rfl, by intro wz hSw; (try dsimp only at hSw); go_simp⟩) (by assumption) ?_
  (try simp only [Act.put, List.getElem_toArray, List.getElem_cons_succ, List.getElem_cons_zero, List.setIfInBounds_toArray, List.set_cons_zero, List.set_cons_succ])
  refine wpAnyH_take (i := 7) (v := .pointer (some ⟨N, 0, none⟩)) rfl (by kernel_rfl) (by kernel_rfl) (by kernel_rfl) (fun _ _ _ h => h) (Or.inl ⟨by first | rfl | kernel_rfl, by intro wz hSw; (try dsimp only at hSw); go_simp⟩) (by assumption) ?_
  (try simp only [Act.put, List.getElem_toArray, List.getElem_cons_succ, List.getElem_cons_zero, List.setIfInBounds_toArray, List.set_cons_zero, List.set_cons_succ])
  refine wpAnyH_take (i := 8) (v := .int .i64 most) rfl (by kernel_rfl) (by kernel_rfl) (by kernel_rfl) (fun _ _ _ h => h) (Or.inl ⟨by first | rfl | kernel_rfl, by intro wz hSw; (try dsimp only at hSw); go_simp⟩) (by assumption) ?_
  (try simp only [Act.put, List.getElem_toArray, List.getElem_cons_succ, List.getElem_cons_zero, List.setIfInBounds_toArray, List.set_cons_zero, List.set_cons_succ])
  refine wpAnyH_ready (rs := [3]) (by kernel_rfl) (by simp) ?_
  refine AllReadyH.cons rfl (fun K hK => ?_) ?_
  · go_simp
    refine hK.out _ _ (by (try dsimp only); first | (with_reducible assumption) | ((repeat' apply And.intro) <;> (first | (go_keep; done) | (go_simp; done)))) (fun hHeld => ?_)
    clear hK K
    (try simp only [Act.put, List.getElem_toArray, List.getElem_cons_succ, List.getElem_cons_zero, List.setIfInBounds_toArray, List.set_cons_zero, List.set_cons_succ])
    refine wpAnyH_take (i := 4) (v := .int .i64 (last + 1)) rfl (by kernel_rfl) (by kernel_rfl) (by kernel_rfl) (fun _ _ _ h => h) (Or.inl ⟨by first | rfl | kernel_rfl, by intro wz hSw; (try dsimp only at hSw); go_simp⟩) (by assumption) ?_
    (try simp only [Act.put, List.getElem_toArray, List.getElem_cons_succ, List.getElem_cons_zero, List.setIfInBounds_toArray, List.set_cons_zero, List.set_cons_succ])
    refine wpAnyH_take (i := 9) (v := .bool true) rfl (by kernel_rfl) (by kernel_rfl) (by kernel_rfl) (fun _ _ _ h => h) (Or.inl ⟨by first | rfl | kernel_rfl, by intro wz hSw; (try dsimp only at hSw); go_simp⟩) (by assumption) ?_
    (try simp only [Act.put, List.getElem_toArray, List.getElem_cons_succ, List.getElem_cons_zero, List.setIfInBounds_toArray, List.set_cons_zero, List.set_cons_succ])
    refine wpAnyH_take (i := 10) (v := .bool true) rfl (by kernel_rfl) (by kernel_rfl) (by kernel_rfl) (fun _ _ _ h => h) (Or.inl ⟨by first | rfl | kernel_rfl, by intro wz hSw; (try dsimp only at hSw); go_simp⟩) (by assumption) ?_
    (try simp only [Act.put, List.getElem_toArray, List.getElem_cons_succ, List.getElem_cons_zero, List.setIfInBounds_toArray, List.set_cons_zero, List.set_cons_succ])
    refine wpAnyH_take (i := 11) (v := .pointer (some ⟨N, 0, none⟩)) rfl (by kernel_rfl) (by kernel_rfl) (by kernel_rfl) (fun _ _ _ h => h) (Or.inl ⟨by first | rfl | kernel_rfl, by intro wz hSw; (try dsimp only at hSw); go_simp⟩) (by assumption) ?_
    (try simp only [Act.put, List.getElem_toArray, List.getElem_cons_succ, List.getElem_cons_zero, List.setIfInBounds_toArray, List.set_cons_zero, List.set_cons_succ])
    refine wpAnyH_take (i := 12) (v := (.agg #[.int .i64 x, .int .i64 y])) rfl (by kernel_rfl) (by kernel_rfl) (by kernel_rfl) (fun _ _ _ h => h) (Or.inl ⟨by first | rfl | kernel_rfl, by intro wz hSw; (try dsimp only at hSw); go_simp⟩) (by assumption) ?_
    (try simp only [Act.put, List.getElem_toArray, List.getElem_cons_succ, List.getElem_cons_zero, List.setIfInBounds_toArray, List.set_cons_zero, List.set_cons_succ])
    refine wpAnyH_ready (rs := [13]) (by kernel_rfl) (by simp) ?_
    refine AllReadyH.cons rfl (fun K hK => ?_) ?_
    · go_simp
      (go_at_call 19; refine (HA.out _ (by with_reducible (repeat' first | assumption | exact Below.refl _ _ | refine Below.drew ?_ | refine bdrewN ?_ _ | refine Below.setCell ?_ (by first | exact Nat.le_refl _ | (simp; done) | (simp; omega) | omega) _ | refine Below.alloc ?_ (by first | exact Nat.le_refl _ | (simp; done) | (simp; omega) | omega) _)) (by first | exact lCa | (simp; omega))).mono ?_; rintro e wv ⟨rfl, hb⟩; have hBv : Below w.heap.size w wv := bup (by with_reducible (repeat' first | assumption | exact Below.refl _ _ | refine Below.drew ?_ | refine bdrewN ?_ _ | refine Below.setCell ?_ (by first | exact Nat.le_refl _ | (simp; done) | (simp; omega) | omega) _ | refine Below.alloc ?_ (by first | exact Nat.le_refl _ | (simp; done) | (simp; omega) | omega) _)) hb; have oNv := oN.keep hBv; have oCv : Own wv w.heap.size #[.int .i64 x, .int .i64 y] := Own.keep (by with_reducible (repeat' first | assumption | refine Own.drew ?_ | refine Own.drewN ?_ _ | (refine Own.at ?_; first | rfl | (simp; done)) | refine Own.past ?_ _)) hb; have m0 : wv.cell? ⟨N, 0, none⟩ = some (.int .i64 most) := oNv.cell 0; have m1 : wv.cell? ⟨N, 1, none⟩ = some (.int .i64 last) := oNv.cell 1; have m2 : wv.cell? ⟨N, 2, none⟩ = some (.int .i64 turns) := oNv.cell 2; have m3 : wv.cell? ⟨N, 3, none⟩ = some (.map (some bm)) := oNv.cell 3; have k0 : wv.cell? ⟨w.heap.size, 0, none⟩ = some (.int .i64 x) := oCv.cell 0; have k1 : wv.cell? ⟨w.heap.size, 1, none⟩ = some (.int .i64 y) := oCv.cell 1; have lNv := oNv.lt; have lCv := oCv.lt; clear hb)
      go_wp2_with fail
      refine hK.out _ _ (by (try dsimp only); first | (with_reducible assumption) | ((repeat' apply And.intro) <;> (first | (go_keep; done) | (go_simp; done)))) (fun hHeld => ?_)
      clear hK K
      (try simp only [Act.put, List.getElem_toArray, List.getElem_cons_succ, List.getElem_cons_zero, List.setIfInBounds_toArray, List.set_cons_zero, List.set_cons_succ])
      refine wpAnyH_take (i := 14) (v := .bool true) rfl (by kernel_rfl) (by kernel_rfl) (by kernel_rfl) (fun _ _ _ h => h) (Or.inl ⟨by first | rfl | kernel_rfl, by intro wz hSw; (try dsimp only at hSw); go_simp⟩) (by assumption) ?_
      (try simp only [Act.put, List.getElem_toArray, List.getElem_cons_succ, List.getElem_cons_zero, List.setIfInBounds_toArray, List.set_cons_zero, List.set_cons_succ])
      refine wpAnyH_take (i := 15) (v := .bool true) rfl (by kernel_rfl) (by kernel_rfl) (by kernel_rfl) (fun _ _ _ h => h) (Or.inl ⟨by first | rfl | kernel_rfl, by intro wz hSw; (try dsimp only at hSw); go_simp⟩) (by assumption) ?_
      (try simp only [Act.put, List.getElem_toArray, List.getElem_cons_succ, List.getElem_cons_zero, List.setIfInBounds_toArray, List.set_cons_zero, List.set_cons_succ])
      refine wpAnyH_done (by kernel_rfl) ?_ _
      go_wp2
      go_ret
      exact ⟨rfl, by with_reducible (repeat' first | assumption | exact Below.refl _ _ | refine Below.drew ?_ | refine bdrewN ?_ _ | refine Below.setCell ?_ (by first | exact Nat.le_refl _ | (simp; done) | (simp; omega) | omega) _ | refine Below.alloc ?_ (by first | exact Nat.le_refl _ | (simp; done) | (simp; omega) | omega) _)⟩
    exact AllReadyH.nil
  exact AllReadyH.nil

set_option maxRecDepth 100000 in
set_option maxHeartbeats 4000000 in
theorem kchg_new (w : World) (F : Nat → Prop) (N bm : Nat) (G : Int → Int → Nat) (most last turns : Int) (S : St) (n : Nat) (M : Nat) (x y : Int) (h : Ck F w N bm G most last turns S n) (hx : I64 x) (hy : I64 y) (hM : M ≤ 4000000000000) (hf : ∀ K : List Cl, K.Nodup → (∀ k ∈ K, S k.r k.c ≠ none) → K.length ≤ M) (hD : ∀ c d : Cl, 0 < chg S c.r c.c → chg S c.r c.c = chg S d.r d.c → c = d) (hF : ∀ b, F b → b < w.heap.size) (hms : 2 ≤ most ∧ most ≤ 1099511627776) (hs : ∀ a b p, S a b = some p → 0 ≤ p.2 ∧ p.2 ≤ 4000000000000) (ht : 0 ≤ turns ∧ turns ≤ 4000000000000) (hn : n ≤ 4000000000000) (hm : mayC x y = true) (hl : last + 1 = most) (l : List Cl) (hl1 : IsOth S x y l) (hl2 : l.length ≤ M) (hfull : l.length < most - 1) : Calls Try.prog 10 #[.pointer (some ⟨N, 0, none⟩), .agg #[.int .i64 x, .int .i64 y]] w fun e w' => e = .returned (.int .i64 0) ∧ (∃ G', Ck F w' N bm G' most ((l.length : Int) + 1) (turns + 1) (upS (numP (seenA S l) l 0) x y (some ((l.length : Int) + 1, sen (numP (seenA S l) l 0) x y))) (n + 1)) ∧ Mut (fun b => ¬ F b) w w' := by
  have mixed : Try.prog.follows .mixedOrders = true := by kernel_rfl
  have HM : Hid (∀ W, Calls Try.prog 17 #[.agg #[.int .i64 x, .int .i64 y]] W fun e w' => e = .returned (.bool true) ∧ Below W.heap.size W w') := (show _ from fun W => by have := may_any x y W; rw [hm] at this; exact this)
  have HA : Hid (∀ W, Below w.heap.size w W → w.heap.size < W.heap.size → Calls Try.prog 19 #[.pointer (some ⟨N, 0, none⟩), .agg #[.int .i64 x, .int .i64 y]] W fun e w' => e = .returned (.bool true) ∧ Ck (fun b => F b ∨ b = w.heap.size) w' N bm G most (l.length : Int) (turns + 1) (numP (seenA S l) l 0) n ∧ Mut (fun b => ¬ (F b ∨ b = w.heap.size)) W w') := (show _ from fun W hb hz => (kanew_any W (fun b => F b ∨ b = w.heap.size) N bm G most last turns S n M x y ((h.fresh (fun b q => q.elim .inl (fun q => .inr (by rw [q]; exact Nat.le_refl _)))).keep hb) hM hf hD (fun b q => q.elim (fun q => Nat.lt_trans (hF b q) hz) (fun q => by rw [q]; exact hz)) hms hs ht l hl1 hl2).mono (by
    rintro e w' (⟨q0, _⟩ | ⟨_, q1, q2, q3⟩)
    · omega
    · exact ⟨q1, q2, q3⟩))
  have HO : Hid (∀ W, Ck (fun b => F b ∨ b = w.heap.size) W N bm G most ((l.length : Int) + 1) (turns + 1) (numP (seenA S l) l 0) n → w.heap.size < W.heap.size → Calls Try.prog 18 #[.pointer (some ⟨N, 0, none⟩), .agg #[.int .i64 x, .int .i64 y]] W fun e w' => ∃ G', e = .returned (.pointer (some ⟨G' x y, 0, none⟩)) ∧ Ck (fun b => F b ∨ b = w.heap.size) w' N bm G' most ((l.length : Int) + 1) (turns + 1) (ofS (numP (seenA S l) l 0) x y) (n + 1) ∧ Mut (fun b => ¬ (F b ∨ b = w.heap.size)) W w') := (show _ from fun W hc hz => kof_any W (fun b => F b ∨ b = w.heap.size) N bm G most ((l.length : Int) + 1) (turns + 1) (numP (seenA S l) l 0) n x y hc hx hy (fun b q => q.elim (fun q => Nat.lt_trans (hF b q) hz) (fun q => by rw [q]; exact hz)) hn)
  have hwr2 : IntKind.i64.wrap ((l.length : Int) + 1) = (l.length : Int) + 1 := by rw [IntKind.wrap_i64]; omega
  have oN := h.own
  have lN := oN.lt
  have hwr : IntKind.i64.wrap (last + 1) = last + 1 := by rw [IntKind.wrap_i64]; omega
  have hwm : IntKind.i64.wrap most = most := by rw [IntKind.wrap_i64]; omega
  have hlb : (last + 1 == most) = true := by simp [hl]
  have hld : decide (last + 1 = most) = true := by simp [hl]
  clear h hx hy hm hF hf hD hs hl1
  go_enter Try.func10, Try.ntmps10
  go_wp2_with (go_at_call 17; refine (HM.out _).mono ?_; rintro e wa ⟨rfl, hb⟩; have hBa : Below w.heap.size w wa := bup (by with_reducible (repeat' first | assumption | exact Below.refl _ _ | refine Below.drew ?_ | refine bdrewN ?_ _ | refine Below.setCell ?_ (by first | exact Nat.le_refl _ | (simp; done) | (simp; omega) | omega) _ | refine Below.alloc ?_ (by first | exact Nat.le_refl _ | (simp; done) | (simp; omega) | omega) _)) hb; have oCa : Own wa w.heap.size #[.int .i64 x, .int .i64 y] := Own.keep (by with_reducible (repeat' first | assumption | refine Own.drew ?_ | refine Own.drewN ?_ _ | (refine Own.at ?_; first | rfl | (simp; done)) | refine Own.past ?_ _)) hb; clear hb)
  have oNa := oN.keep hBa
  have a0 : wa.cell? ⟨N, 0, none⟩ = some (.int .i64 most) := oNa.cell 0
  have a1 : wa.cell? ⟨N, 1, none⟩ = some (.int .i64 last) := oNa.cell 1
  have a2 : wa.cell? ⟨N, 2, none⟩ = some (.int .i64 turns) := oNa.cell 2
  have a3 : wa.cell? ⟨N, 3, none⟩ = some (.map (some bm)) := oNa.cell 3
  have c0 : wa.cell? ⟨w.heap.size, 0, none⟩ = some (.int .i64 x) := oCa.cell 0
  have c1 : wa.cell? ⟨w.heap.size, 1, none⟩ = some (.int .i64 y) := oCa.cell 1
  have lNa := oNa.lt
  have fa1 : wa.frozen? ⟨N, 1, none⟩ = false := oNa.fro 1
  have lCa := oCa.lt
  refine wp_region_held_drew (S := (fun w' => w'.cell? ⟨N, 0, none⟩ = some (.int .i64 most) ∧ w'.cell? ⟨w.heap.size, 0, none⟩ = some (.int .i64 x) ∧ w'.cell? ⟨w.heap.size, 1, none⟩ = some (.int .i64 y))) (by kernel_rfl) (by (try dsimp only); ((repeat' apply And.intro) <;> (first | (go_keep; done) | (go_simp; done)))) (fun hHeld => ?_)
  refine wpAnyH_take (i := 0) (v := .pointer (some ⟨N, 0, none⟩)) rfl (by kernel_rfl) (by kernel_rfl) (by kernel_rfl) (fun _ _ _ h => h) (Or.inl ⟨by first | rfl | kernel_rfl, by intro wz hSw; (try dsimp only at hSw); go_simp⟩) (by assumption) ?_
  (try simp only [Act.put, List.getElem_toArray, List.getElem_cons_succ, List.getElem_cons_zero, List.setIfInBounds_toArray, List.set_cons_zero, List.set_cons_succ])
  refine wpAnyH_take (i := 1) (v := .pointer (some ⟨N, 0, none⟩)) rfl (by kernel_rfl) (by kernel_rfl) (by kernel_rfl) (fun _ _ _ h => h) (Or.inl ⟨by first | rfl | kernel_rfl, by intro wz hSw; (try dsimp only at hSw); go_simp⟩) (by assumption) ?_
  (try simp only [Act.put, List.getElem_toArray, List.getElem_cons_succ, List.getElem_cons_zero, List.setIfInBounds_toArray, List.set_cons_zero, List.set_cons_succ])
  refine wpAnyH_take (i := 2) (v := .pointer (some ⟨N, 1, none⟩)) rfl (by kernel_rfl) (by kernel_rfl) (by kernel_rfl) (fun _ _ _ h => h) (Or.inl ⟨by first | rfl | kernel_rfl, by intro wz hSw; (try dsimp only at hSw); go_simp⟩) (by assumption) ?_
  (try simp only [Act.put, List.getElem_toArray, List.getElem_cons_succ, List.getElem_cons_zero, List.setIfInBounds_toArray, List.set_cons_zero, List.set_cons_succ])
  refine wpAnyH_take (i := 5) (v := .pointer (some ⟨N, 0, none⟩)) rfl (by kernel_rfl) (by kernel_rfl) (by kernel_rfl) (fun _ _ _ h => h) (Or.inl ⟨by first | rfl | kernel_rfl, by intro wz hSw; (try dsimp only at hSw); go_simp⟩) (by assumption) ?_
  (try simp only [Act.put, List.getElem_toArray, List.getElem_cons_succ, List.getElem_cons_zero, List.setIfInBounds_toArray, List.set_cons_zero, List.set_cons_succ])
  refine wpAnyH_take (i := 6) (v := .pointer (some ⟨N, 0, none⟩)) rfl (by kernel_rfl) (by kernel_rfl) (by kernel_rfl) (fun _ _ _ h => h) (Or.inl ⟨by first | rfl | kernel_rfl, by intro wz hSw; (try dsimp only at hSw); go_simp⟩) (by assumption) ?_
  (try simp only [Act.put, List.getElem_toArray, List.getElem_cons_succ, List.getElem_cons_zero, List.setIfInBounds_toArray, List.set_cons_zero, List.set_cons_succ])
  refine wpAnyH_take (i := 7) (v := .pointer (some ⟨N, 0, none⟩)) rfl (by kernel_rfl) (by kernel_rfl) (by kernel_rfl) (fun _ _ _ h => h) (Or.inl ⟨by first | rfl | kernel_rfl, by intro wz hSw; (try dsimp only at hSw); go_simp⟩) (by assumption) ?_
  (try simp only [Act.put, List.getElem_toArray, List.getElem_cons_succ, List.getElem_cons_zero, List.setIfInBounds_toArray, List.set_cons_zero, List.set_cons_succ])
  refine wpAnyH_take (i := 8) (v := .int .i64 most) rfl (by kernel_rfl) (by kernel_rfl) (by kernel_rfl) (fun _ _ _ h => h) (Or.inl ⟨by first | rfl | kernel_rfl, by intro wz hSw; (try dsimp only at hSw); go_simp⟩) (by assumption) ?_
  (try simp only [Act.put, List.getElem_toArray, List.getElem_cons_succ, List.getElem_cons_zero, List.setIfInBounds_toArray, List.set_cons_zero, List.set_cons_succ])
  refine wpAnyH_ready (rs := [3]) (by kernel_rfl) (by simp) ?_
  refine AllReadyH.cons rfl (fun K hK => ?_) ?_
  · go_simp
    refine hK.out _ _ (by (try dsimp only); first | (with_reducible assumption) | ((repeat' apply And.intro) <;> (first | (go_keep; done) | (go_simp; done)))) (fun hHeld => ?_)
    clear hK K
    (try simp only [Act.put, List.getElem_toArray, List.getElem_cons_succ, List.getElem_cons_zero, List.setIfInBounds_toArray, List.set_cons_zero, List.set_cons_succ])
    refine wpAnyH_take (i := 4) (v := .int .i64 (last + 1)) rfl (by kernel_rfl) (by kernel_rfl) (by kernel_rfl) (fun _ _ _ h => h) (Or.inl ⟨by first | rfl | kernel_rfl, by intro wz hSw; (try dsimp only at hSw); go_simp⟩) (by assumption) ?_
    (try simp only [Act.put, List.getElem_toArray, List.getElem_cons_succ, List.getElem_cons_zero, List.setIfInBounds_toArray, List.set_cons_zero, List.set_cons_succ])
    refine wpAnyH_take (i := 9) (v := .bool true) rfl (by kernel_rfl) (by kernel_rfl) (by kernel_rfl) (fun _ _ _ h => h) (Or.inl ⟨by first | rfl | kernel_rfl, by intro wz hSw; (try dsimp only at hSw); go_simp⟩) (by assumption) ?_
    (try simp only [Act.put, List.getElem_toArray, List.getElem_cons_succ, List.getElem_cons_zero, List.setIfInBounds_toArray, List.set_cons_zero, List.set_cons_succ])
    refine wpAnyH_take (i := 10) (v := .bool true) rfl (by kernel_rfl) (by kernel_rfl) (by kernel_rfl) (fun _ _ _ h => h) (Or.inl ⟨by first | rfl | kernel_rfl, by intro wz hSw; (try dsimp only at hSw); go_simp⟩) (by assumption) ?_
    (try simp only [Act.put, List.getElem_toArray, List.getElem_cons_succ, List.getElem_cons_zero, List.setIfInBounds_toArray, List.set_cons_zero, List.set_cons_succ])
    refine wpAnyH_take (i := 11) (v := .pointer (some ⟨N, 0, none⟩)) rfl (by kernel_rfl) (by kernel_rfl) (by kernel_rfl) (fun _ _ _ h => h) (Or.inl ⟨by first | rfl | kernel_rfl, by intro wz hSw; (try dsimp only at hSw); go_simp⟩) (by assumption) ?_
    (try simp only [Act.put, List.getElem_toArray, List.getElem_cons_succ, List.getElem_cons_zero, List.setIfInBounds_toArray, List.set_cons_zero, List.set_cons_succ])
    refine wpAnyH_take (i := 12) (v := (.agg #[.int .i64 x, .int .i64 y])) rfl (by kernel_rfl) (by kernel_rfl) (by kernel_rfl) (fun _ _ _ h => h) (Or.inl ⟨by first | rfl | kernel_rfl, by intro wz hSw; (try dsimp only at hSw); go_simp⟩) (by assumption) ?_
    (try simp only [Act.put, List.getElem_toArray, List.getElem_cons_succ, List.getElem_cons_zero, List.setIfInBounds_toArray, List.set_cons_zero, List.set_cons_succ])
    refine wpAnyH_ready (rs := [13]) (by kernel_rfl) (by simp) ?_
    refine AllReadyH.cons rfl (fun K hK => ?_) ?_
    · go_simp
      (go_at_call 19; refine (HA.out _ (by with_reducible (repeat' first | assumption | exact Below.refl _ _ | refine Below.drew ?_ | refine bdrewN ?_ _ | refine Below.setCell ?_ (by first | exact Nat.le_refl _ | (simp; done) | (simp; omega) | omega) _ | refine Below.alloc ?_ (by first | exact Nat.le_refl _ | (simp; done) | (simp; omega) | omega) _)) (by first | exact lCa | (simp; omega))).mono ?_; rintro e wv ⟨rfl, q1, q2⟩; have HCv : Hid (Ck (fun b => F b ∨ b = w.heap.size) wv N bm G most (l.length : Int) (turns + 1) (numP (seenA S l) l 0) n) := q1; have HMv : Hid (Mut (fun b => ¬ F b) w wv) := (show Mut _ _ _ from ((Mut.of_below (show Below w.heap.size w _ from by with_reducible (repeat' first | assumption | exact Below.refl _ _ | refine Below.drew ?_ | refine bdrewN ?_ _ | refine Below.setCell ?_ (by first | exact Nat.le_refl _ | (simp; done) | (simp; omega) | omega) _ | refine Below.alloc ?_ (by first | exact Nat.le_refl _ | (simp; done) | (simp; omega) | omega) _))).call q2 (fun b q => .inl (fun p => q (.inl p))))); have oNv := q1.own; have oCv : Own wv w.heap.size #[.int .i64 x, .int .i64 y] := Own.mut (by with_reducible (repeat' first | assumption | refine Own.drew ?_ | refine Own.drewN ?_ _ | (refine Own.at ?_; first | rfl | (simp; done)) | refine Own.past ?_ _)) q2 (fun q => q (.inr rfl)); have m0 : wv.cell? ⟨N, 0, none⟩ = some (.int .i64 most) := oNv.cell 0; have m1 : wv.cell? ⟨N, 1, none⟩ = some (.int .i64 (l.length : Int)) := oNv.cell 1; have mf1 : wv.frozen? ⟨N, 1, none⟩ = false := oNv.fro 1; have k0 : wv.cell? ⟨w.heap.size, 0, none⟩ = some (.int .i64 x) := oCv.cell 0; have k1 : wv.cell? ⟨w.heap.size, 1, none⟩ = some (.int .i64 y) := oCv.cell 1; have lNv := oNv.lt; have lCv := oCv.lt; clear q1 q2)
      go_wp2_with fail
      refine hK.out _ _ (by (try dsimp only); first | (with_reducible assumption) | ((repeat' apply And.intro) <;> (first | (go_keep; done) | (go_simp; done)))) (fun hHeld => ?_)
      clear hK K
      (try simp only [Act.put, List.getElem_toArray, List.getElem_cons_succ, List.getElem_cons_zero, List.setIfInBounds_toArray, List.set_cons_zero, List.set_cons_succ])
      refine wpAnyH_take (i := 14) (v := .bool false) rfl (by kernel_rfl) (by kernel_rfl) (by kernel_rfl) (fun _ _ _ h => h) (Or.inl ⟨by first | rfl | kernel_rfl, by intro wz hSw; (try dsimp only at hSw); go_simp⟩) (by assumption) ?_
      (try simp only [Act.put, List.getElem_toArray, List.getElem_cons_succ, List.getElem_cons_zero, List.setIfInBounds_toArray, List.set_cons_zero, List.set_cons_succ])
      refine wpAnyH_take (i := 15) (v := .bool false) rfl (by kernel_rfl) (by kernel_rfl) (by kernel_rfl) (fun _ _ _ h => h) (Or.inl ⟨by first | rfl | kernel_rfl, by intro wz hSw; (try dsimp only at hSw); go_simp⟩) (by assumption) ?_
      (try simp only [Act.put, List.getElem_toArray, List.getElem_cons_succ, List.getElem_cons_zero, List.setIfInBounds_toArray, List.set_cons_zero, List.set_cons_succ])
      refine wpAnyH_done (by kernel_rfl) ?_ _
      go_wp2
      obtain ⟨W5, hW5⟩ : ∃ W5 : World, W5 = wv.setCell ⟨N, 1, none⟩ (.int .i64 ((l.length : Int) + 1)) := ⟨_, rfl⟩
      have HC5 : Hid (Ck (fun b => F b ∨ b = w.heap.size) W5 N bm G most ((l.length : Int) + 1) (turns + 1) (numP (seenA S l) l 0) n) := (show Ck _ _ _ _ _ _ _ _ _ _ from by rw [hW5]; exact HCv.out.num ((l.length : Int) + 1))
      have HM5 : Hid (Mut (fun b => ¬ F b) w W5) := (show Mut _ _ _ from by rw [hW5]; exact Mut.set (S := fun b => ¬ F b) HMv.out (a := ⟨N, 1, none⟩) (.inl (fun q => HCv.out.fN (.inl q))) _)
      have oC5 : Own W5 w.heap.size #[.int .i64 x, .int .i64 y] := (by rw [hW5]; exact Own.aside (by with_reducible (repeat' first | assumption | refine Own.drew ?_ | refine Own.drewN ?_ _ | (refine Own.at ?_; first | rfl | (simp; done)) | refine Own.past ?_ _)) _ (fun q => HCv.out.fN (.inr q.symm)))
      rw [← hW5]
      clear hW5
      have oN5 := HC5.out.own
      have p0 : W5.cell? ⟨N, 0, none⟩ = some (.int .i64 most) := oN5.cell 0
      have p1 : W5.cell? ⟨N, 1, none⟩ = some (.int .i64 ((l.length : Int) + 1)) := oN5.cell 1
      have r0 : W5.cell? ⟨w.heap.size, 0, none⟩ = some (.int .i64 x) := oC5.cell 0
      have r1 : W5.cell? ⟨w.heap.size, 1, none⟩ = some (.int .i64 y) := oC5.cell 1
      have lN5 := oN5.lt
      have lC5 := oC5.lt
      go_region_held3 (fun w' => w'.cell? ⟨N, 0, none⟩ = some (.int .i64 most) ∧ w'.cell? ⟨N, 1, none⟩ = some (.int .i64 ((l.length : Int) + 1)) ∧ w'.cell? ⟨w.heap.size, 0, none⟩ = some (.int .i64 x) ∧ w'.cell? ⟨w.heap.size, 1, none⟩ = some (.int .i64 y)) ((repeat' apply And.intro) <;> (first | (go_keep; done) | (go_simp; done))) ((go_at_call 18; refine (HO.out _ (by first | exact HC5.out.keep (by with_reducible (repeat' first | assumption | exact Below.refl _ _ | refine Below.drew ?_ | refine bdrewN ?_ _ | refine Below.setCell ?_ (by first | exact Nat.le_refl _ | (simp; done) | (simp; omega) | omega) _ | refine Below.alloc ?_ (by first | exact Nat.le_refl _ | (simp; done) | (simp; omega) | omega) _)) | exact HC5.out) (by first | exact lC5 | (simp; omega))).mono ?_; rintro e wb ⟨G', rfl, q1, q2⟩; have HCk : Hid (Ck (fun b => F b ∨ b = w.heap.size) wb N bm G' most ((l.length : Int) + 1) (turns + 1) (ofS (numP (seenA S l) l 0) x y) (n + 1)) := q1; have hMb : Hid (Mut (fun b => ¬ F b) w wb) := (show Mut _ _ _ from ((HM5.out.below (show Below W5.heap.size W5 _ from by with_reducible (repeat' first | assumption | exact Below.refl _ _ | refine Below.drew ?_ | refine bdrewN ?_ _ | refine Below.setCell ?_ (by first | exact Nat.le_refl _ | (simp; done) | (simp; omega) | omega) _ | refine Below.alloc ?_ (by first | exact Nat.le_refl _ | (simp; done) | (simp; omega) | omega) _))).call q2 (fun b q => .inl (fun p => q (.inl p))))); have oNb := q1.own; have oCb : Own wb w.heap.size #[.int .i64 x, .int .i64 y] := Own.mut (by with_reducible (repeat' first | assumption | refine Own.drew ?_ | refine Own.drewN ?_ _ | (refine Own.at ?_; first | rfl | (simp; done)) | refine Own.past ?_ _)) q2 (fun q => q (.inr rfl)); have oGb := (q1.st x y _ (ofS_at (numP (seenA S l) l 0) x y)).2; have m0 : wb.cell? ⟨N, 0, none⟩ = some (.int .i64 most) := oNb.cell 0; have m1 : wb.cell? ⟨N, 1, none⟩ = some (.int .i64 ((l.length : Int) + 1)) := oNb.cell 1; have k0 : wb.cell? ⟨w.heap.size, 0, none⟩ = some (.int .i64 x) := oCb.cell 0; have k1 : wb.cell? ⟨w.heap.size, 1, none⟩ = some (.int .i64 y) := oCb.cell 1; have hgN : G' x y ≠ N := (q1.ne x y _ (ofS_at (numP (seenA S l) l 0) x y)).1; have hgC : G' x y ≠ w.heap.size := (fun q => q1.fG x y _ (ofS_at (numP (seenA S l) l 0) x y) (.inr q)); have g0 : wb.cell? ⟨G' x y, 0, none⟩ = some (.int .i64 (chg (numP (seenA S l) l 0) x y)) := oGb.cell 0; have gf0 : wb.frozen? ⟨G' x y, 0, none⟩ = false := oGb.fro 0; have lG := oGb.lt; have lNb := oNb.lt; have lCb := oCb.lt; clear q1 q2))
      go_wp2
      go_ret
      exact ⟨rfl, ⟨G', by
        have q := HCk.out.put (k := 0) (ofS_at (numP (seenA S l) l 0) x y) (by omega) ((l.length : Int) + 1)
        rw [upS_ofS] at q
        exact ((q.fresh (fun b q => .inl (.inl q))).keep (by with_reducible (repeat' first | assumption | exact Below.refl _ _ | refine Below.drew ?_ | refine bdrewN ?_ _ | refine Below.setCell ?_ (by first | exact Nat.le_refl _ | (simp; done) | (simp; omega) | omega) _ | refine Below.alloc ?_ (by first | exact Nat.le_refl _ | (simp; done) | (simp; omega) | omega) _)))⟩, by
        have q := Mut.set (S := fun b => ¬ F b) hMb.out (a := ⟨G' x y, 0, none⟩) (.inl (fun p => HCk.out.fG x y _ (ofS_at (numP (seenA S l) l 0) x y) (.inl p))) (.int .i64 ((l.length : Int) + 1))
        exact q.below (by with_reducible (repeat' first | assumption | exact Below.refl _ _ | refine Below.drew ?_ | refine bdrewN ?_ _ | refine Below.setCell ?_ (by first | exact Nat.le_refl _ | (simp; done) | (simp; omega) | omega) _ | refine Below.alloc ?_ (by first | exact Nat.le_refl _ | (simp; done) | (simp; omega) | omega) _))⟩
    exact AllReadyH.nil
  exact AllReadyH.nil
end Go.Proofs.Ytmajbophgdimlaa
