/- The contract of Touch, at whatever holds of the states, the stack and the peak. -/
import Derived.Test.YtcjanaldjokllaaGreatQMDA6
import Derived.Test.YtcjanaldjokllaaGreatQHCHF
import Derived.Deep.LoopGhost
namespace Go.Proofs.YtcjanaldjokllaaGreat
open Go.RowKit Go.Shelf
set_option linter.all false
/-- A row without its last thing, in the same memory. -/
theorem row_pre {α : Type} {E : TypeId} {sz : Nat} {cs : α → List Value} {w : World} {base g n c : Nat} {s : List α} {k : α} (hc : ∀ x, (cs x).length = sz) (h : RowG E sz cs w base (.slice (some ⟨g, 0, none⟩) n c) (s ++ [k])) : RowG E sz cs w base (.slice (some ⟨g, 0, none⟩) s.length c) s := by
  rcases h.two with ⟨e, _⟩ | ⟨g', cap', cur, e, h1, h2, h3, h4, h5, h6, h7⟩
  · cases e
  · simp only [Value.slice.injEq, Option.some.injEq, Addr.mk.injEq, and_true] at e
    obtain ⟨rfl, rfl, rfl⟩ := e
    rw [List.length_append, List.length_singleton] at h4 h7
    refine RowG.mk hc rfl h1 h3 (by omega) h5 h6 ?_
    have q := congrArg (List.take (s.length * sz)) h7
    rw [List.take_take, Nat.min_eq_left (Nat.mul_le_mul_right _ (by omega)), flatG_app, List.take_left' (flatG_len hc s)] at q
    exact q
theorem mtouch_no (w : World) (N Nd bm n : Nat) (M : Ms) (pk : Int) (D : List Dv) (F : Nat → Prop) (x y : Int) (f : Bool) (h : Mm w N Nd bm n M pk) (hm : mayC x y = false) : Calls Tryz.prog 17 #[.pointer (some ⟨N, 0, none⟩), .agg #[.int .i64 x, .int .i64 y], .bool f] w fun e w' => e = .returned (.tuple #[]) ∧ Mm w' N Nd bm n M 0 ∧ Mut (fun b => b = N ∨ b = bm) w w' := by
  have mixed : Tryz.prog.follows .mixedOrders = true := by kernel_rfl
  have HM : Hid (∀ W, Calls Tryz.prog 21 #[.agg #[.int .i64 x, .int .i64 y]] W fun e w' => e = .returned (.bool false) ∧ Below W.heap.size W w') := (show _ from fun W => by have := may_any x y W; rw [hm] at this; exact this)
  have HMm : Hid (Mm w N Nd bm n M pk) := h
  have oN := h.own
  have lN := oN.lt
  have b0 : w.cell? ⟨N, 0, none⟩ = some (.pointer (some ⟨Nd, 0, none⟩)) := oN.cell 0
  have b1 : w.cell? ⟨N, 1, none⟩ = some (.map (some bm)) := oN.cell 1
  have b2 : w.cell? ⟨N, 2, none⟩ = some (.int .i64 pk) := oN.cell 2
  have fb2 : w.frozen? ⟨N, 2, none⟩ = false := oN.fro 2
  clear h hm
  go_enter Tryz.func17, Tryz.ntmps17
  go_wp2_with (go_at_call 21; refine (HM.out _).mono ?_; rintro e wa ⟨rfl, hba⟩; have HBa : Hid (Below _ _ wa) := hba; clear hba)
  refine bodyPost_ret (results_none rfl _ _ _) rfl ?_
  exact ⟨rfl, ((HMm.out.peak 0).keep (bal _ _)).keep HBa.out, ((Mut.set (S := fun b => b = N ∨ b = bm) (Mut.refl _ _) (a := ⟨N, 2, none⟩) (.inl (.inl rfl)) _).below (bal _ _)).below HBa.out⟩
def tchM (M : Ms) (x y : Int) (f : Bool) : Ms := if f = true then upM M x y (some 2) else upM M x y none
theorem sprS_stk {tx ty st : Int} (p : Ms × List Cl × Nat) (k j : Cl) (h : j ∈ (sprS tx ty st p k).2.1) : j ∈ p.2.1 ∨ j = k := by
  unfold sprS at h
  split at h
  · exact .inl h
  · simp only at h
    split at h
    · rcases List.mem_append.1 h with q | q
      · exact .inl q
      · exact .inr (List.mem_singleton.1 q)
    · exact .inl h
theorem sprL_stk {tx ty st : Int} : ∀ (ks : List Cl) (p : Ms × List Cl × Nat) (j : Cl), j ∈ (sprL tx ty st ks p).2.1 → j ∈ p.2.1 ∨ j ∈ ks
  | [], p, j, h => .inl h
  | k :: ks, p, j, h => by
    rcases sprL_stk ks _ j h with q | q
    · rcases sprS_stk p k j q with q | q
      · exact .inl q
      · exact .inr (by rw [q]; exact List.mem_cons_self)
    · exact .inr (List.mem_cons_of_mem _ q)
set_option maxRecDepth 100000 in
set_option maxHeartbeats 8000000 in
theorem mtouch_yes (w : World) (N Nd bm n : Nat) (M : Ms) (pk : Int) (D : List Dv) (F : Nat → Prop) (x y : Int) (f : Bool) (P : Ms → List Cl → Int → Prop) (h : Mm w N Nd bm n M pk) (hd : Dw F w Nd D) (hM : OkM M) (hx : I64 x) (hy : I64 y) (hF1 : F N) (hF2 : F bm) (hm : mayC x y = true) (hn : n ≤ 2000000000000000)
    (hP0 : ∀ ks n', IsWho (runE D) x y ks → P (sprL x y 2 ks (tchM M x y f, [], n')).1 (sprL x y 2 ks (tchM M x y f, [], n')).2.1 (max 0 (sprL x y 2 ks (tchM M x y f, [], n')).2.1.length))
    (hP1 : ∀ M s k pk ks c, OkM M → P M (s ++ [k]) pk → IsWho (runE D) k.r k.c ks → P (sprL x y 1 ks (M, s, c)).1 (sprL x y 1 ks (M, s, c)).2.1 (max pk (sprL x y 1 ks (M, s, c)).2.1.length)) :
    Calls Tryz.prog 17 #[.pointer (some ⟨N, 0, none⟩), .agg #[.int .i64 x, .int .i64 y], .bool f] w fun e w' => e = .returned (.tuple #[]) ∧ ∃ M2 pk2 c, P M2 [] pk2 ∧ OkM M2 ∧ Mm w' N Nd bm c M2 pk2 ∧ c ≤ n + 2097153 ∧ 0 ≤ pk2 ∧ pk2 ≤ 1048576 ∧ Mut (fun b => b = N ∨ b = bm) w w' := by
  have mixed : Tryz.prog.follows .mixedOrders = true := by kernel_rfl
  have HMay : Hid (∀ W, Calls Tryz.prog 21 #[.agg #[.int .i64 x, .int .i64 y]] W fun e w' => e = .returned (.bool true) ∧ Below W.heap.size W w') := (show _ from fun W => by have := may_any x y W; rw [hm] at this; exact this)
  have HMm : Hid (Mm w N Nd bm n M pk) := h
  have HEk : Hid (EOk (runE D)) := hd.eok
  have HDw : Hid (∀ W, Mut (fun b => b = N ∨ b = bm) w W → Dw F W Nd D) := (show _ from fun W q => hd.turn q (fun b t => by
    rcases t with t | t
    · rw [t]; exact hF1
    · rw [t]; exact hF2))
  have HP1 : Hid (∀ M s k pk ks c, OkM M → P M (s ++ [k]) pk → IsWho (runE D) k.r k.c ks → P (sprL x y 1 ks (M, s, c)).1 (sprL x y 1 ks (M, s, c)).2.1 (max pk (sprL x y 1 ks (M, s, c)).2.1.length)) := hP1
  have oN := h.own
  have lN := oN.lt
  have lB := MapF.lt h.map
  have n0 : w.cell? ⟨N, 0, none⟩ = some (.pointer (some ⟨Nd, 0, none⟩)) := oN.cell 0
  have n1 : w.cell? ⟨N, 1, none⟩ = some (.map (some bm)) := oN.cell 1
  have n2 : w.cell? ⟨N, 2, none⟩ = some (.int .i64 pk) := oN.cell 2
  have fn2 : w.frozen? ⟨N, 2, none⟩ = false := oN.fro 2
  clear h hd hF1 hF2 hP1
  cases f with
  | true =>
    rw [show tchM M x y true = upM M x y (some 2) from rfl] at hP0
    have HOp : Hid (∀ W, Mm W N Nd bm n M 0 → ∃ w3, (Instr.mapUpdate 81 (.map (some bm)) (.agg #[.int .i64 x, .int .i64 y]) (.int .i64 2)).run Tryz.prog W = .ok () w3 ∧ Mm w3 N Nd bm (n + 1) (upM M x y (some 2)) 0 ∧ Mut (fun k => k = bm) W w3) := (show _ from fun W h1 => by
      obtain ⟨w3, r1, r2, r3⟩ := MapF.putI h1.map Tryz.underlying81 (by unfold maxLen; omega) x y hx hy 2
      exact ⟨w3, r1, h1.turn r2 r3, r3⟩)
    have HM0 : Hid (OkM (upM M x y (some 2))) := (show OkM _ from hM.up (by omega) (by omega) hm)
    have HP0 : Hid (∀ ks n', IsWho (runE D) x y ks → P (sprL x y 2 ks ((upM M x y (some 2)), [], n')).1 (sprL x y 2 ks ((upM M x y (some 2)), [], n')).2.1 (max 0 (sprL x y 2 ks ((upM M x y (some 2)), [], n')).2.1.length)) := hP0
    have HS1 : Hid (∀ W, Mm W N Nd bm (n + 1) (upM M x y (some 2)) 0 → Mut (fun b => b = N ∨ b = bm) w W → w.heap.size + 1 ≤ W.heap.size → Calls Tryz.prog 31 #[.pointer (some ⟨N, 0, none⟩), .slice none 0 0, .agg #[.int .i64 x, .int .i64 y], .agg #[.int .i64 x, .int .i64 y], .int .i64 2] W fun e w' => ∃ v' ks, e = .returned v' ∧ IsWho (runE D) x y ks ∧ Mm w' N Nd bm (sprL x y 2 ks ((upM M x y (some 2)), [], n + 1)).2.2 (sprL x y 2 ks ((upM M x y (some 2)), [], n + 1)).1 (max 0 (sprL x y 2 ks ((upM M x y (some 2)), [], n + 1)).2.1.length) ∧ RowC w' (w.heap.size + 1) v' (sprL x y 2 ks ((upM M x y (some 2)), [], n + 1)).2.1 ∧ Mut (fun b => b = N ∨ b = bm) W w') := (show _ from fun W h1 h2 h3 => (spr_any W N Nd bm (n + 1) (upM M x y (some 2)) 0 D F (.slice none 0 0) [] x y x y 2 (w.heap.size + 1) h1 (HDw.out W h2) (RowG.nil _) HM0.out (by omega) (by omega) hx hy (fun q => by cases q) (fun q => by cases q) (by omega) (by have := cln_le (upM M x y (some 2)); simp; omega) ⟨by omega, by omega⟩ h3).mono (by
      rintro e w' ⟨v', ks, q1, q2, q3, q4, _, q5⟩
      exact ⟨v', ks, q1, q2, q3, q4, Mut.wide q5 (fun b q => by
        rcases q with q | q | q
        · exact .inl q
        · exact .inr q
        · cases q)⟩))
    have HB1 : Hid (∀ ks, IsWho (runE D) x y ks → OkM (sprL x y 2 ks ((upM M x y (some 2)), [], n + 1)).1 ∧ (sprL x y 2 ks ((upM M x y (some 2)), [], n + 1)).2.1.length + cln (sprL x y 2 ks ((upM M x y (some 2)), [], n + 1)).1 ≤ 1048576 ∧ (sprL x y 2 ks ((upM M x y (some 2)), [], n + 1)).2.1.length + 2 * cln (sprL x y 2 ks ((upM M x y (some 2)), [], n + 1)).1 ≤ 2097152 ∧ (sprL x y 2 ks ((upM M x y (some 2)), [], n + 1)).2.2 + cln (sprL x y 2 ks ((upM M x y (some 2)), [], n + 1)).1 ≤ n + 2097153 ∧ ∀ k ∈ (sprL x y 2 ks ((upM M x y (some 2)), [], n + 1)).2.1, mayC k.r k.c = true) := (show _ from fun ks hk => by
      have hmk := who_may HEk.out hk
      have r := sprL_room (tx := x) (ty := y) (st := 2) (by omega) (by omega) ks ((upM M x y (some 2)), [], n + 1) hmk HM0.out
      have r5 := cln_le (upM M x y (some 2))
      have r6 := srtK_few hk.1 hmk
      have r7 := cln_le (sprL x y 2 ks ((upM M x y (some 2)), [], n + 1)).1
      obtain ⟨r1, r2, r3, _⟩ := r
      simp only [List.length_nil] at r1 r2 r3
      exact ⟨sprL_ok (by omega) (by omega) ks _ hmk HM0.out, by omega, by omega, by omega, fun k hk' => (sprL_stk ks _ k hk').elim (fun q => by cases q) (hmk k)⟩)
    clear hP0 hM hx hy hm
    go_enter Tryz.func17, Tryz.ntmps17
    go_wp2_with (go_at_call 21; refine (HMay.out _).mono ?_; rintro e wa ⟨rfl, hba⟩; have HMa : Hid (Mm wa N Nd bm n M 0) := (show Mm _ _ _ _ _ _ _ from ((HMm.out.peak 0).keep (bal _ _)).keep hba); have HUa : Hid (Mut (fun b => b = N ∨ b = bm) w wa) := (show Mut _ _ _ from ((Mut.set (S := fun b => b = N ∨ b = bm) (Mut.refl _ _) (a := ⟨N, 2, none⟩) (.inl (.inl rfl)) _).below (bal _ _)).below hba); have oCa : Own wa w.heap.size #[.int .i64 x, .int .i64 y] := Own.keep (by with_reducible (repeat' first | assumption | refine Own.drew ?_ | refine Own.drewN ?_ _ | (refine Own.at ?_; first | rfl | (simp; done)) | refine Own.past ?_ _)) hba; clear hba)
    have zA := HUa.out.size
    have oNa := HMa.out.own
    have b0 : wa.cell? ⟨N, 0, none⟩ = some (.pointer (some ⟨Nd, 0, none⟩)) := oNa.cell 0
    have b1 : wa.cell? ⟨N, 1, none⟩ = some (.map (some bm)) := oNa.cell 1
    have b2 : wa.cell? ⟨N, 2, none⟩ = some (.int .i64 0) := oNa.cell 2
    have a0 : wa.cell? ⟨w.heap.size, 0, none⟩ = some (.int .i64 x) := oCa.cell 0
    have a1 : wa.cell? ⟨w.heap.size, 1, none⟩ = some (.int .i64 y) := oCa.cell 1
    have lNa := oNa.lt
    have lCa := oCa.lt
    obtain ⟨w3, hop, hmm3, hu3⟩ := HOp.out wa.drew (HMa.out.keep zqb)
    have HM3 : Hid (Mm w3 N Nd bm (n + 1) (upM M x y (some 2)) 0) := hmm3
    have HU3 : Hid (Mut (fun b => b = N ∨ b = bm) w w3) := (show Mut _ _ _ from (HUa.out.below zqb).call hu3 (fun b q => .inl (.inr q)))
    have oN3 := hmm3.own
    have oC3 : Own w3 w.heap.size #[.int .i64 x, .int .i64 y] := Own.mut (by with_reducible (repeat' first | assumption | refine Own.drew ?_ | refine Own.drewN ?_ _ | (refine Own.at ?_; first | rfl | (simp; done)) | refine Own.past ?_ _)) hu3 (fun q => by omega)
    have m0 : w3.cell? ⟨N, 0, none⟩ = some (.pointer (some ⟨Nd, 0, none⟩)) := oN3.cell 0
    have m1 : w3.cell? ⟨N, 1, none⟩ = some (.map (some bm)) := oN3.cell 1
    have m2 : w3.cell? ⟨N, 2, none⟩ = some (.int .i64 0) := oN3.cell 2
    have o0 : w3.cell? ⟨w.heap.size, 0, none⟩ = some (.int .i64 x) := oC3.cell 0
    have o1 : w3.cell? ⟨w.heap.size, 1, none⟩ = some (.int .i64 y) := oC3.cell 1
    have lN3 := oN3.lt
    have lC3 := oC3.lt
    have z3 := HU3.out.size
    clear hmm3 hu3 HMa HUa HOp oNa oN3 HMm
    refine wp_region_held_drew (S := (fun w' => w'.cell? ⟨N, 0, none⟩ = some (.pointer (some ⟨Nd, 0, none⟩)) ∧ w'.cell? ⟨N, 1, none⟩ = some (.map (some bm)) ∧ w'.cell? ⟨N, 2, none⟩ = some (.int .i64 0) ∧ w'.cell? ⟨w.heap.size, 0, none⟩ = some (.int .i64 x) ∧ w'.cell? ⟨w.heap.size, 1, none⟩ = some (.int .i64 y))) (by kernel_rfl) (by (try dsimp only); ((repeat' apply And.intro) <;> (first | (go_keep; done) | (go_simp; done)))) (fun hHeld => ?_)
    refine wpAnyH_take (i := 0) (v := .pointer (some ⟨N, 0, none⟩)) rfl (by kernel_rfl) (by kernel_rfl) (by kernel_rfl) (fun _ _ _ h => h) (Or.inl ⟨by first | rfl | kernel_rfl, by intro wz hSw; (try dsimp only at hSw); go_simp⟩) (by assumption) ?_
    (try simp only [Act.put, List.getElem_toArray, List.getElem_cons_succ, List.getElem_cons_zero, List.setIfInBounds_toArray, List.set_cons_zero, List.set_cons_succ])
    refine wpAnyH_take (i := 1) (v := .pointer (some ⟨N, 0, none⟩)) rfl (by kernel_rfl) (by kernel_rfl) (by kernel_rfl) (fun _ _ _ h => h) (Or.inl ⟨by first | rfl | kernel_rfl, by intro wz hSw; (try dsimp only at hSw); go_simp⟩) (by assumption) ?_
    (try simp only [Act.put, List.getElem_toArray, List.getElem_cons_succ, List.getElem_cons_zero, List.setIfInBounds_toArray, List.set_cons_zero, List.set_cons_succ])
    refine wpAnyH_take (i := 2) (v := .pointer (some ⟨N, 1, none⟩)) rfl (by kernel_rfl) (by kernel_rfl) (by kernel_rfl) (fun _ _ _ h => h) (Or.inl ⟨by first | rfl | kernel_rfl, by intro wz hSw; (try dsimp only at hSw); go_simp⟩) (by assumption) ?_
    (try simp only [Act.put, List.getElem_toArray, List.getElem_cons_succ, List.getElem_cons_zero, List.setIfInBounds_toArray, List.set_cons_zero, List.set_cons_succ])
    refine wpAnyH_take (i := 3) (v := .map (some bm)) rfl (by kernel_rfl) (by kernel_rfl) (by kernel_rfl) (fun _ _ _ h => h) (Or.inl ⟨by first | rfl | kernel_rfl, by intro wz hSw; (try dsimp only at hSw); go_simp⟩) (by assumption) ?_
    (try simp only [Act.put, List.getElem_toArray, List.getElem_cons_succ, List.getElem_cons_zero, List.setIfInBounds_toArray, List.set_cons_zero, List.set_cons_succ])
    refine wpAnyH_take (i := 4) (v := (.agg #[.int .i64 x, .int .i64 y])) rfl (by kernel_rfl) (by kernel_rfl) (by kernel_rfl) (fun _ _ _ h => h) (Or.inl ⟨by first | rfl | kernel_rfl, by intro wz hSw; (try dsimp only at hSw); go_simp⟩) (by assumption) ?_
    (try simp only [Act.put, List.getElem_toArray, List.getElem_cons_succ, List.getElem_cons_zero, List.setIfInBounds_toArray, List.set_cons_zero, List.set_cons_succ])
    refine wpAnyH_ready (rs := [5]) (by kernel_rfl) (by simp) ?_
    refine AllReadyH.cons rfl (fun K hK => ?_) ?_
    · go_simp
      refine hK.out _ _ (by (try dsimp only); first | (with_reducible assumption) | ((repeat' apply And.intro) <;> (first | (go_keep; done) | (go_simp; done)))) (fun hHeld => ?_)
      clear hK K
      (try simp only [Act.put, List.getElem_toArray, List.getElem_cons_succ, List.getElem_cons_zero, List.setIfInBounds_toArray, List.set_cons_zero, List.set_cons_succ])
      refine wpAnyH_done (by kernel_rfl) ?_ _
      go_wp2_with (go_loud (go_at_call 31; refine (HS1.out _ (HM3.out.keep zqb) (HU3.out.below zqb) (by first | omega | (simp; omega))).mono ?_; rintro e wb ⟨v1, ks, rfl, q1, q2, q3, q5⟩; obtain ⟨p1, hp1⟩ : ∃ p1, p1 = sprL x y 2 ks ((upM M x y (some 2)), [], n + 1) := ⟨_, rfl⟩; rw [← hp1] at q2 q3; have hbd1 := HB1.out ks q1; rw [← hp1] at hbd1; have HPP : Hid (P p1.1 p1.2.1 (max 0 p1.2.1.length)) := (show P _ _ _ from by rw [hp1]; exact HP0.out ks _ q1); have HMb : Hid (Mm wb N Nd bm p1.2.2 p1.1 (max 0 p1.2.1.length)) := q2; have HRb : Hid (RowC wb (w.heap.size + 1) v1 p1.2.1) := q3; have HUb : Hid (Mut (fun b => b = N ∨ b = bm) w wb) := (show Mut _ _ _ from ((HU3.out.below zqb).call q5 (fun b q => by exact .inl q))); have oCb : Own wb w.heap.size #[.int .i64 x, .int .i64 y] := Own.mut (by with_reducible (repeat' first | assumption | refine Own.drew ?_ | refine Own.drewN ?_ _ | (refine Own.at ?_; first | rfl | (simp; done)) | refine Own.past ?_ _)) q5 (fun q => by rcases q with q | q <;> omega); have HBd : Hid (OkM p1.1 ∧ p1.2.1.length + cln p1.1 ≤ 1048576 ∧ p1.2.1.length + 2 * cln p1.1 ≤ 2097152 ∧ p1.2.2 + cln p1.1 ≤ n + 2097153 ∧ ∀ k ∈ p1.2.1, mayC k.r k.c = true) := hbd1; clear q1 q2 q3 q5 hp1 hbd1))
      go_loopg [6] 2097152 (fun gk u6 w' => ∃ (M2 : Ms) (s : List Cl) (pk2 : Int) (c : Nat), Hid (P M2 s pk2) ∧ Hid (Mm w' N Nd bm c M2 pk2) ∧ Hid (RowC w' (w.heap.size + 1) u6 s) ∧ Hid (Mut (fun b => b = N ∨ b = bm) w w') ∧ Hid (Own w' w.heap.size #[.int .i64 x, .int .i64 y]) ∧ Hid (OkM M2 ∧ s.length + cln M2 ≤ 1048576 ∧ c + cln M2 ≤ n + 2097153 ∧ ∀ k ∈ s, mayC k.r k.c = true) ∧ s.length + 2 * cln M2 ≤ gk ∧ 0 ≤ pk2 ∧ pk2 ≤ 1048576)
      case atStart => exact ⟨p1.1, p1.2.1, _, p1.2.2, HPP, (show Mm _ _ _ _ _ _ _ from HMb.out.keep zqb), (show RowG _ _ _ _ _ _ _ from RowG.keep HRb.out zqb), (show Mut _ _ _ from HUb.out.below zqb), (show Own _ _ _ from by with_reducible (repeat' first | assumption | refine Own.drew ?_ | refine Own.drewN ?_ _ | (refine Own.at ?_; first | rfl | (simp; done)) | refine Own.past ?_ _)), (show _ ∧ _ ∧ _ ∧ _ from ⟨HBd.out.1, HBd.out.2.1, HBd.out.2.2.2.1, HBd.out.2.2.2.2⟩), HBd.out.2.2.1, by omega, by have := HBd.out.2.1; omega⟩
      case round =>
        clear HPP HMb HRb HUb oCb HBd HS1 HB1 HP0
        obtain ⟨M2, s, pk2, c, HPq, HMq, HRq, HUq, HCq, HBq, hmeas, hpk0, hpk1⟩ := hrel
        obtain ⟨q0, c0, hu6, hc1, hc2, hq⟩ := RowG.view Cl.len HRq.out
        have zq := HUq.out.size
        have oNq := HMq.out.own
        have lNq := oNq.lt
        have oCq := HCq.out
        have lCq := oCq.lt
        rcases List.eq_nil_or_concat s with rfl | ⟨s', k, hs⟩
        · obtain rfl : u6 = .slice q0 0 c0 := hu6
          clear hq
          go_wp2
          go_end0
          exact ⟨rfl, M2, pk2, c, HPq.out, HBq.out.1, HMq.out.keep zqb, by have := HBq.out.2.2.1; omega, hpk0, hpk1, HUq.out.below zqb⟩
        · rw [List.concat_eq_append] at hs
          subst hs
          obtain ⟨sl, hsl⟩ : ∃ sl, sl = s'.length := ⟨_, rfl⟩
          have hln : (s' ++ [k]).length = sl + 1 := by rw [hsl]; simp
          rw [hln] at hu6 hc1 hq hmeas
          obtain ⟨g, rfl, hg, hcl⟩ := hq (by omega)
          subst hu6
          have hkk : (s' ++ [k])[sl]? = some k := by rw [hsl]; simp
          have y0 : wr.cell? ⟨g, sl * 2, none⟩ = some (.int .i64 k.r) := hcl sl k hkk 0 _ rfl
          have y1 : wr.cell? ⟨g, sl * 2 + 1, none⟩ = some (.int .i64 k.c) := hcl sl k hkk 1 _ rfl
          have a0 : wr.cell? ⟨w.heap.size, 0, none⟩ = some (.int .i64 x) := oCq.cell 0
          have a1 : wr.cell? ⟨w.heap.size, 1, none⟩ = some (.int .i64 y) := oCq.cell 1
          have HPre : Hid (RowC wr (w.heap.size + 1) (.slice (some ⟨g, 0, none⟩) sl c0) s') := (show RowG _ _ _ _ _ _ _ from by rw [hsl]; exact row_pre Cl.len HRq.out)
          have HSl : Hid (s'.length = sl) := hsl.symm
          have hgl := HRq.out.lt g rfl
          have HIk : I64 k.r ∧ I64 k.c := by have := mayC_is (HBq.out.2.2.2 k (by simp)); exact ⟨by constructor <;> omega, by constructor <;> omega⟩
          have HS2 : Hid (∀ W, Below wr.heap.size wr W → Calls Tryz.prog 31 #[.pointer (some ⟨N, 0, none⟩), .slice (some ⟨g, 0, none⟩) sl c0, .agg #[.int .i64 k.r, .int .i64 k.c], .agg #[.int .i64 x, .int .i64 y], .int .i64 1] W fun e w' => ∃ v' ks, e = .returned v' ∧ IsWho (runE D) k.r k.c ks ∧ Mm w' N Nd bm (sprL x y 1 ks (M2, s', c)).2.2 (sprL x y 1 ks (M2, s', c)).1 (max pk2 (sprL x y 1 ks (M2, s', c)).2.1.length) ∧ RowC w' (w.heap.size + 1) v' (sprL x y 1 ks (M2, s', c)).2.1 ∧ (∀ g, v'.ownBlock = some g → g ≠ N ∧ g ≠ bm ∧ _) ∧ Mut (fun b => b = N ∨ b = bm ∨ (Value.slice (some ⟨g, 0, none⟩) sl c0).ownBlock = some b) W w') := (show _ from fun W hb => spr_any W N Nd bm c M2 pk2 D F _ s' k.r k.c x y 1 (w.heap.size + 1) (HMq.out.keep hb) ((HDw.out _ HUq.out).keep hb) (RowG.keep HPre.out hb) HBq.out.1 (by omega) (by omega) HIk.1 HIk.2 (fun q => by have e : g = N := (by injection q); omega) (fun q => by have e : g = bm := (by injection q); omega) (by have := HBq.out.2.2.1; omega) (by have := HBq.out.2.1; rw [hln] at this; have := HSl.out; omega) ⟨hpk0, hpk1⟩ (by have := hb.size; omega))
          have HB2 : Hid (∀ ks, IsWho (runE D) k.r k.c ks → OkM (sprL x y 1 ks (M2, s', c)).1 ∧ (sprL x y 1 ks (M2, s', c)).2.1.length + cln (sprL x y 1 ks (M2, s', c)).1 ≤ 1048576 ∧ (sprL x y 1 ks (M2, s', c)).2.1.length + 2 * cln (sprL x y 1 ks (M2, s', c)).1 + 1 ≤ gk ∧ (sprL x y 1 ks (M2, s', c)).2.2 + cln (sprL x y 1 ks (M2, s', c)).1 ≤ n + 2097153) := (show _ from fun ks hk => by
            have hm := who_may HEk.out hk
            have r := sprL_room (tx := x) (ty := y) (st := 1) (by omega) (by omega) ks (M2, s', c) hm HBq.out.1
            have k1 := HBq.out.2.1
            have k2 := HBq.out.2.2.1
            have k3 := HSl.out
            rw [hln] at k1
            obtain ⟨r1, r2, _, r4⟩ := r
            have r4 := r4 rfl
            simp only at r1 r2 r4
            exact ⟨sprL_ok (by omega) (by omega) ks _ hm HBq.out.1, by omega, by omega, by omega⟩)
          have HPn : Hid (∀ ks, IsWho (runE D) k.r k.c ks → P (sprL x y 1 ks (M2, s', c)).1 (sprL x y 1 ks (M2, s', c)).2.1 (max pk2 (sprL x y 1 ks (M2, s', c)).2.1.length)) := (show _ from fun ks hk => HP1.out M2 s' k pk2 ks c HBq.out.1 HPq.out hk)
          have lgr : g < wr.heap.size := by omega
          have hcs : ¬ c0 < sl := by omega
          have hsn : ¬ ((sl : Int) + 1 ≤ (sl : Int)) := by omega
          have hcs2 : ¬ c0 < sl + 1 := by omega
          clear hcl hq hkk hsl hln HRq HIk HPq
          go_wp2
          refine wp_region_held_drew (S := fun _ => True) (by kernel_rfl) trivial (fun hHeld => ?_)
          refine wpAnyH_take (i := 0) (v := .pointer (some ⟨N, 0, none⟩)) rfl (by kernel_rfl) (by kernel_rfl) (by kernel_rfl) (fun _ _ _ h => h) (Or.inl ⟨by first | rfl | kernel_rfl, by intro wz hSw; (try dsimp only at hSw); go_simp⟩) trivial ?_
          (try simp only [Act.put, List.getElem_toArray, List.getElem_cons_succ, List.getElem_cons_zero, List.setIfInBounds_toArray, List.set_cons_zero, List.set_cons_succ])
          refine wpAnyH_take (i := 1) (v := .slice (some ⟨g, 0, none⟩) (sl + 1) c0) rfl (by kernel_rfl) (by kernel_rfl) (by kernel_rfl) (fun _ _ _ h => h) (Or.inl ⟨by first | rfl | kernel_rfl, by intro wz hSw; (try dsimp only at hSw); go_simp⟩) trivial ?_
          (try simp only [Act.put, List.getElem_toArray, List.getElem_cons_succ, List.getElem_cons_zero, List.setIfInBounds_toArray, List.set_cons_zero, List.set_cons_succ])
          refine wpAnyH_take (i := 2) (v := .int .i64 sl) rfl (by kernel_rfl) (by kernel_rfl) (by kernel_rfl) (fun _ _ _ h => h) (Or.inl ⟨by first | rfl | kernel_rfl, by intro wz hSw; (try dsimp only at hSw); go_simp⟩) trivial ?_
          (try simp only [Act.put, List.getElem_toArray, List.getElem_cons_succ, List.getElem_cons_zero, List.setIfInBounds_toArray, List.set_cons_zero, List.set_cons_succ])
          refine wpAnyH_take (i := 3) (v := .slice (some ⟨g, 0, none⟩) sl c0) rfl (by kernel_rfl) (by kernel_rfl) (by kernel_rfl) (fun _ _ _ h => h) (Or.inl ⟨by first | rfl | kernel_rfl, by intro wz hSw; (try dsimp only at hSw); go_simp⟩) trivial ?_
          (try simp only [Act.put, List.getElem_toArray, List.getElem_cons_succ, List.getElem_cons_zero, List.setIfInBounds_toArray, List.set_cons_zero, List.set_cons_succ])
          refine wpAnyH_take (i := 4) (v := .slice (some ⟨g, 0, none⟩) (sl + 1) c0) rfl (by kernel_rfl) (by kernel_rfl) (by kernel_rfl) (fun _ _ _ h => h) (Or.inl ⟨by first | rfl | kernel_rfl, by intro wz hSw; (try dsimp only at hSw); go_simp⟩) trivial ?_
          (try simp only [Act.put, List.getElem_toArray, List.getElem_cons_succ, List.getElem_cons_zero, List.setIfInBounds_toArray, List.set_cons_zero, List.set_cons_succ])
          refine wpAnyH_take (i := 5) (v := .int .i64 sl) rfl (by kernel_rfl) (by kernel_rfl) (by kernel_rfl) (fun _ _ _ h => h) (Or.inl ⟨by first | rfl | kernel_rfl, by intro wz hSw; (try dsimp only at hSw); go_simp⟩) trivial ?_
          (try simp only [Act.put, List.getElem_toArray, List.getElem_cons_succ, List.getElem_cons_zero, List.setIfInBounds_toArray, List.set_cons_zero, List.set_cons_succ])
          refine wpAnyH_take (i := 6) (v := .pointer (some ⟨g, sl * 2, none⟩)) rfl (by kernel_rfl) (by kernel_rfl) (by kernel_rfl) (fun _ _ _ h => h) (Or.inl ⟨by first | rfl | kernel_rfl, by intro wz hSw; (try dsimp only at hSw); go_simp⟩) trivial ?_
          (try simp only [Act.put, List.getElem_toArray, List.getElem_cons_succ, List.getElem_cons_zero, List.setIfInBounds_toArray, List.set_cons_zero, List.set_cons_succ])
          refine wpAnyH_ready (rs := [7, 8]) (by kernel_rfl) (by simp) ?_
          refine AllReadyH.cons rfl (fun K hK => ?_) ?_
          · go_simp
            refine hK.out _ _ trivial (fun hHeld => ?_)
            clear hK K
            (try simp only [Act.put, List.getElem_toArray, List.getElem_cons_succ, List.getElem_cons_zero, List.setIfInBounds_toArray, List.set_cons_zero, List.set_cons_succ])
            refine wpAnyH_ready (rs := [8]) (by kernel_rfl) (by simp) ?_
            refine AllReadyH.cons rfl (fun K hK => ?_) ?_
            · go_simp
              refine hK.out _ _ trivial (fun hHeld => ?_)
              clear hK K
              (try simp only [Act.put, List.getElem_toArray, List.getElem_cons_succ, List.getElem_cons_zero, List.setIfInBounds_toArray, List.set_cons_zero, List.set_cons_succ])
              refine wpAnyH_ready (rs := [9]) (by kernel_rfl) (by simp) ?_
              refine AllReadyH.cons rfl (fun K hK => ?_) ?_
              · go_simp
                (go_at_call 31; refine (HS2.out _ zqb).mono ?_; rintro e wb ⟨v1, ks, rfl, q1, q2, q3, q4, q5⟩; obtain ⟨p2, hp2⟩ : ∃ p2, p2 = sprL x y 1 ks (M2, s', c) := ⟨_, rfl⟩; rw [← hp2] at q2 q3; have hb2 := HB2.out ks q1; rw [← hp2] at hb2; have HPP : Hid (P p2.1 p2.2.1 (max pk2 p2.2.1.length)) := (show P _ _ _ from by rw [hp2]; exact HPn.out ks q1); have HMb : Hid (Mm wb N Nd bm p2.2.2 p2.1 (max pk2 p2.2.1.length)) := q2; have HRb : Hid (RowC wb (w.heap.size + 1) v1 p2.2.1) := q3; have HUb : Hid (Mut (fun b => b = N ∨ b = bm) w wb) := (show Mut _ _ _ from (HUq.out.below zqb).call q5 (fun b q => by rcases q with q | q | q; exact .inl (.inl q); exact .inl (.inr q); have e : g = b := (by injection q); exact .inr (by omega))); have oCb : Own wb w.heap.size #[.int .i64 x, .int .i64 y] := Own.mut (by with_reducible (repeat' first | assumption | refine Own.drew ?_ | refine Own.drewN ?_ _ | (refine Own.at ?_; first | rfl | (simp; done)) | refine Own.past ?_ _)) q5 (fun q => by rcases q with q | q | q; omega; omega; have e : g = w.heap.size := (by injection q); omega); have HSb : Hid (∀ k ∈ p2.2.1, mayC k.r k.c = true) := (show _ from by rw [hp2]; exact fun j hj => (sprL_stk ks _ j hj).elim (fun q => HBq.out.2.2.2 j (List.mem_append_left _ q)) (fun q => who_may HEk.out q1 j q)); obtain ⟨B1, B2, B3, B4⟩ := hb2; have HB1' : Hid (OkM p2.1) := B1; clear q1 q2 q3 q4 q5 hp2 B1)
                go_wp2_with fail
                refine hK.out _ _ trivial (fun hHeld => ?_)
                clear hK K
                (try simp only [Act.put, List.getElem_toArray, List.getElem_cons_succ, List.getElem_cons_zero, List.setIfInBounds_toArray, List.set_cons_zero, List.set_cons_succ])
                refine wpAnyH_take (i := 10) (v := v1) rfl (by kernel_rfl) (by kernel_rfl) (by kernel_rfl) (fun _ _ _ h => h) (Or.inl ⟨by first | rfl | kernel_rfl, by intro wz hSw; (try dsimp only at hSw); go_simp⟩) trivial ?_
                (try simp only [Act.put, List.getElem_toArray, List.getElem_cons_succ, List.getElem_cons_zero, List.setIfInBounds_toArray, List.set_cons_zero, List.set_cons_succ])
                refine wpAnyH_done (by kernel_rfl) ?_ _
                go_wp2
                go_roundg (p2.2.1.length + 2 * cln p2.1)
                case measure => omega
                case rel => exact ⟨p2.1, p2.2.1, _, p2.2.2, HPP, (show Mm _ _ _ _ _ _ _ from HMb.out.keep zqb), (show RowG _ _ _ _ _ _ _ from RowG.keep HRb.out zqb), (show Mut _ _ _ from HUb.out.below zqb), (show Own _ _ _ from by with_reducible (repeat' first | assumption | refine Own.drew ?_ | refine Own.drewN ?_ _ | (refine Own.at ?_; first | rfl | (simp; done)) | refine Own.past ?_ _)), (show _ ∧ _ ∧ _ ∧ _ from ⟨HB1'.out, B2, B4, HSb.out⟩), by omega, by omega, by omega⟩
              exact AllReadyH.nil
            exact AllReadyH.nil
          refine AllReadyH.cons rfl (fun K hK => ?_) ?_
          · go_simp
            refine hK.out _ _ trivial (fun hHeld => ?_)
            clear hK K
            (try simp only [Act.put, List.getElem_toArray, List.getElem_cons_succ, List.getElem_cons_zero, List.setIfInBounds_toArray, List.set_cons_zero, List.set_cons_succ])
            refine wpAnyH_ready (rs := [7]) (by kernel_rfl) (by simp) ?_
            refine AllReadyH.cons rfl (fun K hK => ?_) ?_
            · go_simp
              refine hK.out _ _ trivial (fun hHeld => ?_)
              clear hK K
              (try simp only [Act.put, List.getElem_toArray, List.getElem_cons_succ, List.getElem_cons_zero, List.setIfInBounds_toArray, List.set_cons_zero, List.set_cons_succ])
              refine wpAnyH_ready (rs := [9]) (by kernel_rfl) (by simp) ?_
              refine AllReadyH.cons rfl (fun K hK => ?_) ?_
              · go_simp
                (go_at_call 31; refine (HS2.out _ zqb).mono ?_; rintro e wb ⟨v1, ks, rfl, q1, q2, q3, q4, q5⟩; obtain ⟨p2, hp2⟩ : ∃ p2, p2 = sprL x y 1 ks (M2, s', c) := ⟨_, rfl⟩; rw [← hp2] at q2 q3; have hb2 := HB2.out ks q1; rw [← hp2] at hb2; have HPP : Hid (P p2.1 p2.2.1 (max pk2 p2.2.1.length)) := (show P _ _ _ from by rw [hp2]; exact HPn.out ks q1); have HMb : Hid (Mm wb N Nd bm p2.2.2 p2.1 (max pk2 p2.2.1.length)) := q2; have HRb : Hid (RowC wb (w.heap.size + 1) v1 p2.2.1) := q3; have HUb : Hid (Mut (fun b => b = N ∨ b = bm) w wb) := (show Mut _ _ _ from (HUq.out.below zqb).call q5 (fun b q => by rcases q with q | q | q; exact .inl (.inl q); exact .inl (.inr q); have e : g = b := (by injection q); exact .inr (by omega))); have oCb : Own wb w.heap.size #[.int .i64 x, .int .i64 y] := Own.mut (by with_reducible (repeat' first | assumption | refine Own.drew ?_ | refine Own.drewN ?_ _ | (refine Own.at ?_; first | rfl | (simp; done)) | refine Own.past ?_ _)) q5 (fun q => by rcases q with q | q | q; omega; omega; have e : g = w.heap.size := (by injection q); omega); have HSb : Hid (∀ k ∈ p2.2.1, mayC k.r k.c = true) := (show _ from by rw [hp2]; exact fun j hj => (sprL_stk ks _ j hj).elim (fun q => HBq.out.2.2.2 j (List.mem_append_left _ q)) (fun q => who_may HEk.out q1 j q)); obtain ⟨B1, B2, B3, B4⟩ := hb2; have HB1' : Hid (OkM p2.1) := B1; clear q1 q2 q3 q4 q5 hp2 B1)
                go_wp2_with fail
                refine hK.out _ _ trivial (fun hHeld => ?_)
                clear hK K
                (try simp only [Act.put, List.getElem_toArray, List.getElem_cons_succ, List.getElem_cons_zero, List.setIfInBounds_toArray, List.set_cons_zero, List.set_cons_succ])
                refine wpAnyH_take (i := 10) (v := v1) rfl (by kernel_rfl) (by kernel_rfl) (by kernel_rfl) (fun _ _ _ h => h) (Or.inl ⟨by first | rfl | kernel_rfl, by intro wz hSw; (try dsimp only at hSw); go_simp⟩) trivial ?_
                (try simp only [Act.put, List.getElem_toArray, List.getElem_cons_succ, List.getElem_cons_zero, List.setIfInBounds_toArray, List.set_cons_zero, List.set_cons_succ])
                refine wpAnyH_done (by kernel_rfl) ?_ _
                go_wp2
                go_roundg (p2.2.1.length + 2 * cln p2.1)
                case measure => omega
                case rel => exact ⟨p2.1, p2.2.1, _, p2.2.2, HPP, (show Mm _ _ _ _ _ _ _ from HMb.out.keep zqb), (show RowG _ _ _ _ _ _ _ from RowG.keep HRb.out zqb), (show Mut _ _ _ from HUb.out.below zqb), (show Own _ _ _ from by with_reducible (repeat' first | assumption | refine Own.drew ?_ | refine Own.drewN ?_ _ | (refine Own.at ?_; first | rfl | (simp; done)) | refine Own.past ?_ _)), (show _ ∧ _ ∧ _ ∧ _ from ⟨HB1'.out, B2, B4, HSb.out⟩), by omega, by omega, by omega⟩
              exact AllReadyH.nil
            exact AllReadyH.nil
          exact AllReadyH.nil
    exact AllReadyH.nil
  | false =>
    rw [show tchM M x y false = upM M x y none from rfl] at hP0
    have HOp : Hid (∀ W, Mm W N Nd bm n M 0 → ∃ w3, (Builtin.delete_ #[81, 32] 0 #[.map (some bm), .agg #[.int .i64 x, .int .i64 y]]).run Tryz.prog W = .ok undef w3 ∧ Mm w3 N Nd bm (n + 1) (upM M x y none) 0 ∧ Mut (fun k => k = bm) W w3) := (show _ from fun W h1 => by
      obtain ⟨w3, r1, r2, r3⟩ := MapF.delI h1.map Tryz.underlying81 x y hx hy 0
      exact ⟨w3, r1, (h1.turn r2 r3).more (Nat.le_succ n), r3⟩)
    have HM0 : Hid (OkM (upM M x y none)) := (show OkM _ from hM.del x y)
    have HP0 : Hid (∀ ks n', IsWho (runE D) x y ks → P (sprL x y 2 ks ((upM M x y none), [], n')).1 (sprL x y 2 ks ((upM M x y none), [], n')).2.1 (max 0 (sprL x y 2 ks ((upM M x y none), [], n')).2.1.length)) := hP0
    have HS1 : Hid (∀ W, Mm W N Nd bm (n + 1) (upM M x y none) 0 → Mut (fun b => b = N ∨ b = bm) w W → w.heap.size + 1 ≤ W.heap.size → Calls Tryz.prog 31 #[.pointer (some ⟨N, 0, none⟩), .slice none 0 0, .agg #[.int .i64 x, .int .i64 y], .agg #[.int .i64 x, .int .i64 y], .int .i64 2] W fun e w' => ∃ v' ks, e = .returned v' ∧ IsWho (runE D) x y ks ∧ Mm w' N Nd bm (sprL x y 2 ks ((upM M x y none), [], n + 1)).2.2 (sprL x y 2 ks ((upM M x y none), [], n + 1)).1 (max 0 (sprL x y 2 ks ((upM M x y none), [], n + 1)).2.1.length) ∧ RowC w' (w.heap.size + 1) v' (sprL x y 2 ks ((upM M x y none), [], n + 1)).2.1 ∧ Mut (fun b => b = N ∨ b = bm) W w') := (show _ from fun W h1 h2 h3 => (spr_any W N Nd bm (n + 1) (upM M x y none) 0 D F (.slice none 0 0) [] x y x y 2 (w.heap.size + 1) h1 (HDw.out W h2) (RowG.nil _) HM0.out (by omega) (by omega) hx hy (fun q => by cases q) (fun q => by cases q) (by omega) (by have := cln_le (upM M x y none); simp; omega) ⟨by omega, by omega⟩ h3).mono (by
      rintro e w' ⟨v', ks, q1, q2, q3, q4, _, q5⟩
      exact ⟨v', ks, q1, q2, q3, q4, Mut.wide q5 (fun b q => by
        rcases q with q | q | q
        · exact .inl q
        · exact .inr q
        · cases q)⟩))
    have HB1 : Hid (∀ ks, IsWho (runE D) x y ks → OkM (sprL x y 2 ks ((upM M x y none), [], n + 1)).1 ∧ (sprL x y 2 ks ((upM M x y none), [], n + 1)).2.1.length + cln (sprL x y 2 ks ((upM M x y none), [], n + 1)).1 ≤ 1048576 ∧ (sprL x y 2 ks ((upM M x y none), [], n + 1)).2.1.length + 2 * cln (sprL x y 2 ks ((upM M x y none), [], n + 1)).1 ≤ 2097152 ∧ (sprL x y 2 ks ((upM M x y none), [], n + 1)).2.2 + cln (sprL x y 2 ks ((upM M x y none), [], n + 1)).1 ≤ n + 2097153 ∧ ∀ k ∈ (sprL x y 2 ks ((upM M x y none), [], n + 1)).2.1, mayC k.r k.c = true) := (show _ from fun ks hk => by
      have hmk := who_may HEk.out hk
      have r := sprL_room (tx := x) (ty := y) (st := 2) (by omega) (by omega) ks ((upM M x y none), [], n + 1) hmk HM0.out
      have r5 := cln_le (upM M x y none)
      have r6 := srtK_few hk.1 hmk
      have r7 := cln_le (sprL x y 2 ks ((upM M x y none), [], n + 1)).1
      obtain ⟨r1, r2, r3, _⟩ := r
      simp only [List.length_nil] at r1 r2 r3
      exact ⟨sprL_ok (by omega) (by omega) ks _ hmk HM0.out, by omega, by omega, by omega, fun k hk' => (sprL_stk ks _ k hk').elim (fun q => by cases q) (hmk k)⟩)
    clear hP0 hM hx hy hm
    go_enter Tryz.func17, Tryz.ntmps17
    go_wp2_with (go_at_call 21; refine (HMay.out _).mono ?_; rintro e wa ⟨rfl, hba⟩; have HMa : Hid (Mm wa N Nd bm n M 0) := (show Mm _ _ _ _ _ _ _ from ((HMm.out.peak 0).keep (bal _ _)).keep hba); have HUa : Hid (Mut (fun b => b = N ∨ b = bm) w wa) := (show Mut _ _ _ from ((Mut.set (S := fun b => b = N ∨ b = bm) (Mut.refl _ _) (a := ⟨N, 2, none⟩) (.inl (.inl rfl)) _).below (bal _ _)).below hba); have oCa : Own wa w.heap.size #[.int .i64 x, .int .i64 y] := Own.keep (by with_reducible (repeat' first | assumption | refine Own.drew ?_ | refine Own.drewN ?_ _ | (refine Own.at ?_; first | rfl | (simp; done)) | refine Own.past ?_ _)) hba; clear hba)
    have zA := HUa.out.size
    have oNa := HMa.out.own
    have b0 : wa.cell? ⟨N, 0, none⟩ = some (.pointer (some ⟨Nd, 0, none⟩)) := oNa.cell 0
    have b1 : wa.cell? ⟨N, 1, none⟩ = some (.map (some bm)) := oNa.cell 1
    have b2 : wa.cell? ⟨N, 2, none⟩ = some (.int .i64 0) := oNa.cell 2
    have a0 : wa.cell? ⟨w.heap.size, 0, none⟩ = some (.int .i64 x) := oCa.cell 0
    have a1 : wa.cell? ⟨w.heap.size, 1, none⟩ = some (.int .i64 y) := oCa.cell 1
    have lNa := oNa.lt
    have lCa := oCa.lt
    obtain ⟨w3, hop, hmm3, hu3⟩ := HOp.out wa.drew (HMa.out.keep zqb)
    have HM3 : Hid (Mm w3 N Nd bm (n + 1) (upM M x y none) 0) := hmm3
    have HU3 : Hid (Mut (fun b => b = N ∨ b = bm) w w3) := (show Mut _ _ _ from (HUa.out.below zqb).call hu3 (fun b q => .inl (.inr q)))
    have oN3 := hmm3.own
    have oC3 : Own w3 w.heap.size #[.int .i64 x, .int .i64 y] := Own.mut (by with_reducible (repeat' first | assumption | refine Own.drew ?_ | refine Own.drewN ?_ _ | (refine Own.at ?_; first | rfl | (simp; done)) | refine Own.past ?_ _)) hu3 (fun q => by omega)
    have m0 : w3.cell? ⟨N, 0, none⟩ = some (.pointer (some ⟨Nd, 0, none⟩)) := oN3.cell 0
    have m1 : w3.cell? ⟨N, 1, none⟩ = some (.map (some bm)) := oN3.cell 1
    have m2 : w3.cell? ⟨N, 2, none⟩ = some (.int .i64 0) := oN3.cell 2
    have o0 : w3.cell? ⟨w.heap.size, 0, none⟩ = some (.int .i64 x) := oC3.cell 0
    have o1 : w3.cell? ⟨w.heap.size, 1, none⟩ = some (.int .i64 y) := oC3.cell 1
    have lN3 := oN3.lt
    have lC3 := oC3.lt
    have z3 := HU3.out.size
    clear hmm3 hu3 HMa HUa HOp oNa oN3 HMm
    refine wp_region_held_drew (S := (fun w' => w'.cell? ⟨N, 0, none⟩ = some (.pointer (some ⟨Nd, 0, none⟩)) ∧ w'.cell? ⟨N, 1, none⟩ = some (.map (some bm)) ∧ w'.cell? ⟨N, 2, none⟩ = some (.int .i64 0) ∧ w'.cell? ⟨w.heap.size, 0, none⟩ = some (.int .i64 x) ∧ w'.cell? ⟨w.heap.size, 1, none⟩ = some (.int .i64 y))) (by kernel_rfl) (by (try dsimp only); ((repeat' apply And.intro) <;> (first | (go_keep; done) | (go_simp; done)))) (fun hHeld => ?_)
    refine wpAnyH_take (i := 0) (v := .pointer (some ⟨N, 0, none⟩)) rfl (by kernel_rfl) (by kernel_rfl) (by kernel_rfl) (fun _ _ _ h => h) (Or.inl ⟨by first | rfl | kernel_rfl, by intro wz hSw; (try dsimp only at hSw); go_simp⟩) (by assumption) ?_
    (try simp only [Act.put, List.getElem_toArray, List.getElem_cons_succ, List.getElem_cons_zero, List.setIfInBounds_toArray, List.set_cons_zero, List.set_cons_succ])
    refine wpAnyH_take (i := 1) (v := .pointer (some ⟨N, 0, none⟩)) rfl (by kernel_rfl) (by kernel_rfl) (by kernel_rfl) (fun _ _ _ h => h) (Or.inl ⟨by first | rfl | kernel_rfl, by intro wz hSw; (try dsimp only at hSw); go_simp⟩) (by assumption) ?_
    (try simp only [Act.put, List.getElem_toArray, List.getElem_cons_succ, List.getElem_cons_zero, List.setIfInBounds_toArray, List.set_cons_zero, List.set_cons_succ])
    refine wpAnyH_take (i := 2) (v := .pointer (some ⟨N, 1, none⟩)) rfl (by kernel_rfl) (by kernel_rfl) (by kernel_rfl) (fun _ _ _ h => h) (Or.inl ⟨by first | rfl | kernel_rfl, by intro wz hSw; (try dsimp only at hSw); go_simp⟩) (by assumption) ?_
    (try simp only [Act.put, List.getElem_toArray, List.getElem_cons_succ, List.getElem_cons_zero, List.setIfInBounds_toArray, List.set_cons_zero, List.set_cons_succ])
    refine wpAnyH_take (i := 3) (v := .map (some bm)) rfl (by kernel_rfl) (by kernel_rfl) (by kernel_rfl) (fun _ _ _ h => h) (Or.inl ⟨by first | rfl | kernel_rfl, by intro wz hSw; (try dsimp only at hSw); go_simp⟩) (by assumption) ?_
    (try simp only [Act.put, List.getElem_toArray, List.getElem_cons_succ, List.getElem_cons_zero, List.setIfInBounds_toArray, List.set_cons_zero, List.set_cons_succ])
    refine wpAnyH_take (i := 4) (v := (.agg #[.int .i64 x, .int .i64 y])) rfl (by kernel_rfl) (by kernel_rfl) (by kernel_rfl) (fun _ _ _ h => h) (Or.inl ⟨by first | rfl | kernel_rfl, by intro wz hSw; (try dsimp only at hSw); go_simp⟩) (by assumption) ?_
    (try simp only [Act.put, List.getElem_toArray, List.getElem_cons_succ, List.getElem_cons_zero, List.setIfInBounds_toArray, List.set_cons_zero, List.set_cons_succ])
    refine wpAnyH_ready (rs := [5]) (by kernel_rfl) (by simp) ?_
    refine AllReadyH.cons rfl (fun K hK => ?_) ?_
    · go_simp
      refine hK.out _ _ (by (try dsimp only); first | (with_reducible assumption) | ((repeat' apply And.intro) <;> (first | (go_keep; done) | (go_simp; done)))) (fun hHeld => ?_)
      clear hK K
      (try simp only [Act.put, List.getElem_toArray, List.getElem_cons_succ, List.getElem_cons_zero, List.setIfInBounds_toArray, List.set_cons_zero, List.set_cons_succ])
      refine wpAnyH_done (by kernel_rfl) ?_ _
      go_wp2_with (go_loud (go_at_call 31; refine (HS1.out _ (HM3.out.keep zqb) (HU3.out.below zqb) (by first | omega | (simp; omega))).mono ?_; rintro e wb ⟨v1, ks, rfl, q1, q2, q3, q5⟩; obtain ⟨p1, hp1⟩ : ∃ p1, p1 = sprL x y 2 ks ((upM M x y none), [], n + 1) := ⟨_, rfl⟩; rw [← hp1] at q2 q3; have hbd1 := HB1.out ks q1; rw [← hp1] at hbd1; have HPP : Hid (P p1.1 p1.2.1 (max 0 p1.2.1.length)) := (show P _ _ _ from by rw [hp1]; exact HP0.out ks _ q1); have HMb : Hid (Mm wb N Nd bm p1.2.2 p1.1 (max 0 p1.2.1.length)) := q2; have HRb : Hid (RowC wb (w.heap.size + 1) v1 p1.2.1) := q3; have HUb : Hid (Mut (fun b => b = N ∨ b = bm) w wb) := (show Mut _ _ _ from ((HU3.out.below zqb).call q5 (fun b q => by exact .inl q))); have oCb : Own wb w.heap.size #[.int .i64 x, .int .i64 y] := Own.mut (by with_reducible (repeat' first | assumption | refine Own.drew ?_ | refine Own.drewN ?_ _ | (refine Own.at ?_; first | rfl | (simp; done)) | refine Own.past ?_ _)) q5 (fun q => by rcases q with q | q <;> omega); have HBd : Hid (OkM p1.1 ∧ p1.2.1.length + cln p1.1 ≤ 1048576 ∧ p1.2.1.length + 2 * cln p1.1 ≤ 2097152 ∧ p1.2.2 + cln p1.1 ≤ n + 2097153 ∧ ∀ k ∈ p1.2.1, mayC k.r k.c = true) := hbd1; clear q1 q2 q3 q5 hp1 hbd1))
      go_loopg [6] 2097152 (fun gk u6 w' => ∃ (M2 : Ms) (s : List Cl) (pk2 : Int) (c : Nat), Hid (P M2 s pk2) ∧ Hid (Mm w' N Nd bm c M2 pk2) ∧ Hid (RowC w' (w.heap.size + 1) u6 s) ∧ Hid (Mut (fun b => b = N ∨ b = bm) w w') ∧ Hid (Own w' w.heap.size #[.int .i64 x, .int .i64 y]) ∧ Hid (OkM M2 ∧ s.length + cln M2 ≤ 1048576 ∧ c + cln M2 ≤ n + 2097153 ∧ ∀ k ∈ s, mayC k.r k.c = true) ∧ s.length + 2 * cln M2 ≤ gk ∧ 0 ≤ pk2 ∧ pk2 ≤ 1048576)
      case atStart => exact ⟨p1.1, p1.2.1, _, p1.2.2, HPP, (show Mm _ _ _ _ _ _ _ from HMb.out.keep zqb), (show RowG _ _ _ _ _ _ _ from RowG.keep HRb.out zqb), (show Mut _ _ _ from HUb.out.below zqb), (show Own _ _ _ from by with_reducible (repeat' first | assumption | refine Own.drew ?_ | refine Own.drewN ?_ _ | (refine Own.at ?_; first | rfl | (simp; done)) | refine Own.past ?_ _)), (show _ ∧ _ ∧ _ ∧ _ from ⟨HBd.out.1, HBd.out.2.1, HBd.out.2.2.2.1, HBd.out.2.2.2.2⟩), HBd.out.2.2.1, by omega, by have := HBd.out.2.1; omega⟩
      case round =>
        clear HPP HMb HRb HUb oCb HBd HS1 HB1 HP0
        obtain ⟨M2, s, pk2, c, HPq, HMq, HRq, HUq, HCq, HBq, hmeas, hpk0, hpk1⟩ := hrel
        obtain ⟨q0, c0, hu6, hc1, hc2, hq⟩ := RowG.view Cl.len HRq.out
        have zq := HUq.out.size
        have oNq := HMq.out.own
        have lNq := oNq.lt
        have oCq := HCq.out
        have lCq := oCq.lt
        rcases List.eq_nil_or_concat s with rfl | ⟨s', k, hs⟩
        · obtain rfl : u6 = .slice q0 0 c0 := hu6
          clear hq
          go_wp2
          go_end0
          exact ⟨rfl, M2, pk2, c, HPq.out, HBq.out.1, HMq.out.keep zqb, by have := HBq.out.2.2.1; omega, hpk0, hpk1, HUq.out.below zqb⟩
        · rw [List.concat_eq_append] at hs
          subst hs
          obtain ⟨sl, hsl⟩ : ∃ sl, sl = s'.length := ⟨_, rfl⟩
          have hln : (s' ++ [k]).length = sl + 1 := by rw [hsl]; simp
          rw [hln] at hu6 hc1 hq hmeas
          obtain ⟨g, rfl, hg, hcl⟩ := hq (by omega)
          subst hu6
          have hkk : (s' ++ [k])[sl]? = some k := by rw [hsl]; simp
          have y0 : wr.cell? ⟨g, sl * 2, none⟩ = some (.int .i64 k.r) := hcl sl k hkk 0 _ rfl
          have y1 : wr.cell? ⟨g, sl * 2 + 1, none⟩ = some (.int .i64 k.c) := hcl sl k hkk 1 _ rfl
          have a0 : wr.cell? ⟨w.heap.size, 0, none⟩ = some (.int .i64 x) := oCq.cell 0
          have a1 : wr.cell? ⟨w.heap.size, 1, none⟩ = some (.int .i64 y) := oCq.cell 1
          have HPre : Hid (RowC wr (w.heap.size + 1) (.slice (some ⟨g, 0, none⟩) sl c0) s') := (show RowG _ _ _ _ _ _ _ from by rw [hsl]; exact row_pre Cl.len HRq.out)
          have HSl : Hid (s'.length = sl) := hsl.symm
          have hgl := HRq.out.lt g rfl
          have HIk : I64 k.r ∧ I64 k.c := by have := mayC_is (HBq.out.2.2.2 k (by simp)); exact ⟨by constructor <;> omega, by constructor <;> omega⟩
          have HS2 : Hid (∀ W, Below wr.heap.size wr W → Calls Tryz.prog 31 #[.pointer (some ⟨N, 0, none⟩), .slice (some ⟨g, 0, none⟩) sl c0, .agg #[.int .i64 k.r, .int .i64 k.c], .agg #[.int .i64 x, .int .i64 y], .int .i64 1] W fun e w' => ∃ v' ks, e = .returned v' ∧ IsWho (runE D) k.r k.c ks ∧ Mm w' N Nd bm (sprL x y 1 ks (M2, s', c)).2.2 (sprL x y 1 ks (M2, s', c)).1 (max pk2 (sprL x y 1 ks (M2, s', c)).2.1.length) ∧ RowC w' (w.heap.size + 1) v' (sprL x y 1 ks (M2, s', c)).2.1 ∧ (∀ g, v'.ownBlock = some g → g ≠ N ∧ g ≠ bm ∧ _) ∧ Mut (fun b => b = N ∨ b = bm ∨ (Value.slice (some ⟨g, 0, none⟩) sl c0).ownBlock = some b) W w') := (show _ from fun W hb => spr_any W N Nd bm c M2 pk2 D F _ s' k.r k.c x y 1 (w.heap.size + 1) (HMq.out.keep hb) ((HDw.out _ HUq.out).keep hb) (RowG.keep HPre.out hb) HBq.out.1 (by omega) (by omega) HIk.1 HIk.2 (fun q => by have e : g = N := (by injection q); omega) (fun q => by have e : g = bm := (by injection q); omega) (by have := HBq.out.2.2.1; omega) (by have := HBq.out.2.1; rw [hln] at this; have := HSl.out; omega) ⟨hpk0, hpk1⟩ (by have := hb.size; omega))
          have HB2 : Hid (∀ ks, IsWho (runE D) k.r k.c ks → OkM (sprL x y 1 ks (M2, s', c)).1 ∧ (sprL x y 1 ks (M2, s', c)).2.1.length + cln (sprL x y 1 ks (M2, s', c)).1 ≤ 1048576 ∧ (sprL x y 1 ks (M2, s', c)).2.1.length + 2 * cln (sprL x y 1 ks (M2, s', c)).1 + 1 ≤ gk ∧ (sprL x y 1 ks (M2, s', c)).2.2 + cln (sprL x y 1 ks (M2, s', c)).1 ≤ n + 2097153) := (show _ from fun ks hk => by
            have hm := who_may HEk.out hk
            have r := sprL_room (tx := x) (ty := y) (st := 1) (by omega) (by omega) ks (M2, s', c) hm HBq.out.1
            have k1 := HBq.out.2.1
            have k2 := HBq.out.2.2.1
            have k3 := HSl.out
            rw [hln] at k1
            obtain ⟨r1, r2, _, r4⟩ := r
            have r4 := r4 rfl
            simp only at r1 r2 r4
            exact ⟨sprL_ok (by omega) (by omega) ks _ hm HBq.out.1, by omega, by omega, by omega⟩)
          have HPn : Hid (∀ ks, IsWho (runE D) k.r k.c ks → P (sprL x y 1 ks (M2, s', c)).1 (sprL x y 1 ks (M2, s', c)).2.1 (max pk2 (sprL x y 1 ks (M2, s', c)).2.1.length)) := (show _ from fun ks hk => HP1.out M2 s' k pk2 ks c HBq.out.1 HPq.out hk)
          have lgr : g < wr.heap.size := by omega
          have hcs : ¬ c0 < sl := by omega
          have hsn : ¬ ((sl : Int) + 1 ≤ (sl : Int)) := by omega
          have hcs2 : ¬ c0 < sl + 1 := by omega
          clear hcl hq hkk hsl hln HRq HIk HPq
          go_wp2
          refine wp_region_held_drew (S := fun _ => True) (by kernel_rfl) trivial (fun hHeld => ?_)
          refine wpAnyH_take (i := 0) (v := .pointer (some ⟨N, 0, none⟩)) rfl (by kernel_rfl) (by kernel_rfl) (by kernel_rfl) (fun _ _ _ h => h) (Or.inl ⟨by first | rfl | kernel_rfl, by intro wz hSw; (try dsimp only at hSw); go_simp⟩) trivial ?_
          (try simp only [Act.put, List.getElem_toArray, List.getElem_cons_succ, List.getElem_cons_zero, List.setIfInBounds_toArray, List.set_cons_zero, List.set_cons_succ])
          refine wpAnyH_take (i := 1) (v := .slice (some ⟨g, 0, none⟩) (sl + 1) c0) rfl (by kernel_rfl) (by kernel_rfl) (by kernel_rfl) (fun _ _ _ h => h) (Or.inl ⟨by first | rfl | kernel_rfl, by intro wz hSw; (try dsimp only at hSw); go_simp⟩) trivial ?_
          (try simp only [Act.put, List.getElem_toArray, List.getElem_cons_succ, List.getElem_cons_zero, List.setIfInBounds_toArray, List.set_cons_zero, List.set_cons_succ])
          refine wpAnyH_take (i := 2) (v := .int .i64 sl) rfl (by kernel_rfl) (by kernel_rfl) (by kernel_rfl) (fun _ _ _ h => h) (Or.inl ⟨by first | rfl | kernel_rfl, by intro wz hSw; (try dsimp only at hSw); go_simp⟩) trivial ?_
          (try simp only [Act.put, List.getElem_toArray, List.getElem_cons_succ, List.getElem_cons_zero, List.setIfInBounds_toArray, List.set_cons_zero, List.set_cons_succ])
          refine wpAnyH_take (i := 3) (v := .slice (some ⟨g, 0, none⟩) sl c0) rfl (by kernel_rfl) (by kernel_rfl) (by kernel_rfl) (fun _ _ _ h => h) (Or.inl ⟨by first | rfl | kernel_rfl, by intro wz hSw; (try dsimp only at hSw); go_simp⟩) trivial ?_
          (try simp only [Act.put, List.getElem_toArray, List.getElem_cons_succ, List.getElem_cons_zero, List.setIfInBounds_toArray, List.set_cons_zero, List.set_cons_succ])
          refine wpAnyH_take (i := 4) (v := .slice (some ⟨g, 0, none⟩) (sl + 1) c0) rfl (by kernel_rfl) (by kernel_rfl) (by kernel_rfl) (fun _ _ _ h => h) (Or.inl ⟨by first | rfl | kernel_rfl, by intro wz hSw; (try dsimp only at hSw); go_simp⟩) trivial ?_
          (try simp only [Act.put, List.getElem_toArray, List.getElem_cons_succ, List.getElem_cons_zero, List.setIfInBounds_toArray, List.set_cons_zero, List.set_cons_succ])
          refine wpAnyH_take (i := 5) (v := .int .i64 sl) rfl (by kernel_rfl) (by kernel_rfl) (by kernel_rfl) (fun _ _ _ h => h) (Or.inl ⟨by first | rfl | kernel_rfl, by intro wz hSw; (try dsimp only at hSw); go_simp⟩) trivial ?_
          (try simp only [Act.put, List.getElem_toArray, List.getElem_cons_succ, List.getElem_cons_zero, List.setIfInBounds_toArray, List.set_cons_zero, List.set_cons_succ])
          refine wpAnyH_take (i := 6) (v := .pointer (some ⟨g, sl * 2, none⟩)) rfl (by kernel_rfl) (by kernel_rfl) (by kernel_rfl) (fun _ _ _ h => h) (Or.inl ⟨by first | rfl | kernel_rfl, by intro wz hSw; (try dsimp only at hSw); go_simp⟩) trivial ?_
          (try simp only [Act.put, List.getElem_toArray, List.getElem_cons_succ, List.getElem_cons_zero, List.setIfInBounds_toArray, List.set_cons_zero, List.set_cons_succ])
          refine wpAnyH_ready (rs := [7, 8]) (by kernel_rfl) (by simp) ?_
          refine AllReadyH.cons rfl (fun K hK => ?_) ?_
          · go_simp
            refine hK.out _ _ trivial (fun hHeld => ?_)
            clear hK K
            (try simp only [Act.put, List.getElem_toArray, List.getElem_cons_succ, List.getElem_cons_zero, List.setIfInBounds_toArray, List.set_cons_zero, List.set_cons_succ])
            refine wpAnyH_ready (rs := [8]) (by kernel_rfl) (by simp) ?_
            refine AllReadyH.cons rfl (fun K hK => ?_) ?_
            · go_simp
              refine hK.out _ _ trivial (fun hHeld => ?_)
              clear hK K
              (try simp only [Act.put, List.getElem_toArray, List.getElem_cons_succ, List.getElem_cons_zero, List.setIfInBounds_toArray, List.set_cons_zero, List.set_cons_succ])
              refine wpAnyH_ready (rs := [9]) (by kernel_rfl) (by simp) ?_
              refine AllReadyH.cons rfl (fun K hK => ?_) ?_
              · go_simp
                (go_at_call 31; refine (HS2.out _ zqb).mono ?_; rintro e wb ⟨v1, ks, rfl, q1, q2, q3, q4, q5⟩; obtain ⟨p2, hp2⟩ : ∃ p2, p2 = sprL x y 1 ks (M2, s', c) := ⟨_, rfl⟩; rw [← hp2] at q2 q3; have hb2 := HB2.out ks q1; rw [← hp2] at hb2; have HPP : Hid (P p2.1 p2.2.1 (max pk2 p2.2.1.length)) := (show P _ _ _ from by rw [hp2]; exact HPn.out ks q1); have HMb : Hid (Mm wb N Nd bm p2.2.2 p2.1 (max pk2 p2.2.1.length)) := q2; have HRb : Hid (RowC wb (w.heap.size + 1) v1 p2.2.1) := q3; have HUb : Hid (Mut (fun b => b = N ∨ b = bm) w wb) := (show Mut _ _ _ from (HUq.out.below zqb).call q5 (fun b q => by rcases q with q | q | q; exact .inl (.inl q); exact .inl (.inr q); have e : g = b := (by injection q); exact .inr (by omega))); have oCb : Own wb w.heap.size #[.int .i64 x, .int .i64 y] := Own.mut (by with_reducible (repeat' first | assumption | refine Own.drew ?_ | refine Own.drewN ?_ _ | (refine Own.at ?_; first | rfl | (simp; done)) | refine Own.past ?_ _)) q5 (fun q => by rcases q with q | q | q; omega; omega; have e : g = w.heap.size := (by injection q); omega); have HSb : Hid (∀ k ∈ p2.2.1, mayC k.r k.c = true) := (show _ from by rw [hp2]; exact fun j hj => (sprL_stk ks _ j hj).elim (fun q => HBq.out.2.2.2 j (List.mem_append_left _ q)) (fun q => who_may HEk.out q1 j q)); obtain ⟨B1, B2, B3, B4⟩ := hb2; have HB1' : Hid (OkM p2.1) := B1; clear q1 q2 q3 q4 q5 hp2 B1)
                go_wp2_with fail
                refine hK.out _ _ trivial (fun hHeld => ?_)
                clear hK K
                (try simp only [Act.put, List.getElem_toArray, List.getElem_cons_succ, List.getElem_cons_zero, List.setIfInBounds_toArray, List.set_cons_zero, List.set_cons_succ])
                refine wpAnyH_take (i := 10) (v := v1) rfl (by kernel_rfl) (by kernel_rfl) (by kernel_rfl) (fun _ _ _ h => h) (Or.inl ⟨by first | rfl | kernel_rfl, by intro wz hSw; (try dsimp only at hSw); go_simp⟩) trivial ?_
                (try simp only [Act.put, List.getElem_toArray, List.getElem_cons_succ, List.getElem_cons_zero, List.setIfInBounds_toArray, List.set_cons_zero, List.set_cons_succ])
                refine wpAnyH_done (by kernel_rfl) ?_ _
                go_wp2
                go_roundg (p2.2.1.length + 2 * cln p2.1)
                case measure => omega
                case rel => exact ⟨p2.1, p2.2.1, _, p2.2.2, HPP, (show Mm _ _ _ _ _ _ _ from HMb.out.keep zqb), (show RowG _ _ _ _ _ _ _ from RowG.keep HRb.out zqb), (show Mut _ _ _ from HUb.out.below zqb), (show Own _ _ _ from by with_reducible (repeat' first | assumption | refine Own.drew ?_ | refine Own.drewN ?_ _ | (refine Own.at ?_; first | rfl | (simp; done)) | refine Own.past ?_ _)), (show _ ∧ _ ∧ _ ∧ _ from ⟨HB1'.out, B2, B4, HSb.out⟩), by omega, by omega, by omega⟩
              exact AllReadyH.nil
            exact AllReadyH.nil
          refine AllReadyH.cons rfl (fun K hK => ?_) ?_
          · go_simp
            refine hK.out _ _ trivial (fun hHeld => ?_)
            clear hK K
            (try simp only [Act.put, List.getElem_toArray, List.getElem_cons_succ, List.getElem_cons_zero, List.setIfInBounds_toArray, List.set_cons_zero, List.set_cons_succ])
            refine wpAnyH_ready (rs := [7]) (by kernel_rfl) (by simp) ?_
            refine AllReadyH.cons rfl (fun K hK => ?_) ?_
            · go_simp
              refine hK.out _ _ trivial (fun hHeld => ?_)
              clear hK K
              (try simp only [Act.put, List.getElem_toArray, List.getElem_cons_succ, List.getElem_cons_zero, List.setIfInBounds_toArray, List.set_cons_zero, List.set_cons_succ])
              refine wpAnyH_ready (rs := [9]) (by kernel_rfl) (by simp) ?_
              refine AllReadyH.cons rfl (fun K hK => ?_) ?_
              · go_simp
                (go_at_call 31; refine (HS2.out _ zqb).mono ?_; rintro e wb ⟨v1, ks, rfl, q1, q2, q3, q4, q5⟩; obtain ⟨p2, hp2⟩ : ∃ p2, p2 = sprL x y 1 ks (M2, s', c) := ⟨_, rfl⟩; rw [← hp2] at q2 q3; have hb2 := HB2.out ks q1; rw [← hp2] at hb2; have HPP : Hid (P p2.1 p2.2.1 (max pk2 p2.2.1.length)) := (show P _ _ _ from by rw [hp2]; exact HPn.out ks q1); have HMb : Hid (Mm wb N Nd bm p2.2.2 p2.1 (max pk2 p2.2.1.length)) := q2; have HRb : Hid (RowC wb (w.heap.size + 1) v1 p2.2.1) := q3; have HUb : Hid (Mut (fun b => b = N ∨ b = bm) w wb) := (show Mut _ _ _ from (HUq.out.below zqb).call q5 (fun b q => by rcases q with q | q | q; exact .inl (.inl q); exact .inl (.inr q); have e : g = b := (by injection q); exact .inr (by omega))); have oCb : Own wb w.heap.size #[.int .i64 x, .int .i64 y] := Own.mut (by with_reducible (repeat' first | assumption | refine Own.drew ?_ | refine Own.drewN ?_ _ | (refine Own.at ?_; first | rfl | (simp; done)) | refine Own.past ?_ _)) q5 (fun q => by rcases q with q | q | q; omega; omega; have e : g = w.heap.size := (by injection q); omega); have HSb : Hid (∀ k ∈ p2.2.1, mayC k.r k.c = true) := (show _ from by rw [hp2]; exact fun j hj => (sprL_stk ks _ j hj).elim (fun q => HBq.out.2.2.2 j (List.mem_append_left _ q)) (fun q => who_may HEk.out q1 j q)); obtain ⟨B1, B2, B3, B4⟩ := hb2; have HB1' : Hid (OkM p2.1) := B1; clear q1 q2 q3 q4 q5 hp2 B1)
                go_wp2_with fail
                refine hK.out _ _ trivial (fun hHeld => ?_)
                clear hK K
                (try simp only [Act.put, List.getElem_toArray, List.getElem_cons_succ, List.getElem_cons_zero, List.setIfInBounds_toArray, List.set_cons_zero, List.set_cons_succ])
                refine wpAnyH_take (i := 10) (v := v1) rfl (by kernel_rfl) (by kernel_rfl) (by kernel_rfl) (fun _ _ _ h => h) (Or.inl ⟨by first | rfl | kernel_rfl, by intro wz hSw; (try dsimp only at hSw); go_simp⟩) trivial ?_
                (try simp only [Act.put, List.getElem_toArray, List.getElem_cons_succ, List.getElem_cons_zero, List.setIfInBounds_toArray, List.set_cons_zero, List.set_cons_succ])
                refine wpAnyH_done (by kernel_rfl) ?_ _
                go_wp2
                go_roundg (p2.2.1.length + 2 * cln p2.1)
                case measure => omega
                case rel => exact ⟨p2.1, p2.2.1, _, p2.2.2, HPP, (show Mm _ _ _ _ _ _ _ from HMb.out.keep zqb), (show RowG _ _ _ _ _ _ _ from RowG.keep HRb.out zqb), (show Mut _ _ _ from HUb.out.below zqb), (show Own _ _ _ from by with_reducible (repeat' first | assumption | refine Own.drew ?_ | refine Own.drewN ?_ _ | (refine Own.at ?_; first | rfl | (simp; done)) | refine Own.past ?_ _)), (show _ ∧ _ ∧ _ ∧ _ from ⟨HB1'.out, B2, B4, HSb.out⟩), by omega, by omega, by omega⟩
              exact AllReadyH.nil
            exact AllReadyH.nil
          exact AllReadyH.nil
    exact AllReadyH.nil
end Go.Proofs.YtcjanaldjokllaaGreat
