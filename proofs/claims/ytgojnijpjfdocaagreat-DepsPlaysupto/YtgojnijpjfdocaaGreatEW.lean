/- The contracts of deps.noTargets and New: nobody refers to anything. -/
import Derived.Test.YtgojnijpjfdocaaGreatEB
namespace Go.Proofs.YtgojnijpjfdocaaGreat
open Go.RowKit Go.Shelf
set_option linter.all false
set_option maxRecDepth 100000 in
set_option maxHeartbeats 2000000 in
theorem not_any (w : World) : Calls Tryz.prog 23 #[] w fun e w' => ∃ bc NB, e = .returned (.agg #[.map (some bc), .pointer (some ⟨NB, 0, none⟩)]) ∧ w.heap.size ≤ bc ∧ bc < NB ∧ MapF w' bc 0 (fun _ _ => nilS) ∧ Bd w' NB (fun b => if b = NB then some (0, 0, 0) else none) [] 0 ∧ Below w.heap.size w w' := by
  have mixed : Tryz.prog.follows .mixedOrders = true := by kernel_rfl
  have HN : Hid (∀ W, Calls Tryz.prog 39 #[] W fun e w' => e = .returned (.pointer (some ⟨W.heap.size, 0, none⟩)) ∧ Bd w' W.heap.size (fun b => if b = W.heap.size then some (0, 0, 0) else none) [] 0 ∧ Below W.heap.size W w' ∧ w'.heap.size = W.heap.size + 1) := bnew_any
  go_enter Tryz.func23, Tryz.ntmps23
  have hmm : ∀ (W : World), (Instr.makeMap 56 none).run Tryz.prog W = .ok (.map (some W.heap.size)) (W.alloc (.map #[] 0)) := fun W => run_makeMap _ W
  go_wp2_with (go_at_call 39; refine (HN.out _).mono ?_; rintro e w1 ⟨rfl, h1, h2, z1⟩; have HM : Hid (MapF w1 (w.heap.size + 1) 0 (fun _ _ => nilS)) := (show MapF _ _ _ _ from by have h := (MapF.made (w.alloc (.cells #[.map none, .pointer none] 59))).keep h2; simpa using h); have HD : Hid (Bd w1 (w.heap.size + 1 + 1) (fun b => if b = w.heap.size + 1 + 1 then some (0, 0, 0) else none) [] 0) := (show Bd _ _ _ _ _ from by simpa using h1); have hB : Below w.heap.size w w1 := bup (by with_reducible (repeat' first | assumption | exact Below.refl _ _ | refine Below.drew ?_ | refine bdrewN ?_ _ | refine Below.setCell ?_ (by first | exact Nat.le_refl _ | (simp; done) | (simp; omega) | omega) _ | refine Below.alloc ?_ (by first | exact Nat.le_refl _ | (simp; done) | (simp; omega) | omega) _)) h2; have oR : Own w1 w.heap.size #[.map none, .pointer none] := Own.keep (by with_reducible (repeat' first | assumption | refine Own.drew ?_ | refine Own.drewN ?_ _ | (refine Own.at ?_; first | rfl | (simp; done)) | refine Own.past ?_ _)) h2; have cR := oR.cell; have fR := oR.fro; have lR := oR.lt; clear h1 h2 z1)
  have hM2 : Mut (fun k => k = w.heap.size) w1 ((w1.setCell ⟨w.heap.size, 0, none⟩ (.map (some (w.heap.size + 1)))).setCell ⟨w.heap.size, 1, none⟩ (.pointer (some ⟨w.heap.size + 1 + 1, 0, none⟩))) := Mut.set (S := fun k => k = w.heap.size) (Mut.set (S := fun k => k = w.heap.size) (Mut.refl _ _) (.inl rfl) _) (.inl rfl) _
  have o2 : Own _ w.heap.size #[.map (some (w.heap.size + 1)), .pointer (some ⟨w.heap.size + 1 + 1, 0, none⟩)] := own_put (k := 1) (x := .pointer (some ⟨w.heap.size + 1 + 1, 0, none⟩)) (own_put (k := 0) (x := .map (some (w.heap.size + 1))) oR (by simp)) (by simp)
  have HM2 : Hid (MapF _ (w.heap.size + 1) 0 (fun _ _ => nilS)) := (show Hid _ from HM.out.mut hM2 (by intro q; omega))
  have HD2 : Hid (Bd _ (w.heap.size + 1 + 1) (fun b => if b = w.heap.size + 1 + 1 then some (0, 0, 0) else none) [] 0) := (show Hid _ from HD.out.mut hM2 (fun b q e => by
    by_cases e2 : b = w.heap.size + 1 + 1
    · omega
    · simp [e2] at q))
  have hB2 : Below w.heap.size w _ := hB.trans (hM2.to_below (B := w.heap.size) hB.size (fun k hk => by omega))
  revert HM2 HD2 hB2 o2
  clear hM2 cR fR lR oR
  generalize ((w1.setCell ⟨w.heap.size, 0, none⟩ (.map (some (w.heap.size + 1)))).setCell ⟨w.heap.size, 1, none⟩ (.pointer (some ⟨w.heap.size + 1 + 1, 0, none⟩))) = W2
  intro o2 HM2 HD2 hB2
  have c2 := o2.cell
  have f2 := o2.fro
  have l2 := o2.lt
  exact bodyPost_ret (v := .agg #[.map (some (w.heap.size + 1)), .pointer (some ⟨w.heap.size + 1 + 1, 0, none⟩)]) (by simp [results, Tryz.results23, go_sem, c2, f2, l2]) rfl ⟨_, _, rfl, by omega, by omega, HM2.out, HD2.out, hB2⟩
set_option maxRecDepth 100000 in
set_option maxHeartbeats 2000000 in
theorem dnew_any (w : World) : Calls Tryz.prog 9 #[] w fun e w' => ∃ N B, e = .returned (.pointer (some ⟨N, 0, none⟩)) ∧ w.heap.size ≤ N ∧ Dp w' N B (fun _ _ => []) 0 0 ∧ (∀ b, b < w.heap.size → B b = none) ∧ Below w.heap.size w w' := by
  have mixed : Tryz.prog.follows .mixedOrders = true := by kernel_rfl
  have hmm : ∀ (W : World), (Instr.makeMap 55 none).run Tryz.prog W = .ok (.map (some W.heap.size)) (W.alloc (.map #[] 0)) := fun W => run_makeMap _ W
  have HN : Hid (∀ W, Calls Tryz.prog 23 #[] W fun e w' => ∃ bc NB, e = .returned (.agg #[.map (some bc), .pointer (some ⟨NB, 0, none⟩)]) ∧ W.heap.size ≤ bc ∧ bc < NB ∧ MapF w' bc 0 (fun _ _ => nilS) ∧ Bd w' NB (fun b => if b = NB then some (0, 0, 0) else none) [] 0 ∧ Below W.heap.size W w') := not_any
  go_enter Tryz.func9, Tryz.ntmps9
  go_wp2_with (go_at_call 23; refine (HN.out _).mono ?_; rintro e w1 ⟨bc, NB, rfl, z1, z2, h1, h2, h3⟩; have HM : Hid (MapF w1 w.heap.size 0 (fun _ _ => nilS)) := (show MapF _ _ _ _ from by have h := (MapF.made w).keep h3; simpa using h); have HC : Hid (MapF w1 bc 0 (fun _ _ => nilS)) := h1; have HD : Hid (Bd w1 NB (fun b => if b = NB then some (0, 0, 0) else none) [] 0) := h2; have hB : Below w.heap.size w w1 := bup (by with_reducible (repeat' first | assumption | exact Below.refl _ _ | refine Below.drew ?_ | refine bdrewN ?_ _ | refine Below.setCell ?_ (by first | exact Nat.le_refl _ | (simp; done) | (simp; omega) | omega) _ | refine Below.alloc ?_ (by first | exact Nat.le_refl _ | (simp; done) | (simp; omega) | omega) _)) h3; have zz1 : w.heap.size + 1 ≤ bc := (by simpa using z1); clear h1 h2 h3 z1)
  have hNB : NB < w1.heap.size := HD.out.dom NB (by simp)
  go_ret
  refine ⟨w1.heap.size, fun b => if b = w1.heap.size then some (0, 0, 0) else if b = w.heap.size then some (1, 0, 0) else if b = bc then some (2, 0, 0) else if b = NB then some (5, 0, 0) else none, rfl, hB.size, ⟨⟨fun _ _ => List.Pairwise.nil, fun r c f hf => (by cases hf)⟩, if_pos rfl, fun b hb => ?_, w.heap.size, bc, NB, Own.new _ _ _, ⟨⟨_, HM.out.keep (bal _ _), fun r c _ _ => ⟨RowG.nil _, fun _ => rfl, fun g q => (by cases q)⟩⟩, ?_⟩, ⟨⟨_, HC.out.keep (bal _ _), fun x y _ _ => ⟨[], RowG.nil _, fun _ => rfl, List.Pairwise.nil, fun z => (by simp [inE]), fun g q => (by cases q), Nat.le_refl _⟩⟩, ?_, _, _, HD.out.keep (bal _ _), fun b q => ?_, fun p => by simp [inE]⟩⟩, fun b hb => ?_, by with_reducible (repeat' first | assumption | exact Below.refl _ _ | refine Below.drew ?_ | refine bdrewN ?_ _ | refine Below.setCell ?_ (by first | exact Nat.le_refl _ | (simp; done) | (simp; omega) | omega) _ | refine Below.alloc ?_ (by first | exact Nat.le_refl _ | (simp; done) | (simp; omega) | omega) _)⟩
  · have hz := hB.size
    have hb' : w1.heap.size + 1 ≤ b := by simpa using hb
    have e1 : ¬ b = w1.heap.size := by omega
    have e2 : ¬ b = w.heap.size := by omega
    have e3 : ¬ b = bc := by omega
    have e4 : ¬ b = NB := by omega
    simp [e1, e2, e3, e4]
  · have e1 : ¬ w.heap.size = w1.heap.size := by omega
    simp [e1]
  · have e1 : ¬ bc = w1.heap.size := by omega
    have e2 : ¬ bc = w.heap.size := by omega
    simp [e1, e2]
  · by_cases e : b = NB
    · subst e
      have e1 : ¬ b = w1.heap.size := by omega
      have e2 : ¬ b = w.heap.size := by omega
      have e3 : ¬ b = bc := by omega
      simp [e1, e2, e3]
    · simp [e] at q
  · have := hB.size
    have e1 : ¬ b = w1.heap.size := by omega
    have e2 : ¬ b = w.heap.size := by omega
    have e3 : ¬ b = bc := by omega
    have e4 : ¬ b = NB := by omega
    simp [e1, e2, e3, e4]
end Go.Proofs.YtgojnijpjfdocaaGreat
