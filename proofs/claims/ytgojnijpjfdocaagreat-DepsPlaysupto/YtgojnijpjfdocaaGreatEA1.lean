/- The contract of targets.add at a single cell. -/
import Derived.Test.YtgojnijpjfdocaaGreatEA
import Derived.Test.YtgojnijpjfdocaaGreatEA0
import Derived.Test.YtgojnijpjfdocaaGreatBBc
import Derived.Test.YtgojnijpjfdocaaGreatBIc
namespace Go.Proofs.YtgojnijpjfdocaaGreat
open Go.RowKit Go.Shelf
set_option linter.all false
theorem zeroCells (w : World) : (zeroValue 23).run Tryz.prog w = .ok nilS w := by kernel_rfl
set_option maxRecDepth 100000 in
set_option maxHeartbeats 4000000 in
theorem tadd_one (w : World) (bc NB : Nat) (B : Nat → Option TagD) (G : Int → Int → Rf → Prop) (n m : Nat) (r c x y : Int) (h : To w bc NB B G n m) (hx : I64 x) (hy : I64 y) (hG : ¬ G r c ⟨false, x, y, x, y⟩) (hm : m + 1 ≤ 4000000000000) (hn : n < 4000000000000) : Calls Tryz.prog 28 #[.agg #[.map (some bc), .pointer (some ⟨NB, 0, none⟩)], .agg #[.bool false, .int .i64 x, .int .i64 y, .int .i64 x, .int .i64 y], .agg #[.int .i64 r, .int .i64 c]] w fun e w' => e = .returned (.tuple #[]) ∧ ToOut w bc NB B (addG G r c ⟨false, x, y, x, y⟩) (n + 1) (m + 1) w' := by
  have mixed : Tryz.prog.follows .mixedOrders = true := by kernel_rfl
  obtain ⟨fc, h1, h2⟩ := h.map
  obtain ⟨L, k1, k2, k3, k4, k5, k6⟩ := h2 x y hx hy
  obtain ⟨v, hv⟩ : ∃ v, v = fc x y := ⟨_, rfl⟩
  rw [← hv] at k1 k2 k5
  have HR : Hid (∀ W, Below w.heap.size w W → RowK W v L) := (show _ from fun W hb => RowG.keep k1 hb)
  have HL : Hid (∀ W, Below w.heap.size w W → (Instr.lookup 56 (.map (some bc)) (.agg #[.int .i64 x, .int .i64 y]) false).run Tryz.prog W = .ok v W) := (show _ from fun W hb => by rw [hv]; exact (h1.keep hb).look Tryz.underlying56 (zeroCells W) x y hx hy)
  have HBs : Hid (∀ W, Below w.heap.size w W → Calls Tryz.prog 43 #[v, .agg #[.int .i64 r, .int .i64 c], .func (.func 34) #[] #[]] W fun e w' => e = .returned (.tuple #[.int .i64 (idxF (fK ⟨r, c⟩) L), .bool (hasF (fK ⟨r, c⟩) L)]) ∧ Below W.heap.size W w') := (show _ from fun W hb => bs_anyc W v L r c (fK ⟨r, c⟩) (HR.out W hb) (by omega) (SrtK.mono k3 ⟨r, c⟩) (fun W' _ z _ => ocel_any z.r z.c r c W'))
  have hbcl := h1.lt
  have hnb : ∀ g, v.ownBlock = some g → g ≠ bc := fun g q e => by subst e; have t := h.bcT; rw [k5 _ q] at t; cases t
  have hzn : (⟨r, c⟩ : Cl) ∉ L := fun q => hG ((k4 _).1 q)
  have HI : Hid (∀ W vb, Below w.heap.size w W → w.heap.size ≤ vb → W.heap[vb]? = some (.cells #[.int .i64 r, .int .i64 c] 33 (0, 0)) → Calls Tryz.prog 51 #[v, .int .i64 (idxF (fK ⟨r, c⟩) L), .slice (some ⟨vb, 0, none⟩) 1 1] W fun e w' => ∃ q' n' c', e = .returned (.slice q' n' c') ∧ (∀ b A, w.heap.size ≤ b → Own W b A → Own w' b A) ∧ W.heap.size ≤ w'.heap.size ∧ ∃ w'', (Instr.mapUpdate 56 (.map (some bc)) (.agg #[.int .i64 x, .int .i64 y]) (.slice q' n' c')).run Tryz.prog w' = .ok () w'' ∧ ToOut w bc NB B (addG G r c ⟨false, x, y, x, y⟩) (n + 1) (m + 1) w'' ∧ ∀ b A, w.heap.size ≤ b → Own W b A → Own w'' b A) := (show _ from fun W vb hb hvb hW => by
    refine (ins_anyc W v L _ vb ⟨r, c⟩ (HR.out W hb) (idxF_le _) (by omega) hW (fun q => by have := (RowG.lt k1 vb q).2; omega)).mono ?_
    rintro e w' ⟨v', rfl, p1, p2, p3⟩
    have p1' : RowK w' v' (insK L ⟨r, c⟩) := p1
    have hnil : v' ≠ nilS := fun e => by
      rcases RowG.two p1' with ⟨_, q⟩ | ⟨g, cap, cur, q, _⟩
      · exact insK_pos _ _ q
      · rw [q] at e; cases e
    have hsl : ∃ q' n' c', v' = .slice q' n' c' := by
      rcases RowG.two p1' with ⟨q, _⟩ | ⟨g, cap, cur, q, _⟩ <;> exact ⟨_, _, _, q⟩
    have hob : ∀ g, v'.ownBlock = some g → v.ownBlock = some g ∨ w.heap.size ≤ g := fun g q => by
      rcases p2 with p2 | ⟨g', p2, p4⟩
      · exact .inl (p2.symm.trans q)
      · rw [p2] at q; injection q with q; subst q; exact .inr (Nat.le_trans hb.size p4)
    have hMM : MapF w' bc n fc := (h1.keep hb).mut p3 (fun q => hnb bc q rfl)
    obtain ⟨w'', u1, u2, u3⟩ := hMM.put Tryz.underlying56 (by unfold maxLen; omega) x y hx hy v' hnil
    have hMu : Mut (fun b => isTo (B b)) w w'' := ((Mut.of_below hb).call p3 (fun b q => .inl (by show isTo (B b); rw [k5 b q]; exact .inr (.inl rfl)))).call u3 (fun b q => .inl (by subst q; show isTo (B b); rw [h.bcT]; exact .inl rfl))
    have hkeepv : ∀ g, v'.ownBlock = some g → g ≠ bc := fun g q e => by
      rcases hob g q with q2 | q2
      · exact hnb g q2 e
      · omega
    obtain ⟨q', n', c', rfl⟩ := hsl
    refine ⟨q', n', c', rfl, fun b A hb2 ho => ho.mut p3 (fun q => by have := (RowG.lt k1 b q).2; omega), p3.size, w'', u1, ⟨fun b => if b < w.heap.size then B b else if (Value.slice q' n' c').ownBlock = some b then some (4, x, y) else none, ⟨⟨_, u2, fun a b ha hb2 => ?_⟩, by show (if bc < w.heap.size then B bc else _) = _; rw [if_pos hbcl]; exact h.bcT, ?_⟩, hMu, fun b hb2 => if_pos hb2, fun b hb2 => ?_⟩, fun b A hb2 ho => (ho.mut p3 (fun q => by have := (RowG.lt k1 b q).2; omega)).mut u3 (fun q => by omega)⟩
    · by_cases e : a = x ∧ b = y
      · obtain ⟨rfl, rfl⟩ := e
        rw [updV_same]
        refine ⟨insK L ⟨r, c⟩, RowG.mut p1' u3 (fun g q => hkeepv g q), fun q => absurd q (insK_pos _ _), insK_srt k3 hzn, fun z => ?_, fun g q => ?_, by rw [insK_len]; omega⟩
        · rw [insK_mem, k4]
          unfold addG
          constructor
          · rintro (q | rfl)
            · exact .inl q
            · exact .inr ⟨rfl, rfl, rfl⟩
          · rintro (q | ⟨q1, q2, _⟩)
            · exact .inl q
            · exact .inr (by obtain ⟨z1, z2⟩ := z; simp at q1 q2; rw [q1, q2])
        · show (if g < w.heap.size then B g else _) = _
          by_cases hg : g < w.heap.size
          · rw [if_pos hg]
            rcases hob g q with q2 | q2
            · exact k5 g q2
            · omega
          · rw [if_neg hg, if_pos q]
      · rw [updV_other e]
        obtain ⟨L2, g1, g2, g3, g4, g5, g6⟩ := h2 a b ha hb2
        refine ⟨L2, RowG.mut (RowG.mut (RowG.keep g1 hb) p3 (fun g q1 q2 => ?_)) u3 (fun g q1 q2 => ?_), g2, g3, fun z => ?_, fun g q => ?_, by omega⟩
        · have t1 := g5 g q1
          rw [k5 g q2] at t1
          injection t1 with t1
          injection t1 with _ t1
          injection t1 with t1 t2
          exact e ⟨t1.symm, t2.symm⟩
        · subst q2
          have t1 := g5 g q1
          rw [h.bcT] at t1
          cases t1
        · rw [g4]
          unfold addG
          constructor
          · exact Or.inl
          · rintro (q | ⟨_, _, q⟩)
            · exact q
            · simp at q
              exact absurd ⟨q.1, q.2.1⟩ e
        · show (if g < w.heap.size then B g else _) = _
          rw [if_pos (RowG.lt g1 g q).2]
          exact g5 g q
    · obtain ⟨D, P, g1, g2, g3⟩ := h.bands
      refine ⟨D, P, ((g1.keep hb).mut p3 (fun b q1 q2 => ?_)).mut u3 (fun b q1 q2 => ?_) |>.more (by omega), fun b q => ?_, fun p => ?_⟩
      · have t1 := g2 b q1
        rw [k5 b q2] at t1
        cases t1
      · subst q2
        have t1 := g2 b q1
        rw [h.bcT] at t1
        cases t1
      · show (if b < w.heap.size then B b else _) = _
        rw [if_pos (g1.dom b q)]
        exact g2 b q
      · rw [g3]
        unfold addG
        constructor
        · exact Or.inl
        · rintro (q | ⟨_, _, q⟩)
          · exact q
          · simp at q
    · show (if b < w.heap.size then B b else _) = none ∨ _
      have hn2 : ¬ b < w.heap.size := by omega
      simp only [if_neg hn2]
      by_cases q : (Value.slice q' n' c').ownBlock = some b
      · rw [if_pos q]; exact .inr ⟨Nat.lt_of_lt_of_le (RowG.lt p1' b q).2 u3.size, .inr (.inl rfl)⟩
      · rw [if_neg q]; exact .inl rfl)
  have HCe : Hid (∀ W, Calls Tryz.prog 42 #[.agg #[.bool false, .int .i64 x, .int .i64 y, .int .i64 x, .int .i64 y]] W fun e w' => e = .returned (.agg #[.int .i64 x, .int .i64 y]) ∧ Below W.heap.size W w') := cellof_any ⟨false, x, y, x, y⟩
  clear h h1 h2 k1 k2 k3 k4 k5 k6 hG hm hn hbcl hnb hzn hv
  generalize idxF (fK ⟨r, c⟩) L = i at *
  generalize hasF (fK ⟨r, c⟩) L = hs at *
  go_enter Tryz.func28, Tryz.ntmps28
  go_wp2_with (go_at_call 42; refine (HCe.out _).mono ?_; rintro e wa ⟨rfl, hba⟩; have hBa : Below w.heap.size w wa := bup (by with_reducible (repeat' first | assumption | exact Below.refl _ _ | refine Below.drew ?_ | refine bdrewN ?_ _ | refine Below.setCell ?_ (by first | exact Nat.le_refl _ | (simp; done) | (simp; omega) | omega) _ | refine Below.alloc ?_ (by first | exact Nat.le_refl _ | (simp; done) | (simp; omega) | omega) _)) hba; have oTa : Own wa w.heap.size #[.map (some bc), .pointer (some ⟨NB, 0, none⟩)] := Own.keep (by with_reducible (repeat' first | assumption | refine Own.drew ?_ | refine Own.drewN ?_ _ | (refine Own.at ?_; first | rfl | (simp; done)) | refine Own.past ?_ _)) hba; have oFa : Own wa (w.heap.size + 1) #[.bool false, .int .i64 x, .int .i64 y, .int .i64 x, .int .i64 y] := Own.keep (by with_reducible (repeat' first | assumption | refine Own.drew ?_ | refine Own.drewN ?_ _ | (refine Own.at ?_; first | rfl | (simp; done)) | refine Own.past ?_ _)) hba; have oCa : Own wa (w.heap.size + 1 + 1) #[.int .i64 r, .int .i64 c] := Own.keep (by with_reducible (repeat' first | assumption | refine Own.drew ?_ | refine Own.drewN ?_ _ | (refine Own.at ?_; first | rfl | (simp; done)) | refine Own.past ?_ _)) hba; have cTa := oTa.cell; have cFa := oFa.cell; have cCa := oCa.cell; have lTa := oTa.lt; have lFa := oFa.lt; have lCa := oCa.lt; clear hba)
  obtain ⟨KB, hKe⟩ : ∃ KB : Nat, KB = wa.heap.size := ⟨_, rfl⟩
  obtain ⟨W1, hW1⟩ : ∃ W1 : World, W1 = wa.alloc (.cells #[.int .i64 x, .int .i64 y] 33) := ⟨_, rfl⟩
  have hB1 : Below w.heap.size w W1 := (by rw [hW1]; with_reducible (repeat' first | assumption | exact Below.refl _ _ | refine Below.drew ?_ | refine bdrewN ?_ _ | refine Below.setCell ?_ (by first | exact Nat.le_refl _ | (simp; done) | (simp; omega) | omega) _ | refine Below.alloc ?_ (by first | exact Nat.le_refl _ | (simp; done) | (simp; omega) | omega) _))
  have oT1 : Own W1 w.heap.size #[.map (some bc), .pointer (some ⟨NB, 0, none⟩)] := (by rw [hW1]; with_reducible (repeat' first | assumption | refine Own.drew ?_ | refine Own.drewN ?_ _ | (refine Own.at ?_; first | rfl | (simp; done)) | refine Own.past ?_ _))
  have oC1 : Own W1 (w.heap.size + 1 + 1) #[.int .i64 r, .int .i64 c] := (by rw [hW1]; with_reducible (repeat' first | assumption | refine Own.drew ?_ | refine Own.drewN ?_ _ | (refine Own.at ?_; first | rfl | (simp; done)) | refine Own.past ?_ _))
  have oK1 : Own W1 KB #[.int .i64 x, .int .i64 y] := (by rw [hW1, hKe]; with_reducible (repeat' first | assumption | refine Own.drew ?_ | refine Own.drewN ?_ _ | (refine Own.at ?_; first | rfl | (simp; done)) | refine Own.past ?_ _))
  have hKB : w.heap.size ≤ KB := (by rw [hKe]; exact hBa.size)
  rw [← hW1, ← hKe]
  clear hW1 hKe oTa oFa oCa cTa cFa cCa lTa lFa lCa hBa
  have a10 : W1.cell? ⟨w.heap.size, 0, none⟩ = some (.map (some bc)) := oT1.cell 0
  have b10 : W1.cell? ⟨w.heap.size + 1 + 1, 0, none⟩ = some (.int .i64 r) := oC1.cell 0
  have b11 : W1.cell? ⟨w.heap.size + 1 + 1, 1, none⟩ = some (.int .i64 c) := oC1.cell 1
  have k10 : W1.cell? ⟨KB, 0, none⟩ = some (.int .i64 x) := oK1.cell 0
  have k11 : W1.cell? ⟨KB, 1, none⟩ = some (.int .i64 y) := oK1.cell 1
  have hk1 := HL.out W1.drew (by with_reducible (repeat' first | assumption | exact Below.refl _ _ | refine Below.drew ?_ | refine bdrewN ?_ _ | refine Below.setCell ?_ (by first | exact Nat.le_refl _ | (simp; done) | (simp; omega) | omega) _ | refine Below.alloc ?_ (by first | exact Nat.le_refl _ | (simp; done) | (simp; omega) | omega) _))
  go_region_held3 (fun w' => w'.cell? ⟨w.heap.size, 0, none⟩ = some (.map (some bc)) ∧ w'.cell? ⟨w.heap.size + 1 + 1, 0, none⟩ = some (.int .i64 r) ∧ w'.cell? ⟨w.heap.size + 1 + 1, 1, none⟩ = some (.int .i64 c) ∧ w'.cell? ⟨KB, 0, none⟩ = some (.int .i64 x) ∧ w'.cell? ⟨KB, 1, none⟩ = some (.int .i64 y) ∧ (Instr.lookup 56 (.map (some bc)) (.agg #[.int .i64 x, .int .i64 y]) false).run Tryz.prog w' = .ok v w') ((repeat' apply And.intro) <;> (first | (go_keep; done) | (go_simp; done))) ((go_at_call 43; refine (HBs.out _ (by with_reducible (repeat' first | assumption | exact Below.refl _ _ | refine Below.drew ?_ | refine bdrewN ?_ _ | refine Below.setCell ?_ (by first | exact Nat.le_refl _ | (simp; done) | (simp; omega) | omega) _ | refine Below.alloc ?_ (by first | exact Nat.le_refl _ | (simp; done) | (simp; omega) | omega) _))).mono ?_; rintro e wb ⟨rfl, hbb⟩; have hBb : Below w.heap.size w wb := bup (by with_reducible (repeat' first | assumption | exact Below.refl _ _ | refine Below.drew ?_ | refine bdrewN ?_ _ | refine Below.setCell ?_ (by first | exact Nat.le_refl _ | (simp; done) | (simp; omega) | omega) _ | refine Below.alloc ?_ (by first | exact Nat.le_refl _ | (simp; done) | (simp; omega) | omega) _)) hbb; have oTb : Own wb w.heap.size #[.map (some bc), .pointer (some ⟨NB, 0, none⟩)] := Own.keep (by with_reducible (repeat' first | assumption | refine Own.drew ?_ | refine Own.drewN ?_ _ | (refine Own.at ?_; first | rfl | (simp; done)) | refine Own.past ?_ _)) hbb; have oCb : Own wb (w.heap.size + 1 + 1) #[.int .i64 r, .int .i64 c] := Own.keep (by with_reducible (repeat' first | assumption | refine Own.drew ?_ | refine Own.drewN ?_ _ | (refine Own.at ?_; first | rfl | (simp; done)) | refine Own.past ?_ _)) hbb; have oKb : Own wb KB #[.int .i64 x, .int .i64 y] := Own.keep (by with_reducible (repeat' first | assumption | refine Own.drew ?_ | refine Own.drewN ?_ _ | (refine Own.at ?_; first | rfl | (simp; done)) | refine Own.past ?_ _)) hbb; have ab0 : wb.cell? ⟨w.heap.size, 0, none⟩ = some (.map (some bc)) := oTb.cell 0; have bb0 : wb.cell? ⟨w.heap.size + 1 + 1, 0, none⟩ = some (.int .i64 r) := oCb.cell 0; have bb1 : wb.cell? ⟨w.heap.size + 1 + 1, 1, none⟩ = some (.int .i64 c) := oCb.cell 1; have kb0 : wb.cell? ⟨KB, 0, none⟩ = some (.int .i64 x) := oKb.cell 0; have kb1 : wb.cell? ⟨KB, 1, none⟩ = some (.int .i64 y) := oKb.cell 1; have hkb := HL.out wb hBb; have zKb : KB < wb.heap.size := oKb.lt; clear hbb))
  go_wp2
  have hk2 := HL.out wb.drew (by with_reducible (repeat' first | assumption | exact Below.refl _ _ | refine Below.drew ?_ | refine bdrewN ?_ _ | refine Below.setCell ?_ (by first | exact Nat.le_refl _ | (simp; done) | (simp; omega) | omega) _ | refine Below.alloc ?_ (by first | exact Nat.le_refl _ | (simp; done) | (simp; omega) | omega) _))
  have hk3 := fun o => HL.out (wb.drew.alloc o) (by with_reducible (repeat' first | assumption | exact Below.refl _ _ | refine Below.drew ?_ | refine bdrewN ?_ _ | refine Below.setCell ?_ (by first | exact Nat.le_refl _ | (simp; done) | (simp; omega) | omega) _ | refine Below.alloc ?_ (by first | exact Nat.le_refl _ | (simp; done) | (simp; omega) | omega) _))
  have hk4 := fun o => HL.out (wb.alloc o).drew (by with_reducible (repeat' first | assumption | exact Below.refl _ _ | refine Below.drew ?_ | refine bdrewN ?_ _ | refine Below.setCell ?_ (by first | exact Nat.le_refl _ | (simp; done) | (simp; omega) | omega) _ | refine Below.alloc ?_ (by first | exact Nat.le_refl _ | (simp; done) | (simp; omega) | omega) _))
  have zb := hBb.size
  clear hk1 hkb
  refine wp_region_held_drew (S := (fun w' => w'.cell? ⟨w.heap.size, 0, none⟩ = some (.map (some bc)) ∧ w'.cell? ⟨w.heap.size + 1 + 1, 0, none⟩ = some (.int .i64 r) ∧ w'.cell? ⟨w.heap.size + 1 + 1, 1, none⟩ = some (.int .i64 c) ∧ w'.cell? ⟨KB, 0, none⟩ = some (.int .i64 x) ∧ w'.cell? ⟨KB, 1, none⟩ = some (.int .i64 y))) (by kernel_rfl) (by (try dsimp only); ((repeat' apply And.intro) <;> (first | (go_keep; done) | (go_simp; done)))) (fun hHeld => ?_)
  refine wpAnyH_take (i := 0) (v := .pointer (some ⟨w.heap.size, 0, none⟩)) rfl (by kernel_rfl) (by kernel_rfl) (by kernel_rfl) (fun _ _ _ h => h) (Or.inl ⟨by first | rfl | kernel_rfl, by intro wz hSw; (try dsimp only at hSw); go_simp⟩) (by assumption) ?_
  (try simp only [Act.put, List.getElem_toArray, List.getElem_cons_succ, List.getElem_cons_zero, List.setIfInBounds_toArray, List.set_cons_zero, List.set_cons_succ])
  refine wpAnyH_take (i := 1) (v := .map (some bc)) rfl (by kernel_rfl) (by kernel_rfl) (by kernel_rfl) (fun _ _ _ h => h) (Or.inl ⟨by first | rfl | kernel_rfl, by intro wz hSw; (try dsimp only at hSw); go_simp⟩) (by assumption) ?_
  (try simp only [Act.put, List.getElem_toArray, List.getElem_cons_succ, List.getElem_cons_zero, List.setIfInBounds_toArray, List.set_cons_zero, List.set_cons_succ])
  refine wpAnyH_take (i := 2) (v := (.agg #[.int .i64 x, .int .i64 y])) rfl (by kernel_rfl) (by kernel_rfl) (by kernel_rfl) (fun _ _ _ h => h) (Or.inl ⟨by first | rfl | kernel_rfl, by intro wz hSw; (try dsimp only at hSw); go_simp⟩) (by assumption) ?_
  (try simp only [Act.put, List.getElem_toArray, List.getElem_cons_succ, List.getElem_cons_zero, List.setIfInBounds_toArray, List.set_cons_zero, List.set_cons_succ])
  refine wpAnyH_take (i := 3) (v := .pointer (some ⟨w.heap.size, 0, none⟩)) rfl (by kernel_rfl) (by kernel_rfl) (by kernel_rfl) (fun _ _ _ h => h) (Or.inl ⟨by first | rfl | kernel_rfl, by intro wz hSw; (try dsimp only at hSw); go_simp⟩) (by assumption) ?_
  (try simp only [Act.put, List.getElem_toArray, List.getElem_cons_succ, List.getElem_cons_zero, List.setIfInBounds_toArray, List.set_cons_zero, List.set_cons_succ])
  refine wpAnyH_take (i := 4) (v := .map (some bc)) rfl (by kernel_rfl) (by kernel_rfl) (by kernel_rfl) (fun _ _ _ h => h) (Or.inl ⟨by first | rfl | kernel_rfl, by intro wz hSw; (try dsimp only at hSw); go_simp⟩) (by assumption) ?_
  (try simp only [Act.put, List.getElem_toArray, List.getElem_cons_succ, List.getElem_cons_zero, List.setIfInBounds_toArray, List.set_cons_zero, List.set_cons_succ])
  refine wpAnyH_take (i := 5) (v := (.agg #[.int .i64 x, .int .i64 y])) rfl (by kernel_rfl) (by kernel_rfl) (by kernel_rfl) (fun _ _ _ h => h) (Or.inl ⟨by first | rfl | kernel_rfl, by intro wz hSw; (try dsimp only at hSw); go_simp⟩) (by assumption) ?_
  (try simp only [Act.put, List.getElem_toArray, List.getElem_cons_succ, List.getElem_cons_zero, List.setIfInBounds_toArray, List.set_cons_zero, List.set_cons_succ])
  refine wpAnyH_take (i := 7) (v := .int .i64 i) rfl (by kernel_rfl) (by kernel_rfl) (by kernel_rfl) (fun _ _ _ h => h) (Or.inl ⟨by first | rfl | kernel_rfl, by intro wz hSw; (try dsimp only at hSw); go_simp⟩) (by assumption) ?_
  (try simp only [Act.put, List.getElem_toArray, List.getElem_cons_succ, List.getElem_cons_zero, List.setIfInBounds_toArray, List.set_cons_zero, List.set_cons_succ])
  refine wpAnyH_take (i := 8) (v := (.agg #[.int .i64 r, .int .i64 c])) rfl (by kernel_rfl) (by kernel_rfl) (by kernel_rfl) (fun _ _ _ h => h) (Or.inl ⟨by first | rfl | kernel_rfl, by intro wz hSw; (try dsimp only at hSw); go_simp⟩) (by assumption) ?_
  (try simp only [Act.put, List.getElem_toArray, List.getElem_cons_succ, List.getElem_cons_zero, List.setIfInBounds_toArray, List.set_cons_zero, List.set_cons_succ])
  refine wpAnyH_ready (rs := [6, 9]) (by kernel_rfl) (by simp) ?_
  refine AllReadyH.cons rfl (fun K hK => ?_) ?_
  · go_simp
    refine hK.out _ _ (by (try dsimp only); first | (with_reducible assumption) | ((repeat' apply And.intro) <;> (first | (go_keep; done) | (go_simp; done)))) (fun hHeld => ?_)
    clear hK K
    (try simp only [Act.put, List.getElem_toArray, List.getElem_cons_succ, List.getElem_cons_zero, List.setIfInBounds_toArray, List.set_cons_zero, List.set_cons_succ])
    refine wpAnyH_ready (rs := [9]) (by kernel_rfl) (by simp) ?_
    refine AllReadyH.cons rfl (fun K hK => ?_) ?_
    · go_simp
      refine hK.out _ _ (by (try dsimp only); first | (with_reducible assumption) | ((repeat' apply And.intro) <;> (first | (go_keep; done) | (go_simp; done)))) (fun hHeld => ?_)
      clear hK K
      (try simp only [Act.put, List.getElem_toArray, List.getElem_cons_succ, List.getElem_cons_zero, List.setIfInBounds_toArray, List.set_cons_zero, List.set_cons_succ])
      refine wpAnyH_ready (rs := [10]) (by kernel_rfl) (by simp) ?_
      refine AllReadyH.cons rfl (fun K hK => ?_) ?_
      · go_simp
        (go_at_call 51; refine (HI.out _ _ (by with_reducible (repeat' first | assumption | exact Below.refl _ _ | refine Below.drew ?_ | refine bdrewN ?_ _ | refine Below.setCell ?_ (by first | exact Nat.le_refl _ | (simp; done) | (simp; omega) | omega) _ | refine Below.alloc ?_ (by first | exact Nat.le_refl _ | (simp; done) | (simp; omega) | omega) _)) (by first | omega | (simp; omega)) (by first | exact heap_alloc_new _ _ | (simp; done))).mono ?_; rintro e wd ⟨q', n', c', rfl, hkeep, hz, W2, hup, hto, hkeep2⟩; have oTd := hkeep _ _ (by first | exact Nat.le_refl _ | omega) (show Own _ w.heap.size #[.map (some bc), .pointer (some ⟨NB, 0, none⟩)] from by with_reducible (repeat' first | assumption | refine Own.drew ?_ | refine Own.drewN ?_ _ | (refine Own.at ?_; first | rfl | (simp; done)) | refine Own.past ?_ _)); have oCd := hkeep _ _ (by omega) (show Own _ (w.heap.size + 1 + 1) #[.int .i64 r, .int .i64 c] from by with_reducible (repeat' first | assumption | refine Own.drew ?_ | refine Own.drewN ?_ _ | (refine Own.at ?_; first | rfl | (simp; done)) | refine Own.past ?_ _)); have oKd := hkeep _ _ hKB (show Own _ KB #[.int .i64 x, .int .i64 y] from by with_reducible (repeat' first | assumption | refine Own.drew ?_ | refine Own.drewN ?_ _ | (refine Own.at ?_; first | rfl | (simp; done)) | refine Own.past ?_ _)); have ad0 : wd.cell? ⟨w.heap.size, 0, none⟩ = some (.map (some bc)) := oTd.cell 0; have bd0 : wd.cell? ⟨w.heap.size + 1 + 1, 0, none⟩ = some (.int .i64 r) := oCd.cell 0; have bd1 : wd.cell? ⟨w.heap.size + 1 + 1, 1, none⟩ = some (.int .i64 c) := oCd.cell 1; have kd0 : wd.cell? ⟨KB, 0, none⟩ = some (.int .i64 x) := oKd.cell 0; have kd1 : wd.cell? ⟨KB, 1, none⟩ = some (.int .i64 y) := oKd.cell 1; have oTe := hkeep2 _ _ (by first | exact Nat.le_refl _ | omega) (show Own _ w.heap.size #[.map (some bc), .pointer (some ⟨NB, 0, none⟩)] from by with_reducible (repeat' first | assumption | refine Own.drew ?_ | refine Own.drewN ?_ _ | (refine Own.at ?_; first | rfl | (simp; done)) | refine Own.past ?_ _)); have oCe := hkeep2 _ _ (by omega) (show Own _ (w.heap.size + 1 + 1) #[.int .i64 r, .int .i64 c] from by with_reducible (repeat' first | assumption | refine Own.drew ?_ | refine Own.drewN ?_ _ | (refine Own.at ?_; first | rfl | (simp; done)) | refine Own.past ?_ _)); have oKe := hkeep2 _ _ hKB (show Own _ KB #[.int .i64 x, .int .i64 y] from by with_reducible (repeat' first | assumption | refine Own.drew ?_ | refine Own.drewN ?_ _ | (refine Own.at ?_; first | rfl | (simp; done)) | refine Own.past ?_ _)); have ae0 : W2.cell? ⟨w.heap.size, 0, none⟩ = some (.map (some bc)) := oTe.cell 0; have be0 : W2.cell? ⟨w.heap.size + 1 + 1, 0, none⟩ = some (.int .i64 r) := oCe.cell 0; have be1 : W2.cell? ⟨w.heap.size + 1 + 1, 1, none⟩ = some (.int .i64 c) := oCe.cell 1; have ke0 : W2.cell? ⟨KB, 0, none⟩ = some (.int .i64 x) := oKe.cell 0; have ke1 : W2.cell? ⟨KB, 1, none⟩ = some (.int .i64 y) := oKe.cell 1; have HTo : Hid (ToOut w bc NB B (addG G r c ⟨false, x, y, x, y⟩) (n + 1) (m + 1) W2) := hto; clear hkeep hkeep2 hto)
        go_wp2_with fail
        refine hK.out _ _ (by (try dsimp only); first | (with_reducible assumption) | ((repeat' apply And.intro) <;> (first | (go_keep; done) | (go_simp; done)))) (fun hHeld => ?_)
        clear hK K
        (try simp only [Act.put, List.getElem_toArray, List.getElem_cons_succ, List.getElem_cons_zero, List.setIfInBounds_toArray, List.set_cons_zero, List.set_cons_succ])
        refine wpAnyH_ready (rs := [11]) (by kernel_rfl) (by simp) ?_
        refine AllReadyH.cons rfl (fun K hK => ?_) ?_
        · go_simp
          refine hK.out _ _ (by (try dsimp only); first | (with_reducible assumption) | ((repeat' apply And.intro) <;> (first | (go_keep; done) | (go_simp; done)))) (fun hHeld => ?_)
          clear hK K
          (try simp only [Act.put, List.getElem_toArray, List.getElem_cons_succ, List.getElem_cons_zero, List.setIfInBounds_toArray, List.set_cons_zero, List.set_cons_succ])
          refine wpAnyH_done (by kernel_rfl) ?_ _
          go_wp2
          go_end0
          exact ⟨rfl, HTo.out⟩
        exact AllReadyH.nil
      exact AllReadyH.nil
    exact AllReadyH.nil
  refine AllReadyH.cons rfl (fun K hK => ?_) ?_
  · go_simp
    refine hK.out _ _ (by (try dsimp only); first | (with_reducible assumption) | ((repeat' apply And.intro) <;> (first | (go_keep; done) | (go_simp; done)))) (fun hHeld => ?_)
    clear hK K
    (try simp only [Act.put, List.getElem_toArray, List.getElem_cons_succ, List.getElem_cons_zero, List.setIfInBounds_toArray, List.set_cons_zero, List.set_cons_succ])
    refine wpAnyH_ready (rs := [6]) (by kernel_rfl) (by simp) ?_
    refine AllReadyH.cons rfl (fun K hK => ?_) ?_
    · go_simp
      refine hK.out _ _ (by (try dsimp only); first | (with_reducible assumption) | ((repeat' apply And.intro) <;> (first | (go_keep; done) | (go_simp; done)))) (fun hHeld => ?_)
      clear hK K
      (try simp only [Act.put, List.getElem_toArray, List.getElem_cons_succ, List.getElem_cons_zero, List.setIfInBounds_toArray, List.set_cons_zero, List.set_cons_succ])
      refine wpAnyH_ready (rs := [10]) (by kernel_rfl) (by simp) ?_
      refine AllReadyH.cons rfl (fun K hK => ?_) ?_
      · go_simp
        (go_at_call 51; refine (HI.out _ _ (by with_reducible (repeat' first | assumption | exact Below.refl _ _ | refine Below.drew ?_ | refine bdrewN ?_ _ | refine Below.setCell ?_ (by first | exact Nat.le_refl _ | (simp; done) | (simp; omega) | omega) _ | refine Below.alloc ?_ (by first | exact Nat.le_refl _ | (simp; done) | (simp; omega) | omega) _)) (by first | omega | (simp; omega)) (by first | exact heap_alloc_new _ _ | (simp; done))).mono ?_; rintro e wd ⟨q', n', c', rfl, hkeep, hz, W2, hup, hto, hkeep2⟩; have oTd := hkeep _ _ (by first | exact Nat.le_refl _ | omega) (show Own _ w.heap.size #[.map (some bc), .pointer (some ⟨NB, 0, none⟩)] from by with_reducible (repeat' first | assumption | refine Own.drew ?_ | refine Own.drewN ?_ _ | (refine Own.at ?_; first | rfl | (simp; done)) | refine Own.past ?_ _)); have oCd := hkeep _ _ (by omega) (show Own _ (w.heap.size + 1 + 1) #[.int .i64 r, .int .i64 c] from by with_reducible (repeat' first | assumption | refine Own.drew ?_ | refine Own.drewN ?_ _ | (refine Own.at ?_; first | rfl | (simp; done)) | refine Own.past ?_ _)); have oKd := hkeep _ _ hKB (show Own _ KB #[.int .i64 x, .int .i64 y] from by with_reducible (repeat' first | assumption | refine Own.drew ?_ | refine Own.drewN ?_ _ | (refine Own.at ?_; first | rfl | (simp; done)) | refine Own.past ?_ _)); have ad0 : wd.cell? ⟨w.heap.size, 0, none⟩ = some (.map (some bc)) := oTd.cell 0; have bd0 : wd.cell? ⟨w.heap.size + 1 + 1, 0, none⟩ = some (.int .i64 r) := oCd.cell 0; have bd1 : wd.cell? ⟨w.heap.size + 1 + 1, 1, none⟩ = some (.int .i64 c) := oCd.cell 1; have kd0 : wd.cell? ⟨KB, 0, none⟩ = some (.int .i64 x) := oKd.cell 0; have kd1 : wd.cell? ⟨KB, 1, none⟩ = some (.int .i64 y) := oKd.cell 1; have oTe := hkeep2 _ _ (by first | exact Nat.le_refl _ | omega) (show Own _ w.heap.size #[.map (some bc), .pointer (some ⟨NB, 0, none⟩)] from by with_reducible (repeat' first | assumption | refine Own.drew ?_ | refine Own.drewN ?_ _ | (refine Own.at ?_; first | rfl | (simp; done)) | refine Own.past ?_ _)); have oCe := hkeep2 _ _ (by omega) (show Own _ (w.heap.size + 1 + 1) #[.int .i64 r, .int .i64 c] from by with_reducible (repeat' first | assumption | refine Own.drew ?_ | refine Own.drewN ?_ _ | (refine Own.at ?_; first | rfl | (simp; done)) | refine Own.past ?_ _)); have oKe := hkeep2 _ _ hKB (show Own _ KB #[.int .i64 x, .int .i64 y] from by with_reducible (repeat' first | assumption | refine Own.drew ?_ | refine Own.drewN ?_ _ | (refine Own.at ?_; first | rfl | (simp; done)) | refine Own.past ?_ _)); have ae0 : W2.cell? ⟨w.heap.size, 0, none⟩ = some (.map (some bc)) := oTe.cell 0; have be0 : W2.cell? ⟨w.heap.size + 1 + 1, 0, none⟩ = some (.int .i64 r) := oCe.cell 0; have be1 : W2.cell? ⟨w.heap.size + 1 + 1, 1, none⟩ = some (.int .i64 c) := oCe.cell 1; have ke0 : W2.cell? ⟨KB, 0, none⟩ = some (.int .i64 x) := oKe.cell 0; have ke1 : W2.cell? ⟨KB, 1, none⟩ = some (.int .i64 y) := oKe.cell 1; have HTo : Hid (ToOut w bc NB B (addG G r c ⟨false, x, y, x, y⟩) (n + 1) (m + 1) W2) := hto; clear hkeep hkeep2 hto)
        go_wp2_with fail
        refine hK.out _ _ (by (try dsimp only); first | (with_reducible assumption) | ((repeat' apply And.intro) <;> (first | (go_keep; done) | (go_simp; done)))) (fun hHeld => ?_)
        clear hK K
        (try simp only [Act.put, List.getElem_toArray, List.getElem_cons_succ, List.getElem_cons_zero, List.setIfInBounds_toArray, List.set_cons_zero, List.set_cons_succ])
        refine wpAnyH_ready (rs := [11]) (by kernel_rfl) (by simp) ?_
        refine AllReadyH.cons rfl (fun K hK => ?_) ?_
        · go_simp
          refine hK.out _ _ (by (try dsimp only); first | (with_reducible assumption) | ((repeat' apply And.intro) <;> (first | (go_keep; done) | (go_simp; done)))) (fun hHeld => ?_)
          clear hK K
          (try simp only [Act.put, List.getElem_toArray, List.getElem_cons_succ, List.getElem_cons_zero, List.setIfInBounds_toArray, List.set_cons_zero, List.set_cons_succ])
          refine wpAnyH_done (by kernel_rfl) ?_ _
          go_wp2
          go_end0
          exact ⟨rfl, HTo.out⟩
        exact AllReadyH.nil
      exact AllReadyH.nil
    exact AllReadyH.nil
  exact AllReadyH.nil
end Go.Proofs.YtgojnijpjfdocaaGreat
