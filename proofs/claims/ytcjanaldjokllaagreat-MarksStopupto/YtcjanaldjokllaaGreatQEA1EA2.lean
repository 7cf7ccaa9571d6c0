/- The contract of targets.add at a single cell. · The contract of targets.remove at a single cell. -/
import Derived.Test.YtcjanaldjokllaaGreatQCPEAEA0
import Derived.Test.YtcjanaldjokllaaGreatQERBBcET
import Derived.Test.YtcjanaldjokllaaGreatQESBIcBDc
import Derived.Test.YtcjanaldjokllaaGreatQEPfBGc
namespace Go.Proofs.YtcjanaldjokllaaGreat
open Go.RowKit Go.Shelf
set_option linter.all false
theorem zeroCells (w : World) : (zeroValue 41).run Tryz.prog w = .ok nilS w := by kernel_rfl
set_option maxRecDepth 100000 in
set_option maxHeartbeats 4000000 in
theorem tadd_one (w : World) (bc NB : Nat) (B : Nat → Option TagD) (G : Int → Int → Rf → Prop) (n m : Nat) (r c x y : Int) (h : To w bc NB B G n m) (hx : I64 x) (hy : I64 y) (hG : ¬ G r c ⟨false, x, y, x, y⟩) (hm : m + 1 ≤ 4000000000000) (hn : n < 4000000000000) : Calls Tryz.prog 25 #[.agg #[.map (some bc), .pointer (some ⟨NB, 0, none⟩)], .agg #[.bool false, .int .i64 x, .int .i64 y, .int .i64 x, .int .i64 y], .agg #[.int .i64 r, .int .i64 c]] w fun e w' => e = .returned (.tuple #[]) ∧ ToOut w bc NB B (addG G r c ⟨false, x, y, x, y⟩) (n + 1) (m + 1) w' := by
  have mixed : Tryz.prog.follows .mixedOrders = true := by kernel_rfl
  obtain ⟨fc, h1, h2⟩ := h.map
  obtain ⟨L, k1, k2, k3, k4, k5, k6⟩ := h2 x y hx hy
  obtain ⟨v, hv⟩ : ∃ v, v = fc x y := ⟨_, rfl⟩
  rw [← hv] at k1 k2 k5
  have HR : Hid (∀ W, Below w.heap.size w W → RowK W v L) := (show _ from fun W hb => RowG.keep k1 hb)
  have HL : Hid (∀ W, Below w.heap.size w W → (Instr.lookup 71 (.map (some bc)) (.agg #[.int .i64 x, .int .i64 y]) false).run Tryz.prog W = .ok v W) := (show _ from fun W hb => by rw [hv]; exact (h1.keep hb).look Tryz.underlying71 (zeroCells W) x y hx hy)
  have HBs : Hid (∀ W, Below w.heap.size w W → Calls Tryz.prog 39 #[v, .agg #[.int .i64 r, .int .i64 c], .func (.func 34) #[] #[]] W fun e w' => e = .returned (.tuple #[.int .i64 (idxF (fK ⟨r, c⟩) L), .bool (hasF (fK ⟨r, c⟩) L)]) ∧ Below W.heap.size W w') := (show _ from fun W hb => bs_anyc W v L r c (fK ⟨r, c⟩) (HR.out W hb) (by omega) (SrtK.mono k3 ⟨r, c⟩) (fun W' _ z _ => ocel_any z.r z.c r c W'))
  have hbcl := h1.lt
  have hnb : ∀ g, v.ownBlock = some g → g ≠ bc := fun g q e => by subst e; have t := h.bcT; rw [k5 _ q] at t; cases t
  have hzn : (⟨r, c⟩ : Cl) ∉ L := fun q => hG ((k4 _).1 q)
  have HI : Hid (∀ W vb, Below w.heap.size w W → w.heap.size ≤ vb → W.heap[vb]? = some (.cells #[.int .i64 r, .int .i64 c] 32 (0, 0)) → Calls Tryz.prog 47 #[v, .int .i64 (idxF (fK ⟨r, c⟩) L), .slice (some ⟨vb, 0, none⟩) 1 1] W fun e w' => ∃ q' n' c', e = .returned (.slice q' n' c') ∧ (∀ b A, w.heap.size ≤ b → Own W b A → Own w' b A) ∧ W.heap.size ≤ w'.heap.size ∧ ∃ w'', (Instr.mapUpdate 71 (.map (some bc)) (.agg #[.int .i64 x, .int .i64 y]) (.slice q' n' c')).run Tryz.prog w' = .ok () w'' ∧ ToOut w bc NB B (addG G r c ⟨false, x, y, x, y⟩) (n + 1) (m + 1) w'' ∧ ∀ b A, w.heap.size ≤ b → Own W b A → Own w'' b A) := (show _ from fun W vb hb hvb hW => by
    refine (ins_anyc W v L _ vb ⟨r, c⟩ (HR.out W hb) (idxF_le _) (by omega) hW (fun q => by have := (RowG.lt k1 vb q).2; omega)).mono ?_
    rintro e w' ⟨v', rfl, p1, p2, p3⟩
    have p1' : RowK w' v' (insK L ⟨r, c⟩) := p1
    have hnil : v' ≠ nilS := fun e => by
      rcases RowG.two p1' with ⟨_, q⟩ | ⟨g, cap, cur, q, _⟩
      · exact insK_pos _ _ q
      · rw [q] at e; cases e
    have hsl : ∃ q' n' c', v' = .slice q' n' c' := by
      rcases RowG.two p1' with ⟨q, _⟩ | ⟨g, cap, cur, q, _⟩ <;> exact ⟨_, _, _, q⟩
    have hob : ∀ g, v'.ownBlock = some g → v.ownBlock = some g ∨ w.heap.size ≤ g := fun g q => by
      rcases p2 with p2 | ⟨g', p2, p4⟩
      · exact .inl (p2.symm.trans q)
      · rw [p2] at q; injection q with q; subst q; exact .inr (Nat.le_trans hb.size p4)
    have hMM : MapF w' bc n fc := (h1.keep hb).mut p3 (fun q => hnb bc q rfl)
    obtain ⟨w'', u1, u2, u3⟩ := hMM.put Tryz.underlying71 (by unfold maxLen; omega) x y hx hy v' hnil
    have hMu : Mut (fun b => isTo (B b)) w w'' := ((Mut.of_below hb).call p3 (fun b q => .inl (by show isTo (B b); rw [k5 b q]; exact .inr (.inl rfl)))).call u3 (fun b q => .inl (by subst q; show isTo (B b); rw [h.bcT]; exact .inl rfl))
    have hkeepv : ∀ g, v'.ownBlock = some g → g ≠ bc := fun g q e => by
      rcases hob g q with q2 | q2
      · exact hnb g q2 e
      · omega
    obtain ⟨q', n', c', rfl⟩ := hsl
    refine ⟨q', n', c', rfl, fun b A hb2 ho => ho.mut p3 (fun q => by have := (RowG.lt k1 b q).2; omega), p3.size, w'', u1, ⟨fun b => if b < w.heap.size then B b else if (Value.slice q' n' c').ownBlock = some b then some (4, x, y) else none, ⟨⟨_, u2, fun a b ha hb2 => ?_⟩, by show (if bc < w.heap.size then B bc else _) = _; rw [if_pos hbcl]; exact h.bcT, ?_⟩, hMu, fun b hb2 => if_pos hb2, fun b hb2 => ?_⟩, fun b A hb2 ho => (ho.mut p3 (fun q => by have := (RowG.lt k1 b q).2; omega)).mut u3 (fun q => by omega)⟩
    · by_cases e : a = x ∧ b = y
      · obtain ⟨rfl, rfl⟩ := e
        rw [updV_same]
        refine ⟨insK L ⟨r, c⟩, RowG.mut p1' u3 (fun g q => hkeepv g q), fun q => absurd q (insK_pos _ _), insK_srt k3 hzn, fun z => ?_, fun g q => ?_, by rw [insK_len]; omega⟩
        · rw [insK_mem, k4]
          unfold addG
          constructor
          · rintro (q | rfl)
            · exact .inl q
            · exact .inr ⟨rfl, rfl, rfl⟩
          · rintro (q | ⟨q1, q2, _⟩)
            · exact .inl q
            · exact .inr (by obtain ⟨z1, z2⟩ := z; simp at q1 q2; rw [q1, q2])
        · show (if g < w.heap.size then B g else _) = _
          by_cases hg : g < w.heap.size
          · rw [if_pos hg]
            rcases hob g q with q2 | q2
            · exact k5 g q2
            · omega
          · rw [if_neg hg, if_pos q]
      · rw [updV_other e]
        obtain ⟨L2, g1, g2, g3, g4, g5, g6⟩ := h2 a b ha hb2
        refine ⟨L2, RowG.mut (RowG.mut (RowG.keep g1 hb) p3 (fun g q1 q2 => ?_)) u3 (fun g q1 q2 => ?_), g2, g3, fun z => ?_, fun g q => ?_, by omega⟩
        · have t1 := g5 g q1
          rw [k5 g q2] at t1
          injection t1 with t1
          injection t1 with _ t1
          injection t1 with t1 t2
          exact e ⟨t1.symm, t2.symm⟩
        · subst q2
          have t1 := g5 g q1
          rw [h.bcT] at t1
          cases t1
        · rw [g4]
          unfold addG
          constructor
          · exact Or.inl
          · rintro (q | ⟨_, _, q⟩)
            · exact q
            · simp at q
              exact absurd ⟨q.1, q.2.1⟩ e
        · show (if g < w.heap.size then B g else _) = _
          rw [if_pos (RowG.lt g1 g q).2]
          exact g5 g q
    · obtain ⟨D, P, g1, g2, g3⟩ := h.bands
      refine ⟨D, P, ((g1.keep hb).mut p3 (fun b q1 q2 => ?_)).mut u3 (fun b q1 q2 => ?_) |>.more (by omega), fun b q => ?_, fun p => ?_⟩
      · have t1 := g2 b q1
        rw [k5 b q2] at t1
        cases t1
      · subst q2
        have t1 := g2 b q1
        rw [h.bcT] at t1
        cases t1
      · show (if b < w.heap.size then B b else _) = _
        rw [if_pos (g1.dom b q)]
        exact g2 b q
      · rw [g3]
        unfold addG
        constructor
        · exact Or.inl
        · rintro (q | ⟨_, _, q⟩)
          · exact q
          · simp at q
    · show (if b < w.heap.size then B b else _) = none ∨ _
      have hn2 : ¬ b < w.heap.size := by omega
      simp only [if_neg hn2]
      by_cases q : (Value.slice q' n' c').ownBlock = some b
      · rw [if_pos q]; exact .inr ⟨Nat.lt_of_lt_of_le (RowG.lt p1' b q).2 u3.size, .inr (.inl rfl)⟩
      · rw [if_neg q]; exact .inl rfl)
  have HCe : Hid (∀ W, Calls Tryz.prog 38 #[.agg #[.bool false, .int .i64 x, .int .i64 y, .int .i64 x, .int .i64 y]] W fun e w' => e = .returned (.agg #[.int .i64 x, .int .i64 y]) ∧ Below W.heap.size W w') := cellof_any ⟨false, x, y, x, y⟩
  clear h h1 h2 k1 k2 k3 k4 k5 k6 hG hm hn hbcl hnb hzn hv
  generalize idxF (fK ⟨r, c⟩) L = i at *
  generalize hasF (fK ⟨r, c⟩) L = hs at *
  go_enter Tryz.func25, Tryz.ntmps25
  go_wp2_with (go_at_call 38; refine (HCe.out _).mono ?_; rintro e wa ⟨rfl, hba⟩; have hBa : Below w.heap.size w wa := bup zqb hba; have oTa : Own wa w.heap.size #[.map (some bc), .pointer (some ⟨NB, 0, none⟩)] := Own.keep (by with_reducible (repeat' first | assumption | refine Own.drew ?_ | refine Own.drewN ?_ _ | (refine Own.at ?_; first | rfl | (simp; done)) | refine Own.past ?_ _)) hba; have oFa : Own wa (w.heap.size + 1) #[.bool false, .int .i64 x, .int .i64 y, .int .i64 x, .int .i64 y] := Own.keep (by with_reducible (repeat' first | assumption | refine Own.drew ?_ | refine Own.drewN ?_ _ | (refine Own.at ?_; first | rfl | (simp; done)) | refine Own.past ?_ _)) hba; have oCa : Own wa (w.heap.size + 1 + 1) #[.int .i64 r, .int .i64 c] := Own.keep (by with_reducible (repeat' first | assumption | refine Own.drew ?_ | refine Own.drewN ?_ _ | (refine Own.at ?_; first | rfl | (simp; done)) | refine Own.past ?_ _)) hba; have cTa := oTa.cell; have cFa := oFa.cell; have cCa := oCa.cell; have lTa := oTa.lt; have lFa := oFa.lt; have lCa := oCa.lt; clear hba)
  obtain ⟨KB, hKe⟩ : ∃ KB : Nat, KB = wa.heap.size := ⟨_, rfl⟩
  obtain ⟨W1, hW1⟩ : ∃ W1 : World, W1 = wa.alloc (.cells #[.int .i64 x, .int .i64 y] 32) := ⟨_, rfl⟩
  have hB1 : Below w.heap.size w W1 := (by rw [hW1]; with_reducible (repeat' first | assumption | exact Below.refl _ _ | refine Below.drew ?_ | refine bdrewN ?_ _ | refine Below.setCell ?_ (by first | exact Nat.le_refl _ | (simp; done) | (simp; omega) | omega) _ | refine Below.alloc ?_ (by first | exact Nat.le_refl _ | (simp; done) | (simp; omega) | omega) _))
  have oT1 : Own W1 w.heap.size #[.map (some bc), .pointer (some ⟨NB, 0, none⟩)] := (by rw [hW1]; with_reducible (repeat' first | assumption | refine Own.drew ?_ | refine Own.drewN ?_ _ | (refine Own.at ?_; first | rfl | (simp; done)) | refine Own.past ?_ _))
  have oC1 : Own W1 (w.heap.size + 1 + 1) #[.int .i64 r, .int .i64 c] := (by rw [hW1]; with_reducible (repeat' first | assumption | refine Own.drew ?_ | refine Own.drewN ?_ _ | (refine Own.at ?_; first | rfl | (simp; done)) | refine Own.past ?_ _))
  have oK1 : Own W1 KB #[.int .i64 x, .int .i64 y] := (by rw [hW1, hKe]; with_reducible (repeat' first | assumption | refine Own.drew ?_ | refine Own.drewN ?_ _ | (refine Own.at ?_; first | rfl | (simp; done)) | refine Own.past ?_ _))
  have hKB : w.heap.size ≤ KB := (by rw [hKe]; exact hBa.size)
  rw [← hW1, ← hKe]
  clear hW1 hKe oTa oFa oCa cTa cFa cCa lTa lFa lCa hBa
  have a10 : W1.cell? ⟨w.heap.size, 0, none⟩ = some (.map (some bc)) := oT1.cell 0
  have b10 : W1.cell? ⟨w.heap.size + 1 + 1, 0, none⟩ = some (.int .i64 r) := oC1.cell 0
  have b11 : W1.cell? ⟨w.heap.size + 1 + 1, 1, none⟩ = some (.int .i64 c) := oC1.cell 1
  have k10 : W1.cell? ⟨KB, 0, none⟩ = some (.int .i64 x) := oK1.cell 0
  have k11 : W1.cell? ⟨KB, 1, none⟩ = some (.int .i64 y) := oK1.cell 1
  have hk1 := HL.out W1.drew zqb
  go_region_held3 (fun w' => w'.cell? ⟨w.heap.size, 0, none⟩ = some (.map (some bc)) ∧ w'.cell? ⟨w.heap.size + 1 + 1, 0, none⟩ = some (.int .i64 r) ∧ w'.cell? ⟨w.heap.size + 1 + 1, 1, none⟩ = some (.int .i64 c) ∧ w'.cell? ⟨KB, 0, none⟩ = some (.int .i64 x) ∧ w'.cell? ⟨KB, 1, none⟩ = some (.int .i64 y) ∧ (Instr.lookup 71 (.map (some bc)) (.agg #[.int .i64 x, .int .i64 y]) false).run Tryz.prog w' = .ok v w') ((repeat' apply And.intro) <;> (first | (go_keep; done) | (go_simp; done))) ((go_at_call 39; refine (HBs.out _ zqb).mono ?_; rintro e wb ⟨rfl, hbb⟩; have hBb : Below w.heap.size w wb := bup zqb hbb; have oTb : Own wb w.heap.size #[.map (some bc), .pointer (some ⟨NB, 0, none⟩)] := Own.keep (by with_reducible (repeat' first | assumption | refine Own.drew ?_ | refine Own.drewN ?_ _ | (refine Own.at ?_; first | rfl | (simp; done)) | refine Own.past ?_ _)) hbb; have oCb : Own wb (w.heap.size + 1 + 1) #[.int .i64 r, .int .i64 c] := Own.keep (by with_reducible (repeat' first | assumption | refine Own.drew ?_ | refine Own.drewN ?_ _ | (refine Own.at ?_; first | rfl | (simp; done)) | refine Own.past ?_ _)) hbb; have oKb : Own wb KB #[.int .i64 x, .int .i64 y] := Own.keep (by with_reducible (repeat' first | assumption | refine Own.drew ?_ | refine Own.drewN ?_ _ | (refine Own.at ?_; first | rfl | (simp; done)) | refine Own.past ?_ _)) hbb; have ab0 : wb.cell? ⟨w.heap.size, 0, none⟩ = some (.map (some bc)) := oTb.cell 0; have bb0 : wb.cell? ⟨w.heap.size + 1 + 1, 0, none⟩ = some (.int .i64 r) := oCb.cell 0; have bb1 : wb.cell? ⟨w.heap.size + 1 + 1, 1, none⟩ = some (.int .i64 c) := oCb.cell 1; have kb0 : wb.cell? ⟨KB, 0, none⟩ = some (.int .i64 x) := oKb.cell 0; have kb1 : wb.cell? ⟨KB, 1, none⟩ = some (.int .i64 y) := oKb.cell 1; have hkb := HL.out wb hBb; have zKb : KB < wb.heap.size := oKb.lt; clear hbb))
  go_wp2
  have hk2 := HL.out wb.drew zqb
  have hk3 := fun o => HL.out (wb.drew.alloc o) zqb
  have hk4 := fun o => HL.out (wb.alloc o).drew zqb
  have zb := hBb.size
  clear hk1 hkb
  refine wp_region_held_drew (S := (fun w' => w'.cell? ⟨w.heap.size, 0, none⟩ = some (.map (some bc)) ∧ w'.cell? ⟨w.heap.size + 1 + 1, 0, none⟩ = some (.int .i64 r) ∧ w'.cell? ⟨w.heap.size + 1 + 1, 1, none⟩ = some (.int .i64 c) ∧ w'.cell? ⟨KB, 0, none⟩ = some (.int .i64 x) ∧ w'.cell? ⟨KB, 1, none⟩ = some (.int .i64 y))) (by kernel_rfl) (by (try dsimp only); ((repeat' apply And.intro) <;> (first | (go_keep; done) | (go_simp; done)))) (fun hHeld => ?_)
  refine wpAnyH_take (i := 0) (v := .pointer (some ⟨w.heap.size, 0, none⟩)) rfl (by kernel_rfl) (by kernel_rfl) (by kernel_rfl) (fun _ _ _ h => h) (Or.inl ⟨by first | rfl | kernel_rfl, by intro wz hSw; (try dsimp only at hSw); go_simp⟩) (by assumption) ?_
  (try simp only [Act.put, List.getElem_toArray, List.getElem_cons_succ, List.getElem_cons_zero, List.setIfInBounds_toArray, List.set_cons_zero, List.set_cons_succ])
  refine wpAnyH_take (i := 1) (v := .map (some bc)) rfl (by kernel_rfl) (by kernel_rfl) (by kernel_rfl) (fun _ _ _ h => h) (Or.inl ⟨by first | rfl | kernel_rfl, by intro wz hSw; (try dsimp only at hSw); go_simp⟩) (by assumption) ?_
  (try simp only [Act.put, List.getElem_toArray, List.getElem_cons_succ, List.getElem_cons_zero, List.setIfInBounds_toArray, List.set_cons_zero, List.set_cons_succ])
  refine wpAnyH_take (i := 2) (v := (.agg #[.int .i64 x, .int .i64 y])) rfl (by kernel_rfl) (by kernel_rfl) (by kernel_rfl) (fun _ _ _ h => h) (Or.inl ⟨by first | rfl | kernel_rfl, by intro wz hSw; (try dsimp only at hSw); go_simp⟩) (by assumption) ?_
  (try simp only [Act.put, List.getElem_toArray, List.getElem_cons_succ, List.getElem_cons_zero, List.setIfInBounds_toArray, List.set_cons_zero, List.set_cons_succ])
  refine wpAnyH_take (i := 3) (v := .pointer (some ⟨w.heap.size, 0, none⟩)) rfl (by kernel_rfl) (by kernel_rfl) (by kernel_rfl) (fun _ _ _ h => h) (Or.inl ⟨by first | rfl | kernel_rfl, by intro wz hSw; (try dsimp only at hSw); go_simp⟩) (by assumption) ?_
  (try simp only [Act.put, List.getElem_toArray, List.getElem_cons_succ, List.getElem_cons_zero, List.setIfInBounds_toArray, List.set_cons_zero, List.set_cons_succ])
  refine wpAnyH_take (i := 4) (v := .map (some bc)) rfl (by kernel_rfl) (by kernel_rfl) (by kernel_rfl) (fun _ _ _ h => h) (Or.inl ⟨by first | rfl | kernel_rfl, by intro wz hSw; (try dsimp only at hSw); go_simp⟩) (by assumption) ?_
  (try simp only [Act.put, List.getElem_toArray, List.getElem_cons_succ, List.getElem_cons_zero, List.setIfInBounds_toArray, List.set_cons_zero, List.set_cons_succ])
  refine wpAnyH_take (i := 5) (v := (.agg #[.int .i64 x, .int .i64 y])) rfl (by kernel_rfl) (by kernel_rfl) (by kernel_rfl) (fun _ _ _ h => h) (Or.inl ⟨by first | rfl | kernel_rfl, by intro wz hSw; (try dsimp only at hSw); go_simp⟩) (by assumption) ?_
  (try simp only [Act.put, List.getElem_toArray, List.getElem_cons_succ, List.getElem_cons_zero, List.setIfInBounds_toArray, List.set_cons_zero, List.set_cons_succ])
  refine wpAnyH_take (i := 7) (v := .int .i64 i) rfl (by kernel_rfl) (by kernel_rfl) (by kernel_rfl) (fun _ _ _ h => h) (Or.inl ⟨by first | rfl | kernel_rfl, by intro wz hSw; (try dsimp only at hSw); go_simp⟩) (by assumption) ?_
  (try simp only [Act.put, List.getElem_toArray, List.getElem_cons_succ, List.getElem_cons_zero, List.setIfInBounds_toArray, List.set_cons_zero, List.set_cons_succ])
  refine wpAnyH_take (i := 8) (v := (.agg #[.int .i64 r, .int .i64 c])) rfl (by kernel_rfl) (by kernel_rfl) (by kernel_rfl) (fun _ _ _ h => h) (Or.inl ⟨by first | rfl | kernel_rfl, by intro wz hSw; (try dsimp only at hSw); go_simp⟩) (by assumption) ?_
  (try simp only [Act.put, List.getElem_toArray, List.getElem_cons_succ, List.getElem_cons_zero, List.setIfInBounds_toArray, List.set_cons_zero, List.set_cons_succ])
  refine wpAnyH_ready (rs := [6, 9]) (by kernel_rfl) (by simp) ?_
  refine AllReadyH.cons rfl (fun K hK => ?_) ?_
  · go_simp
    refine hK.out _ _ (by (try dsimp only); first | (with_reducible assumption) | ((repeat' apply And.intro) <;> (first | (go_keep; done) | (go_simp; done)))) (fun hHeld => ?_)
    clear hK K
    (try simp only [Act.put, List.getElem_toArray, List.getElem_cons_succ, List.getElem_cons_zero, List.setIfInBounds_toArray, List.set_cons_zero, List.set_cons_succ])
    refine wpAnyH_ready (rs := [9]) (by kernel_rfl) (by simp) ?_
    refine AllReadyH.cons rfl (fun K hK => ?_) ?_
    · go_simp
      refine hK.out _ _ (by (try dsimp only); first | (with_reducible assumption) | ((repeat' apply And.intro) <;> (first | (go_keep; done) | (go_simp; done)))) (fun hHeld => ?_)
      clear hK K
      (try simp only [Act.put, List.getElem_toArray, List.getElem_cons_succ, List.getElem_cons_zero, List.setIfInBounds_toArray, List.set_cons_zero, List.set_cons_succ])
      refine wpAnyH_ready (rs := [10]) (by kernel_rfl) (by simp) ?_
      refine AllReadyH.cons rfl (fun K hK => ?_) ?_
      · go_simp
        (go_at_call 47; refine (HI.out _ _ zqb (by first | omega | (simp; omega)) (by first | exact heap_alloc_new _ _ | (simp; done))).mono ?_; rintro e wd ⟨q', n', c', rfl, hkeep, hz, W2, hup, hto, hkeep2⟩; have oTd := hkeep _ _ (by first | exact Nat.le_refl _ | omega) (show Own _ w.heap.size #[.map (some bc), .pointer (some ⟨NB, 0, none⟩)] from by with_reducible (repeat' first | assumption | refine Own.drew ?_ | refine Own.drewN ?_ _ | (refine Own.at ?_; first | rfl | (simp; done)) | refine Own.past ?_ _)); have oCd := hkeep _ _ (by omega) (show Own _ (w.heap.size + 1 + 1) #[.int .i64 r, .int .i64 c] from by with_reducible (repeat' first | assumption | refine Own.drew ?_ | refine Own.drewN ?_ _ | (refine Own.at ?_; first | rfl | (simp; done)) | refine Own.past ?_ _)); have oKd := hkeep _ _ hKB (show Own _ KB #[.int .i64 x, .int .i64 y] from by with_reducible (repeat' first | assumption | refine Own.drew ?_ | refine Own.drewN ?_ _ | (refine Own.at ?_; first | rfl | (simp; done)) | refine Own.past ?_ _)); have ad0 : wd.cell? ⟨w.heap.size, 0, none⟩ = some (.map (some bc)) := oTd.cell 0; have bd0 : wd.cell? ⟨w.heap.size + 1 + 1, 0, none⟩ = some (.int .i64 r) := oCd.cell 0; have bd1 : wd.cell? ⟨w.heap.size + 1 + 1, 1, none⟩ = some (.int .i64 c) := oCd.cell 1; have kd0 : wd.cell? ⟨KB, 0, none⟩ = some (.int .i64 x) := oKd.cell 0; have kd1 : wd.cell? ⟨KB, 1, none⟩ = some (.int .i64 y) := oKd.cell 1; have oTe := hkeep2 _ _ (by first | exact Nat.le_refl _ | omega) (show Own _ w.heap.size #[.map (some bc), .pointer (some ⟨NB, 0, none⟩)] from by with_reducible (repeat' first | assumption | refine Own.drew ?_ | refine Own.drewN ?_ _ | (refine Own.at ?_; first | rfl | (simp; done)) | refine Own.past ?_ _)); have oCe := hkeep2 _ _ (by omega) (show Own _ (w.heap.size + 1 + 1) #[.int .i64 r, .int .i64 c] from by with_reducible (repeat' first | assumption | refine Own.drew ?_ | refine Own.drewN ?_ _ | (refine Own.at ?_; first | rfl | (simp; done)) | refine Own.past ?_ _)); have oKe := hkeep2 _ _ hKB (show Own _ KB #[.int .i64 x, .int .i64 y] from by with_reducible (repeat' first | assumption | refine Own.drew ?_ | refine Own.drewN ?_ _ | (refine Own.at ?_; first | rfl | (simp; done)) | refine Own.past ?_ _)); have ae0 : W2.cell? ⟨w.heap.size, 0, none⟩ = some (.map (some bc)) := oTe.cell 0; have be0 : W2.cell? ⟨w.heap.size + 1 + 1, 0, none⟩ = some (.int .i64 r) := oCe.cell 0; have be1 : W2.cell? ⟨w.heap.size + 1 + 1, 1, none⟩ = some (.int .i64 c) := oCe.cell 1; have ke0 : W2.cell? ⟨KB, 0, none⟩ = some (.int .i64 x) := oKe.cell 0; have ke1 : W2.cell? ⟨KB, 1, none⟩ = some (.int .i64 y) := oKe.cell 1; have HTo : Hid (ToOut w bc NB B (addG G r c ⟨false, x, y, x, y⟩) (n + 1) (m + 1) W2) := hto; clear hkeep hkeep2 hto)
        go_wp2_with fail
        refine hK.out _ _ (by (try dsimp only); first | (with_reducible assumption) | ((repeat' apply And.intro) <;> (first | (go_keep; done) | (go_simp; done)))) (fun hHeld => ?_)
        clear hK K
        (try simp only [Act.put, List.getElem_toArray, List.getElem_cons_succ, List.getElem_cons_zero, List.setIfInBounds_toArray, List.set_cons_zero, List.set_cons_succ])
        refine wpAnyH_ready (rs := [11]) (by kernel_rfl) (by simp) ?_
        refine AllReadyH.cons rfl (fun K hK => ?_) ?_
        · go_simp
          refine hK.out _ _ (by (try dsimp only); first | (with_reducible assumption) | ((repeat' apply And.intro) <;> (first | (go_keep; done) | (go_simp; done)))) (fun hHeld => ?_)
          clear hK K
          (try simp only [Act.put, List.getElem_toArray, List.getElem_cons_succ, List.getElem_cons_zero, List.setIfInBounds_toArray, List.set_cons_zero, List.set_cons_succ])
          refine wpAnyH_done (by kernel_rfl) ?_ _
          go_wp2
          go_end0
          exact ⟨rfl, HTo.out⟩
        exact AllReadyH.nil
      exact AllReadyH.nil
    exact AllReadyH.nil
  refine AllReadyH.cons rfl (fun K hK => ?_) ?_
  · go_simp
    refine hK.out _ _ (by (try dsimp only); first | (with_reducible assumption) | ((repeat' apply And.intro) <;> (first | (go_keep; done) | (go_simp; done)))) (fun hHeld => ?_)
    clear hK K
    (try simp only [Act.put, List.getElem_toArray, List.getElem_cons_succ, List.getElem_cons_zero, List.setIfInBounds_toArray, List.set_cons_zero, List.set_cons_succ])
    refine wpAnyH_ready (rs := [6]) (by kernel_rfl) (by simp) ?_
    refine AllReadyH.cons rfl (fun K hK => ?_) ?_
    · go_simp
      refine hK.out _ _ (by (try dsimp only); first | (with_reducible assumption) | ((repeat' apply And.intro) <;> (first | (go_keep; done) | (go_simp; done)))) (fun hHeld => ?_)
      clear hK K
      (try simp only [Act.put, List.getElem_toArray, List.getElem_cons_succ, List.getElem_cons_zero, List.setIfInBounds_toArray, List.set_cons_zero, List.set_cons_succ])
      refine wpAnyH_ready (rs := [10]) (by kernel_rfl) (by simp) ?_
      refine AllReadyH.cons rfl (fun K hK => ?_) ?_
      · go_simp
        (go_at_call 47; refine (HI.out _ _ zqb (by first | omega | (simp; omega)) (by first | exact heap_alloc_new _ _ | (simp; done))).mono ?_; rintro e wd ⟨q', n', c', rfl, hkeep, hz, W2, hup, hto, hkeep2⟩; have oTd := hkeep _ _ (by first | exact Nat.le_refl _ | omega) (show Own _ w.heap.size #[.map (some bc), .pointer (some ⟨NB, 0, none⟩)] from by with_reducible (repeat' first | assumption | refine Own.drew ?_ | refine Own.drewN ?_ _ | (refine Own.at ?_; first | rfl | (simp; done)) | refine Own.past ?_ _)); have oCd := hkeep _ _ (by omega) (show Own _ (w.heap.size + 1 + 1) #[.int .i64 r, .int .i64 c] from by with_reducible (repeat' first | assumption | refine Own.drew ?_ | refine Own.drewN ?_ _ | (refine Own.at ?_; first | rfl | (simp; done)) | refine Own.past ?_ _)); have oKd := hkeep _ _ hKB (show Own _ KB #[.int .i64 x, .int .i64 y] from by with_reducible (repeat' first | assumption | refine Own.drew ?_ | refine Own.drewN ?_ _ | (refine Own.at ?_; first | rfl | (simp; done)) | refine Own.past ?_ _)); have ad0 : wd.cell? ⟨w.heap.size, 0, none⟩ = some (.map (some bc)) := oTd.cell 0; have bd0 : wd.cell? ⟨w.heap.size + 1 + 1, 0, none⟩ = some (.int .i64 r) := oCd.cell 0; have bd1 : wd.cell? ⟨w.heap.size + 1 + 1, 1, none⟩ = some (.int .i64 c) := oCd.cell 1; have kd0 : wd.cell? ⟨KB, 0, none⟩ = some (.int .i64 x) := oKd.cell 0; have kd1 : wd.cell? ⟨KB, 1, none⟩ = some (.int .i64 y) := oKd.cell 1; have oTe := hkeep2 _ _ (by first | exact Nat.le_refl _ | omega) (show Own _ w.heap.size #[.map (some bc), .pointer (some ⟨NB, 0, none⟩)] from by with_reducible (repeat' first | assumption | refine Own.drew ?_ | refine Own.drewN ?_ _ | (refine Own.at ?_; first | rfl | (simp; done)) | refine Own.past ?_ _)); have oCe := hkeep2 _ _ (by omega) (show Own _ (w.heap.size + 1 + 1) #[.int .i64 r, .int .i64 c] from by with_reducible (repeat' first | assumption | refine Own.drew ?_ | refine Own.drewN ?_ _ | (refine Own.at ?_; first | rfl | (simp; done)) | refine Own.past ?_ _)); have oKe := hkeep2 _ _ hKB (show Own _ KB #[.int .i64 x, .int .i64 y] from by with_reducible (repeat' first | assumption | refine Own.drew ?_ | refine Own.drewN ?_ _ | (refine Own.at ?_; first | rfl | (simp; done)) | refine Own.past ?_ _)); have ae0 : W2.cell? ⟨w.heap.size, 0, none⟩ = some (.map (some bc)) := oTe.cell 0; have be0 : W2.cell? ⟨w.heap.size + 1 + 1, 0, none⟩ = some (.int .i64 r) := oCe.cell 0; have be1 : W2.cell? ⟨w.heap.size + 1 + 1, 1, none⟩ = some (.int .i64 c) := oCe.cell 1; have ke0 : W2.cell? ⟨KB, 0, none⟩ = some (.int .i64 x) := oKe.cell 0; have ke1 : W2.cell? ⟨KB, 1, none⟩ = some (.int .i64 y) := oKe.cell 1; have HTo : Hid (ToOut w bc NB B (addG G r c ⟨false, x, y, x, y⟩) (n + 1) (m + 1) W2) := hto; clear hkeep hkeep2 hto)
        go_wp2_with fail
        refine hK.out _ _ (by (try dsimp only); first | (with_reducible assumption) | ((repeat' apply And.intro) <;> (first | (go_keep; done) | (go_simp; done)))) (fun hHeld => ?_)
        clear hK K
        (try simp only [Act.put, List.getElem_toArray, List.getElem_cons_succ, List.getElem_cons_zero, List.setIfInBounds_toArray, List.set_cons_zero, List.set_cons_succ])
        refine wpAnyH_ready (rs := [11]) (by kernel_rfl) (by simp) ?_
        refine AllReadyH.cons rfl (fun K hK => ?_) ?_
        · go_simp
          refine hK.out _ _ (by (try dsimp only); first | (with_reducible assumption) | ((repeat' apply And.intro) <;> (first | (go_keep; done) | (go_simp; done)))) (fun hHeld => ?_)
          clear hK K
          (try simp only [Act.put, List.getElem_toArray, List.getElem_cons_succ, List.getElem_cons_zero, List.setIfInBounds_toArray, List.set_cons_zero, List.set_cons_succ])
          refine wpAnyH_done (by kernel_rfl) ?_ _
          go_wp2
          go_end0
          exact ⟨rfl, HTo.out⟩
        exact AllReadyH.nil
      exact AllReadyH.nil
    exact AllReadyH.nil
  exact AllReadyH.nil
end Go.Proofs.YtcjanaldjokllaaGreat
namespace Go.Proofs.YtcjanaldjokllaaGreat
open Go.RowKit Go.Shelf
set_option linter.all false
/-- As MapF, but at one cell, which may be there with nothing. -/
def MapX (w : World) (b n : Nat) (f : Int → Int → Value) (x y : Int) : Prop := ∃ D : DataW Value, w.ownsMap Tryz.prog 32 heldR b n D ∧ (∀ a c, I64 a → I64 c → D.atKey (keyC a c) (.held nilS) = .held (f a c)) ∧ (∀ a c, I64 a → I64 c → ¬ (a = x ∧ c = y) → Maps.has D (keyC a c) = true → f a c ≠ nilS)
theorem MapX.of_block {w w' : World} {b n : Nat} {f : Int → Int → Value} {x y : Int} (h : MapX w b n f x y) (hb : w'.heap[b]? = w.heap[b]?) : MapX w' b n f x y := by
  obtain ⟨D, ⟨es, clock, h1, h2⟩, h3⟩ := h
  exact ⟨D, ⟨es, clock, hb.trans h1, h2⟩, h3⟩
theorem MapX.lt {w : World} {b n : Nat} {f : Int → Int → Value} {x y : Int} (h : MapX w b n f x y) : b < w.heap.size := by
  obtain ⟨D, h, _⟩ := h
  exact h.lt
theorem MapX.keep {w w' : World} {b n : Nat} {f : Int → Int → Value} {x y : Int} (h : MapX w b n f x y) (hb : Below w.heap.size w w') : MapX w' b n f x y := h.of_block (hb.block b h.lt)
theorem MapX.look {w : World} {b n : Nat} {f : Int → Int → Value} {x y : Int} (h : MapX w b n f x y) {t e : TypeId} (ht : Tryz.prog.underlying t = some (.map 32 e)) (hz : (zeroValue e).run Tryz.prog w = .ok nilS w) (hx : I64 x) (hy : I64 y) : (Instr.lookup t (.map (some b)) (.agg #[.int .i64 x, .int .i64 y]) false).run Tryz.prog w = .ok (f x y) w := by
  obtain ⟨D, h1, h2, h3⟩ := h
  obtain ⟨v, ps, r1, r2⟩ := h1.lookup lawCell ht hz (zd := .held nilS) (zp := []) rfl (key_ofC x y hx hy)
  rw [h2 x y hx hy] at r2
  simp only [heldR, Option.some.injEq, Prod.mk.injEq, DataW.held.injEq] at r2
  rw [r1, r2.1]
theorem MapX.full {w : World} {b n : Nat} {f : Int → Int → Value} {x y : Int} (h : MapX w b n f x y) (hf : f x y ≠ nilS) : MapF w b n f := by
  obtain ⟨D, h1, h2, h3⟩ := h
  exact ⟨D, h1, h2, fun a c ha hc q => by
    by_cases e : a = x ∧ c = y
    · obtain ⟨rfl, rfl⟩ := e; exact hf
    · exact h3 a c ha hc e q⟩
theorem MapF.putX {w : World} {b n : Nat} {f : Int → Int → Value} (h : MapF w b n f) {t e : TypeId} (ht : Tryz.prog.underlying t = some (.map 32 e)) (hn : n < maxLen) (x y : Int) (hx : I64 x) (hy : I64 y) (v : Value) : ∃ w', (Instr.mapUpdate t (.map (some b)) (.agg #[.int .i64 x, .int .i64 y]) v).run Tryz.prog w = .ok () w' ∧ MapX w' b (n + 1) (updV f x y v) x y ∧ Mut (fun k => k = b) w w' := by
  obtain ⟨D, h1, h2, h3⟩ := h
  obtain ⟨w', r1, r2, r3⟩ := h1.update lawCell ht hn (key_ofC x y hx hy) (val := v) (d := .held v) (ps := []) rfl
  have hI := h1.isMap
  have hK := isKeyC x y hx hy
  refine ⟨w', r1, ⟨_, r2, fun a c ha hc => ?_, fun a c ha hc e q => ?_⟩, mut_grown r3⟩
  · by_cases e : a = x ∧ c = y
    · obtain ⟨rfl, rfl⟩ := e
      rw [updV_same, Maps.atKey_put_same hI hK]
    · rw [updV_other e, Maps.atKey_put_other (fun q => e (keyC_inj ha hc hx hy q))]
      exact h2 a c ha hc
  · rw [updV_other e]
    rw [Maps.has_put_other (fun q => e (keyC_inj ha hc hx hy q))] at q
    exact h3 a c ha hc q
theorem MapX.del {w : World} {b n : Nat} {f : Int → Int → Value} {x y : Int} (h : MapX w b n f x y) {t e : TypeId} (ht : Tryz.prog.underlying t = some (.map 32 e)) (hx : I64 x) (hy : I64 y) (ty : TypeId) : ∃ w', (Builtin.delete_ #[t, 32] ty #[.map (some b), .agg #[.int .i64 x, .int .i64 y]]).run Tryz.prog w = .ok (.tuple #[]) w' ∧ MapF w' b n (updV f x y nilS) ∧ Mut (fun k => k = b) w w' := by
  obtain ⟨D, h1, h2, h3⟩ := h
  obtain ⟨w', r1, r2, r3⟩ := h1.drop lawCell ht (key_ofC x y hx hy) ty
  refine ⟨w', r1, ⟨_, r2, fun a c ha hc => ?_, fun a c ha hc q => ?_⟩, mut_grown r3.grown⟩
  · by_cases e : a = x ∧ c = y
    · obtain ⟨rfl, rfl⟩ := e
      rw [updV_same, Maps.atKey_del_same]
    · rw [updV_other e, Maps.atKey_del_other (fun q => e (keyC_inj ha hc hx hy q))]
      exact h2 a c ha hc
  · by_cases e : a = x ∧ c = y
    · obtain ⟨rfl, rfl⟩ := e
      rw [Maps.has_del_same] at q
      cases q
    · rw [updV_other e]
      rw [Maps.has_del_other (fun q => e (keyC_inj ha hc hx hy q))] at q
      exact h3 a c ha hc e q
set_option maxRecDepth 100000 in
set_option maxHeartbeats 4000000 in
theorem trem_one (w : World) (bc NB : Nat) (B : Nat → Option TagD) (G : Int → Int → Rf → Prop) (n m : Nat) (r c x y : Int) (h : To w bc NB B G n m) (hx : I64 x) (hy : I64 y) (hG : G r c ⟨false, x, y, x, y⟩) (hm : m ≤ 4000000000000) (hn : n < 4000000000000) : Calls Tryz.prog 23 #[.agg #[.map (some bc), .pointer (some ⟨NB, 0, none⟩)], .agg #[.bool false, .int .i64 x, .int .i64 y, .int .i64 x, .int .i64 y], .agg #[.int .i64 r, .int .i64 c]] w fun e w' => e = .returned (.tuple #[]) ∧ ToOut w bc NB B (remG G r c ⟨false, x, y, x, y⟩) (n + 1) m w' := by
  have mixed : Tryz.prog.follows .mixedOrders = true := by kernel_rfl
  obtain ⟨fc, h1, h2⟩ := h.map
  obtain ⟨L, k1, k2, k3, k4, k5, k6⟩ := h2 x y hx hy
  obtain ⟨v, hv⟩ : ∃ v, v = fc x y := ⟨_, rfl⟩
  rw [← hv] at k1 k2 k5
  have HR : Hid (∀ W, Below w.heap.size w W → RowK W v L) := (show _ from fun W hb => RowG.keep k1 hb)
  have HL : Hid (∀ W, Below w.heap.size w W → (Instr.lookup 71 (.map (some bc)) (.agg #[.int .i64 x, .int .i64 y]) false).run Tryz.prog W = .ok v W) := (show _ from fun W hb => by rw [hv]; exact (h1.keep hb).look Tryz.underlying71 (zeroCells W) x y hx hy)
  have HBs : Hid (∀ W, Below w.heap.size w W → Calls Tryz.prog 39 #[v, .agg #[.int .i64 r, .int .i64 c], .func (.func 34) #[] #[]] W fun e w' => e = .returned (.tuple #[.int .i64 (idxF (fK ⟨r, c⟩) L), .bool (hasF (fK ⟨r, c⟩) L)]) ∧ Below W.heap.size W w') := (show _ from fun W hb => bs_anyc W v L r c (fK ⟨r, c⟩) (HR.out W hb) (by omega) (SrtK.mono k3 ⟨r, c⟩) (fun W' _ z _ => ocel_any z.r z.c r c W'))
  have hbcl := h1.lt
  have hnb : ∀ g, v.ownBlock = some g → g ≠ bc := fun g q e => by subst e; have t := h.bcT; rw [k5 _ q] at t; cases t
  have hzn : (⟨r, c⟩ : Cl) ∈ L := (k4 _).2 hG
  have hil : idxF (fK ⟨r, c⟩) L < L.length := by
    obtain ⟨_, _, _, q⟩ := has_idx (SrtK.mono k3 ⟨r, c⟩) (has_K.2 hzn)
    exact q
  have HI : Hid (∀ W, Below w.heap.size w W → Calls Tryz.prog 40 #[v, .int .i64 (idxF (fK ⟨r, c⟩) L)] W fun e w' => ∃ q' n' c', e = .returned (.slice q' n' c') ∧ (∀ b A, w.heap.size ≤ b → Own W b A → Own w' b A) ∧ W.heap.size ≤ w'.heap.size ∧ ∃ w'', (Instr.mapUpdate 71 (.map (some bc)) (.agg #[.int .i64 x, .int .i64 y]) (.slice q' n' c')).run Tryz.prog w' = .ok () w'' ∧ (∀ b A, w.heap.size ≤ b → Own W b A → Own w'' b A) ∧ (Instr.lookup 71 (.map (some bc)) (.agg #[.int .i64 x, .int .i64 y]) false).run Tryz.prog w'' = .ok (.slice q' n' c') w'' ∧ ((n' = 0 ∧ ∀ ty, ∃ w3, (Builtin.delete_ #[71, 32] ty #[.map (some bc), .agg #[.int .i64 x, .int .i64 y]]).run Tryz.prog w'' = .ok (.tuple #[]) w3 ∧ ToOut w bc NB B (remG G r c ⟨false, x, y, x, y⟩) (n + 1) m w3) ∨ (n' ≠ 0 ∧ ToOut w bc NB B (remG G r c ⟨false, x, y, x, y⟩) (n + 1) m w''))) := (show _ from fun W hb => by
    refine (wo_anyc W v L _ (HR.out W hb) hil (by omega)).mono ?_
    rintro e w' ⟨v', rfl, p1, p2, p3⟩
    have p1' : RowK w' v' (delK L ⟨r, c⟩) := p1
    have hsl : ∃ q' c', v' = .slice q' (delK L ⟨r, c⟩).length c' := by
      rcases RowG.two p1' with ⟨q, q2⟩ | ⟨g, cap, cur, q, _⟩
      · exact ⟨_, _, by rw [q, q2]; rfl⟩
      · exact ⟨_, _, q⟩
    have hob : ∀ g, v'.ownBlock = some g → v.ownBlock = some g ∨ w.heap.size ≤ g := fun g q => (p2 g q).imp id (fun q => Nat.le_trans hb.size q)
    have hMM : MapF w' bc n fc := (h1.keep hb).mut p3 (fun q => hnb bc q rfl)
    obtain ⟨w'', u1, u2, u3⟩ := hMM.putX Tryz.underlying71 (by unfold maxLen; omega) x y hx hy v'
    have hkeepv : ∀ g, v'.ownBlock = some g → g ≠ bc := fun g q e => by
      rcases hob g q with q2 | q2
      · exact hnb g q2 e
      · omega
    have hlook := u2.look Tryz.underlying71 (zeroCells w'') hx hy
    rw [updV_same] at hlook
    have hb2 : ∀ g, v.ownBlock = some g → isTo (B g) := fun g q => by rw [k5 g q]; exact .inr (.inl rfl)
    have hb3 : isTo (B bc) := by rw [h.bcT]; exact .inl rfl
    have hMu : Mut (fun b => isTo (B b)) w w'' := ((Mut.of_below hb).call p3 (fun b q => .inl (hb2 b q))).call u3 (fun b q => .inl (by subst q; exact hb3))
    -- the side of what is referred to, in a world behind, whose map tells what v2 says at this cell
    have hTo : ∀ w3 v2, MapF w3 bc (n + 1) (updV fc x y v2) → RowK w3 v2 (delK L ⟨r, c⟩) → (delK L ⟨r, c⟩ = [] → v2 = nilS) → (∀ g, v2.ownBlock = some g → v'.ownBlock = some g) → Mut (fun k => k = bc) w'' w3 → ToOut w bc NB B (remG G r c ⟨false, x, y, x, y⟩) (n + 1) m w3 := fun w3 v2 m1 m2 m3 m4 m5 => by
      have hbb : ∀ b, b < w.heap.size → (v.ownBlock ≠ some b) → b ≠ bc → w3.heap[b]? = w.heap[b]? := fun b q1 q2 q3 => by
        rw [m5.block b (Nat.lt_of_lt_of_le q1 hMu.size) q3, u3.block b (Nat.lt_of_lt_of_le q1 (Nat.le_trans hb.size p3.size)) q3, p3.block b (Nat.lt_of_lt_of_le q1 hb.size) q2, hb.block b q1]
      refine ⟨fun b => if b < w.heap.size then B b else if v'.ownBlock = some b then some (4, x, y) else none, ⟨⟨_, m1, fun a b ha hb4 => ?_⟩, by show (if bc < w.heap.size then B bc else _) = _; rw [if_pos hbcl]; exact h.bcT, ?_⟩, hMu.call m5 (fun b q => .inl (by subst q; exact hb3)), fun b hb4 => if_pos hb4, fun b hb4 => ?_⟩
      · by_cases e : a = x ∧ b = y
        · obtain ⟨rfl, rfl⟩ := e
          rw [updV_same]
          refine ⟨delK L ⟨r, c⟩, m2, m3, delK_srt k3 _, fun z => ?_, fun g q => ?_, Nat.le_trans (delK_len _) k6⟩
          · rw [delK_mem k3 hzn, k4]
            unfold remG
            constructor
            · rintro ⟨q1, q2⟩
              exact ⟨q1, fun q => q2 (by obtain ⟨z1, z2⟩ := z; simp at q; rw [q.1, q.2])⟩
            · rintro ⟨q1, q2⟩
              exact ⟨q1, fun q => q2 (by subst q; exact ⟨rfl, rfl, rfl⟩)⟩
          · show (if g < w.heap.size then B g else _) = _
            have q5 := m4 g q
            by_cases hg : g < w.heap.size
            · rw [if_pos hg]
              rcases hob g q5 with q2 | q2
              · exact k5 g q2
              · omega
            · rw [if_neg hg, if_pos q5]
        · rw [updV_other e]
          obtain ⟨L2, g1, g2, g3, g4, g5, g6⟩ := h2 a b ha hb4
          refine ⟨L2, RowG.of_block g1 (fun g q1 => hbb g (RowG.lt g1 g q1).2 (fun q2 => ?_) (fun q2 => ?_)), g2, g3, fun z => ?_, fun g q => ?_, g6⟩
          · have t1 := g5 g q1
            rw [k5 g q2] at t1
            injection t1 with t1
            injection t1 with _ t1
            injection t1 with t1 t2
            exact e ⟨t1.symm, t2.symm⟩
          · subst q2
            have t1 := g5 g q1
            rw [h.bcT] at t1
            cases t1
          · rw [g4]
            unfold remG
            constructor
            · intro q
              exact ⟨q, fun q2 => by simp at q2; exact e ⟨q2.2.2.1, q2.2.2.2.1⟩⟩
            · exact fun q => q.1
          · show (if g < w.heap.size then B g else _) = _
            rw [if_pos (RowG.lt g1 g q).2]
            exact g5 g q
      · obtain ⟨D, P, g1, g2, g3⟩ := h.bands
        refine ⟨D, P, (((g1.keep hb).mut p3 (fun b q1 q2 => ?_)).mut u3 (fun b q1 q2 => ?_)).mut m5 (fun b q1 q2 => ?_), fun b q => ?_, fun p => ?_⟩
        · have t1 := g2 b q1
          rw [k5 b q2] at t1
          cases t1
        · subst q2
          have t1 := g2 b q1
          rw [h.bcT] at t1
          cases t1
        · subst q2
          have t1 := g2 b q1
          rw [h.bcT] at t1
          cases t1
        · show (if b < w.heap.size then B b else _) = _
          rw [if_pos (g1.dom b q)]
          exact g2 b q
        · rw [g3]
          unfold remG
          constructor
          · intro q
            exact ⟨q, fun q2 => by simp at q2⟩
          · exact fun q => q.1
      · show (if b < w.heap.size then B b else _) = none ∨ _
        have hn2 : ¬ b < w.heap.size := by omega
        simp only [if_neg hn2]
        by_cases q : v'.ownBlock = some b
        · rw [if_pos q]; exact .inr ⟨Nat.lt_of_lt_of_le (RowG.lt p1' b q).2 (Nat.le_trans u3.size m5.size), .inr (.inl rfl)⟩
        · rw [if_neg q]; exact .inl rfl
    obtain ⟨q', c', hv'⟩ := hsl
    rw [hv'] at u1 hlook
    refine ⟨q', _, c', by rw [hv'], fun b A hb4 ho => ho.mut p3 (fun q => by have := (RowG.lt k1 b q).2; omega), p3.size, w'', u1, fun b A hb4 ho => (ho.mut p3 (fun q => by have := (RowG.lt k1 b q).2; omega)).mut u3 (fun q => by omega), hlook, ?_⟩
    by_cases hd : delK L ⟨r, c⟩ = []
    · refine .inl ⟨by rw [hd]; rfl, fun ty => ?_⟩
      obtain ⟨w3, d1, d2, d3⟩ := u2.del Tryz.underlying71 hx hy ty
      have e : updV (updV fc x y v') x y nilS = updV fc x y nilS := by
        funext a b
        by_cases e : a = x ∧ b = y
        · obtain ⟨rfl, rfl⟩ := e; rw [updV_same, updV_same]
        · rw [updV_other e, updV_other e, updV_other e]
      rw [e] at d2
      exact ⟨w3, d1, hTo w3 nilS d2 (by rw [hd]; exact RowG.nil _) (fun _ => rfl) (fun g q => by cases q) d3⟩
    · refine .inr ⟨fun q => hd (List.length_eq_zero_iff.1 q), ?_⟩
      have hne : v' ≠ nilS := fun q => by
        rcases RowG.two p1' with ⟨_, q2⟩ | ⟨g, cap, cur, q2, _⟩
        · exact hd q2
        · rw [q2] at q; cases q
      exact hTo w'' v' (u2.full (by rw [updV_same]; exact hne)) (RowG.mut p1' u3 (fun g q => hkeepv g q)) (fun q => absurd q hd) (fun g q => q) (Mut.refl _ _))
  have HCe : Hid (∀ W, Calls Tryz.prog 38 #[.agg #[.bool false, .int .i64 x, .int .i64 y, .int .i64 x, .int .i64 y]] W fun e w' => e = .returned (.agg #[.int .i64 x, .int .i64 y]) ∧ Below W.heap.size W w') := cellof_any ⟨false, x, y, x, y⟩
  clear h h1 h2 k1 k2 k3 k4 k5 k6 hG hm hn hbcl hnb hzn hv hil
  generalize idxF (fK ⟨r, c⟩) L = i at *
  generalize hasF (fK ⟨r, c⟩) L = hs at *
  go_enter Tryz.func23, Tryz.ntmps23
  go_wp2_with (go_at_call 38; refine (HCe.out _).mono ?_; rintro e wa ⟨rfl, hba⟩; have hBa : Below w.heap.size w wa := bup zqb hba; have oTa : Own wa w.heap.size #[.map (some bc), .pointer (some ⟨NB, 0, none⟩)] := Own.keep (by with_reducible (repeat' first | assumption | refine Own.drew ?_ | refine Own.drewN ?_ _ | (refine Own.at ?_; first | rfl | (simp; done)) | refine Own.past ?_ _)) hba; have oFa : Own wa (w.heap.size + 1) #[.bool false, .int .i64 x, .int .i64 y, .int .i64 x, .int .i64 y] := Own.keep (by with_reducible (repeat' first | assumption | refine Own.drew ?_ | refine Own.drewN ?_ _ | (refine Own.at ?_; first | rfl | (simp; done)) | refine Own.past ?_ _)) hba; have oCa : Own wa (w.heap.size + 1 + 1) #[.int .i64 r, .int .i64 c] := Own.keep (by with_reducible (repeat' first | assumption | refine Own.drew ?_ | refine Own.drewN ?_ _ | (refine Own.at ?_; first | rfl | (simp; done)) | refine Own.past ?_ _)) hba; have cTa := oTa.cell; have cFa := oFa.cell; have cCa := oCa.cell; have lTa := oTa.lt; have lFa := oFa.lt; have lCa := oCa.lt; clear hba)
  obtain ⟨KB, hKe⟩ : ∃ KB : Nat, KB = wa.heap.size := ⟨_, rfl⟩
  obtain ⟨W1, hW1⟩ : ∃ W1 : World, W1 = wa.alloc (.cells #[.int .i64 x, .int .i64 y] 32) := ⟨_, rfl⟩
  have hB1 : Below w.heap.size w W1 := (by rw [hW1]; with_reducible (repeat' first | assumption | exact Below.refl _ _ | refine Below.drew ?_ | refine bdrewN ?_ _ | refine Below.setCell ?_ (by first | exact Nat.le_refl _ | (simp; done) | (simp; omega) | omega) _ | refine Below.alloc ?_ (by first | exact Nat.le_refl _ | (simp; done) | (simp; omega) | omega) _))
  have oT1 : Own W1 w.heap.size #[.map (some bc), .pointer (some ⟨NB, 0, none⟩)] := (by rw [hW1]; with_reducible (repeat' first | assumption | refine Own.drew ?_ | refine Own.drewN ?_ _ | (refine Own.at ?_; first | rfl | (simp; done)) | refine Own.past ?_ _))
  have oC1 : Own W1 (w.heap.size + 1 + 1) #[.int .i64 r, .int .i64 c] := (by rw [hW1]; with_reducible (repeat' first | assumption | refine Own.drew ?_ | refine Own.drewN ?_ _ | (refine Own.at ?_; first | rfl | (simp; done)) | refine Own.past ?_ _))
  have oK1 : Own W1 KB #[.int .i64 x, .int .i64 y] := (by rw [hW1, hKe]; with_reducible (repeat' first | assumption | refine Own.drew ?_ | refine Own.drewN ?_ _ | (refine Own.at ?_; first | rfl | (simp; done)) | refine Own.past ?_ _))
  have hKB : w.heap.size ≤ KB := (by rw [hKe]; exact hBa.size)
  rw [← hW1, ← hKe]
  clear hW1 hKe oTa oFa oCa cTa cFa cCa lTa lFa lCa hBa
  have a10 : W1.cell? ⟨w.heap.size, 0, none⟩ = some (.map (some bc)) := oT1.cell 0
  have b10 : W1.cell? ⟨w.heap.size + 1 + 1, 0, none⟩ = some (.int .i64 r) := oC1.cell 0
  have b11 : W1.cell? ⟨w.heap.size + 1 + 1, 1, none⟩ = some (.int .i64 c) := oC1.cell 1
  have k10 : W1.cell? ⟨KB, 0, none⟩ = some (.int .i64 x) := oK1.cell 0
  have k11 : W1.cell? ⟨KB, 1, none⟩ = some (.int .i64 y) := oK1.cell 1
  have hk1 := HL.out W1.drew zqb
  go_region_held3 (fun w' => w'.cell? ⟨w.heap.size, 0, none⟩ = some (.map (some bc)) ∧ w'.cell? ⟨w.heap.size + 1 + 1, 0, none⟩ = some (.int .i64 r) ∧ w'.cell? ⟨w.heap.size + 1 + 1, 1, none⟩ = some (.int .i64 c) ∧ w'.cell? ⟨KB, 0, none⟩ = some (.int .i64 x) ∧ w'.cell? ⟨KB, 1, none⟩ = some (.int .i64 y) ∧ (Instr.lookup 71 (.map (some bc)) (.agg #[.int .i64 x, .int .i64 y]) false).run Tryz.prog w' = .ok v w') ((repeat' apply And.intro) <;> (first | (go_keep; done) | (go_simp; done))) ((go_at_call 39; refine (HBs.out _ zqb).mono ?_; rintro e wb ⟨rfl, hbb⟩; have hBb : Below w.heap.size w wb := bup zqb hbb; have oTb : Own wb w.heap.size #[.map (some bc), .pointer (some ⟨NB, 0, none⟩)] := Own.keep (by with_reducible (repeat' first | assumption | refine Own.drew ?_ | refine Own.drewN ?_ _ | (refine Own.at ?_; first | rfl | (simp; done)) | refine Own.past ?_ _)) hbb; have oCb : Own wb (w.heap.size + 1 + 1) #[.int .i64 r, .int .i64 c] := Own.keep (by with_reducible (repeat' first | assumption | refine Own.drew ?_ | refine Own.drewN ?_ _ | (refine Own.at ?_; first | rfl | (simp; done)) | refine Own.past ?_ _)) hbb; have oKb : Own wb KB #[.int .i64 x, .int .i64 y] := Own.keep (by with_reducible (repeat' first | assumption | refine Own.drew ?_ | refine Own.drewN ?_ _ | (refine Own.at ?_; first | rfl | (simp; done)) | refine Own.past ?_ _)) hbb; have ab0 : wb.cell? ⟨w.heap.size, 0, none⟩ = some (.map (some bc)) := oTb.cell 0; have bb0 : wb.cell? ⟨w.heap.size + 1 + 1, 0, none⟩ = some (.int .i64 r) := oCb.cell 0; have bb1 : wb.cell? ⟨w.heap.size + 1 + 1, 1, none⟩ = some (.int .i64 c) := oCb.cell 1; have kb0 : wb.cell? ⟨KB, 0, none⟩ = some (.int .i64 x) := oKb.cell 0; have kb1 : wb.cell? ⟨KB, 1, none⟩ = some (.int .i64 y) := oKb.cell 1; have hkb := HL.out wb hBb; have zKb : KB < wb.heap.size := oKb.lt; clear hbb))
  go_wp2
  have hk2 := HL.out wb.drew zqb
  have zb := hBb.size
  clear hk1 hkb
  refine wp_region_held_drew (S := (fun w' => w'.cell? ⟨w.heap.size, 0, none⟩ = some (.map (some bc)) ∧ w'.cell? ⟨w.heap.size + 1 + 1, 0, none⟩ = some (.int .i64 r) ∧ w'.cell? ⟨w.heap.size + 1 + 1, 1, none⟩ = some (.int .i64 c) ∧ w'.cell? ⟨KB, 0, none⟩ = some (.int .i64 x) ∧ w'.cell? ⟨KB, 1, none⟩ = some (.int .i64 y))) (by kernel_rfl) (by (try dsimp only); ((repeat' apply And.intro) <;> (first | (go_keep; done) | (go_simp; done)))) (fun hHeld => ?_)
  refine wpAnyH_take (i := 0) (v := .pointer (some ⟨w.heap.size, 0, none⟩)) rfl (by kernel_rfl) (by kernel_rfl) (by kernel_rfl) (fun _ _ _ h => h) (Or.inl ⟨by first | rfl | kernel_rfl, by intro wz hSw; (try dsimp only at hSw); go_simp⟩) (by assumption) ?_
  (try simp only [Act.put, List.getElem_toArray, List.getElem_cons_succ, List.getElem_cons_zero, List.setIfInBounds_toArray, List.set_cons_zero, List.set_cons_succ])
  refine wpAnyH_take (i := 1) (v := .map (some bc)) rfl (by kernel_rfl) (by kernel_rfl) (by kernel_rfl) (fun _ _ _ h => h) (Or.inl ⟨by first | rfl | kernel_rfl, by intro wz hSw; (try dsimp only at hSw); go_simp⟩) (by assumption) ?_
  (try simp only [Act.put, List.getElem_toArray, List.getElem_cons_succ, List.getElem_cons_zero, List.setIfInBounds_toArray, List.set_cons_zero, List.set_cons_succ])
  refine wpAnyH_take (i := 2) (v := (.agg #[.int .i64 x, .int .i64 y])) rfl (by kernel_rfl) (by kernel_rfl) (by kernel_rfl) (fun _ _ _ h => h) (Or.inl ⟨by first | rfl | kernel_rfl, by intro wz hSw; (try dsimp only at hSw); go_simp⟩) (by assumption) ?_
  (try simp only [Act.put, List.getElem_toArray, List.getElem_cons_succ, List.getElem_cons_zero, List.setIfInBounds_toArray, List.set_cons_zero, List.set_cons_succ])
  refine wpAnyH_take (i := 3) (v := .pointer (some ⟨w.heap.size, 0, none⟩)) rfl (by kernel_rfl) (by kernel_rfl) (by kernel_rfl) (fun _ _ _ h => h) (Or.inl ⟨by first | rfl | kernel_rfl, by intro wz hSw; (try dsimp only at hSw); go_simp⟩) (by assumption) ?_
  (try simp only [Act.put, List.getElem_toArray, List.getElem_cons_succ, List.getElem_cons_zero, List.setIfInBounds_toArray, List.set_cons_zero, List.set_cons_succ])
  refine wpAnyH_take (i := 4) (v := .map (some bc)) rfl (by kernel_rfl) (by kernel_rfl) (by kernel_rfl) (fun _ _ _ h => h) (Or.inl ⟨by first | rfl | kernel_rfl, by intro wz hSw; (try dsimp only at hSw); go_simp⟩) (by assumption) ?_
  (try simp only [Act.put, List.getElem_toArray, List.getElem_cons_succ, List.getElem_cons_zero, List.setIfInBounds_toArray, List.set_cons_zero, List.set_cons_succ])
  refine wpAnyH_take (i := 5) (v := (.agg #[.int .i64 x, .int .i64 y])) rfl (by kernel_rfl) (by kernel_rfl) (by kernel_rfl) (fun _ _ _ h => h) (Or.inl ⟨by first | rfl | kernel_rfl, by intro wz hSw; (try dsimp only at hSw); go_simp⟩) (by assumption) ?_
  (try simp only [Act.put, List.getElem_toArray, List.getElem_cons_succ, List.getElem_cons_zero, List.setIfInBounds_toArray, List.set_cons_zero, List.set_cons_succ])
  refine wpAnyH_take (i := 7) (v := .int .i64 i) rfl (by kernel_rfl) (by kernel_rfl) (by kernel_rfl) (fun _ _ _ h => h) (Or.inl ⟨by first | rfl | kernel_rfl, by intro wz hSw; (try dsimp only at hSw); go_simp⟩) (by assumption) ?_
  (try simp only [Act.put, List.getElem_toArray, List.getElem_cons_succ, List.getElem_cons_zero, List.setIfInBounds_toArray, List.set_cons_zero, List.set_cons_succ])
  refine wpAnyH_ready (rs := [6]) (by kernel_rfl) (by simp) ?_
  refine AllReadyH.cons rfl (fun K hK => ?_) ?_
  · go_simp
    refine hK.out _ _ (by (try dsimp only); first | (with_reducible assumption) | ((repeat' apply And.intro) <;> (first | (go_keep; done) | (go_simp; done)))) (fun hHeld => ?_)
    clear hK K
    (try simp only [Act.put, List.getElem_toArray, List.getElem_cons_succ, List.getElem_cons_zero, List.setIfInBounds_toArray, List.set_cons_zero, List.set_cons_succ])
    refine wpAnyH_ready (rs := [8]) (by kernel_rfl) (by simp) ?_
    refine AllReadyH.cons rfl (fun K hK => ?_) ?_
    · go_simp
      (go_at_call 40; refine (HI.out _ zqb).mono ?_; rintro e wd ⟨q', n', c', rfl, hkeep, hz, W2, hup, hkeep2, hlk2, hto⟩; have oTd := hkeep _ _ (by first | exact Nat.le_refl _ | omega) (show Own _ w.heap.size #[.map (some bc), .pointer (some ⟨NB, 0, none⟩)] from by with_reducible (repeat' first | assumption | refine Own.drew ?_ | refine Own.drewN ?_ _ | (refine Own.at ?_; first | rfl | (simp; done)) | refine Own.past ?_ _)); have oCd := hkeep _ _ (by omega) (show Own _ (w.heap.size + 1 + 1) #[.int .i64 r, .int .i64 c] from by with_reducible (repeat' first | assumption | refine Own.drew ?_ | refine Own.drewN ?_ _ | (refine Own.at ?_; first | rfl | (simp; done)) | refine Own.past ?_ _)); have oKd := hkeep _ _ hKB (show Own _ KB #[.int .i64 x, .int .i64 y] from by with_reducible (repeat' first | assumption | refine Own.drew ?_ | refine Own.drewN ?_ _ | (refine Own.at ?_; first | rfl | (simp; done)) | refine Own.past ?_ _)); have ad0 : wd.cell? ⟨w.heap.size, 0, none⟩ = some (.map (some bc)) := oTd.cell 0; have bd0 : wd.cell? ⟨w.heap.size + 1 + 1, 0, none⟩ = some (.int .i64 r) := oCd.cell 0; have bd1 : wd.cell? ⟨w.heap.size + 1 + 1, 1, none⟩ = some (.int .i64 c) := oCd.cell 1; have kd0 : wd.cell? ⟨KB, 0, none⟩ = some (.int .i64 x) := oKd.cell 0; have kd1 : wd.cell? ⟨KB, 1, none⟩ = some (.int .i64 y) := oKd.cell 1; have oTe := hkeep2 _ _ (by first | exact Nat.le_refl _ | omega) (show Own _ w.heap.size #[.map (some bc), .pointer (some ⟨NB, 0, none⟩)] from by with_reducible (repeat' first | assumption | refine Own.drew ?_ | refine Own.drewN ?_ _ | (refine Own.at ?_; first | rfl | (simp; done)) | refine Own.past ?_ _)); have oCe := hkeep2 _ _ (by omega) (show Own _ (w.heap.size + 1 + 1) #[.int .i64 r, .int .i64 c] from by with_reducible (repeat' first | assumption | refine Own.drew ?_ | refine Own.drewN ?_ _ | (refine Own.at ?_; first | rfl | (simp; done)) | refine Own.past ?_ _)); have oKe := hkeep2 _ _ hKB (show Own _ KB #[.int .i64 x, .int .i64 y] from by with_reducible (repeat' first | assumption | refine Own.drew ?_ | refine Own.drewN ?_ _ | (refine Own.at ?_; first | rfl | (simp; done)) | refine Own.past ?_ _)); have ae0 : W2.cell? ⟨w.heap.size, 0, none⟩ = some (.map (some bc)) := oTe.cell 0; have be0 : W2.cell? ⟨w.heap.size + 1 + 1, 0, none⟩ = some (.int .i64 r) := oCe.cell 0; have be1 : W2.cell? ⟨w.heap.size + 1 + 1, 1, none⟩ = some (.int .i64 c) := oCe.cell 1; have ke0 : W2.cell? ⟨KB, 0, none⟩ = some (.int .i64 x) := oKe.cell 0; have ke1 : W2.cell? ⟨KB, 1, none⟩ = some (.int .i64 y) := oKe.cell 1; have HTo : Hid ((n' = 0 ∧ ∀ ty, ∃ w3, (Builtin.delete_ #[71, 32] ty #[.map (some bc), .agg #[.int .i64 x, .int .i64 y]]).run Tryz.prog W2 = .ok (.tuple #[]) w3 ∧ ToOut w bc NB B (remG G r c ⟨false, x, y, x, y⟩) (n + 1) m w3) ∨ (n' ≠ 0 ∧ ToOut w bc NB B (remG G r c ⟨false, x, y, x, y⟩) (n + 1) m W2)) := hto; clear hkeep hkeep2 hto)
      go_wp2_with fail
      refine hK.out _ _ (by (try dsimp only); first | (with_reducible assumption) | ((repeat' apply And.intro) <;> (first | (go_keep; done) | (go_simp; done)))) (fun hHeld => ?_)
      clear hK K
      (try simp only [Act.put, List.getElem_toArray, List.getElem_cons_succ, List.getElem_cons_zero, List.setIfInBounds_toArray, List.set_cons_zero, List.set_cons_succ])
      refine wpAnyH_ready (rs := [9]) (by kernel_rfl) (by simp) ?_
      refine AllReadyH.cons rfl (fun K hK => ?_) ?_
      · go_simp
        refine hK.out _ _ (by (try dsimp only); first | (with_reducible assumption) | ((repeat' apply And.intro) <;> (first | (go_keep; done) | (go_simp; done)))) (fun hHeld => ?_)
        clear hK K
        (try simp only [Act.put, List.getElem_toArray, List.getElem_cons_succ, List.getElem_cons_zero, List.setIfInBounds_toArray, List.set_cons_zero, List.set_cons_succ])
        refine wpAnyH_done (by kernel_rfl) ?_ _
        clear hk2
        rcases HTo.out with ⟨rfl, hd⟩ | ⟨hn0, hd⟩
        · obtain ⟨w3, hdel, hd⟩ := hd 0
          have HD : Hid (ToOut w bc NB B (remG G r c ⟨false, x, y, x, y⟩) (n + 1) m w3) := hd
          clear HTo hd
          go_wp2
          go_end0
          exact ⟨rfl, HD.out⟩
        · have HD : Hid (ToOut w bc NB B (remG G r c ⟨false, x, y, x, y⟩) (n + 1) m W2) := hd
          have hn1 : ((n' : Int) == 0) = false := by simp; omega
          clear HTo hd
          go_wp2
          go_end0
          exact ⟨rfl, HD.out⟩
      exact AllReadyH.nil
    exact AllReadyH.nil
  exact AllReadyH.nil
end Go.Proofs.YtcjanaldjokllaaGreat
