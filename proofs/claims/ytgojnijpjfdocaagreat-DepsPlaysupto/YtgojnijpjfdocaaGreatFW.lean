/- The contracts of targets.who and deps.Direct: who refers to a place, each once, in order. New memory alone is made. -/
import Derived.Test.YtgojnijpjfdocaaGreatFP
namespace Go.Proofs.YtgojnijpjfdocaaGreat
open Go.RowKit Go.Shelf
set_option linter.all false
theorem RowG.vg {α : Type} {E : TypeId} {sz : Nat} {cs : α → List Value} {w : World} {base : Nat} {v : Value} {l : List α} (h : RowG E sz cs w base v l) : VG sz cs w v l := by
  rcases h.two with ⟨rfl, rfl⟩ | ⟨g, cap, cur, rfl, _, h1, h2, h3, h4, h5, h6⟩
  · exact .inl ⟨rfl, rfl⟩
  · refine .inr ⟨⟨g, 0, none⟩, cap, rfl, fun j u hu => ?_⟩
    rw [add_none, Nat.zero_add, cell_row h2]
    rw [← h6, List.getElem?_take] at hu
    split at hu
    · simpa using hu
    · cases hu
theorem Own.lowD {w w' : World} {b w0 : Nat} {A : Array Value} (h : Own w b A) (hb : Below w0 w w') (hl : b < w0) : Own w' b A := h.of_block (hb.block b hl)
theorem RowG.sl {α : Type} {E : TypeId} {sz : Nat} {cs : α → List Value} {w : World} {base : Nat} {v : Value} {l : List α} (h : RowG E sz cs w base v l) : ∃ q n c, v = .slice q n c := by
  rcases h.two with ⟨rfl, rfl⟩ | ⟨g, cap, cur, rfl, _⟩ <;> exact ⟨_, _, _, rfl⟩
theorem RowG.up {α : Type} {E : TypeId} {sz : Nat} {cs : α → List Value} {w : World} {base base' : Nat} {v : Value} {l : List α} (hc : ∀ x, (cs x).length = sz) (h : RowG E sz cs w base v l) (hb : ∀ g, v.ownBlock = some g → base' ≤ g) : RowG E sz cs w base' v l := by
  rcases h.two with ⟨rfl, rfl⟩ | ⟨g, cap, cur, rfl, _, h1, h2, h3, h4, h5, h6⟩
  · exact RowG.nil _
  · exact RowG.mk hc rfl (hb g rfl) h2 h3 h4 h5 h6
set_option maxRecDepth 100000 in
set_option maxHeartbeats 4000000 in
theorem who_any (w : World) (bc NB : Nat) (B : Nat → Option TagD) (G : Int → Int → Rf → Prop) (n m : Nat) (x y : Int) (h : To w bc NB B G n m) (hx : I64 x) (hy : I64 y) (hG : ∀ r c f, G r c f → mayC r c = true) : Calls Tryz.prog 32 #[.agg #[.map (some bc), .pointer (some ⟨NB, 0, none⟩)], .agg #[.int .i64 x, .int .i64 y]] w fun e w' => ∃ v, e = .returned v ∧ ∃ l, RowG 33 2 Cl.cs w' w.heap.size v l ∧ l.length ≤ 2097152 ∧ (∀ z, z ∈ l ↔ ((∃ t p b q, G z.r z.c ⟨true, t, p, b, q⟩ ∧ inB t p b q x y = true) ∨ G z.r z.c ⟨false, x, y, x, y⟩)) ∧ Below w.heap.size w w' := by
  have mixed : Tryz.prog.follows .mixedOrders = true := by kernel_rfl
  obtain ⟨⟨fc, h1, h2⟩, h3, Db, P, h4, h5, h6⟩ := h
  obtain ⟨L, k1, k2, k3, k4, k5, k6⟩ := h2 x y hx hy
  obtain ⟨v0, hv⟩ : ∃ v0, v0 = fc x y := ⟨_, rfl⟩
  rw [← hv] at k1
  have hs1 : SrtK (overP P x y) := (overP_srt h4.srt x y).imp (fun {a b} q => (cmpK_neg a b).2 q)
  have hm1 : ∀ z ∈ overP P x y, mayC z.r z.c = true := fun z hz => by
    obtain ⟨p, q1, q2, rfl⟩ := (overP_mem h4.srt x y z).1 hz
    exact (h4.may p q1).1
  have hl1 := srtK_few hs1 hm1
  have hl2 : L.length ≤ 1048576 := srtK_few k3 (fun z hz => hG _ _ _ ((k4 z).1 hz))
  have HMem : Hid (∀ z, z ∈ overP P x y ++ L ↔ ((∃ t p b q, G z.r z.c ⟨true, t, p, b, q⟩ ∧ inB t p b q x y = true) ∨ G z.r z.c ⟨false, x, y, x, y⟩)) := (show _ from fun z => by
    rw [List.mem_append, k4, overP_mem h4.srt]
    constructor
    · rintro (⟨p, q1, q2, rfl⟩ | q)
      · exact .inl ⟨p.t, p.l, p.b, p.q, (h6 p).1 q1, q2⟩
      · exact .inr q
    · rintro (⟨t, p, b, q, q1, q2⟩ | q)
      · exact .inl ⟨⟨z.r, z.c, t, p, b, q⟩, (h6 _).2 q1, q2, rfl⟩
      · exact .inr q)
  have HLen : Hid ((overP P x y ++ L).length ≤ 2097152) := (show _ ≤ _ by rw [List.length_append]; omega)
  have HOv : Hid (∀ W, Below w.heap.size w W → Calls Tryz.prog 54 #[.pointer (some ⟨NB, 0, none⟩), .agg #[.int .i64 x, .int .i64 y]] W fun e w' => ∃ v, e = .returned v ∧ RowG 33 2 Cl.cs w' W.heap.size v (overP P x y) ∧ Below W.heap.size W w') := (show _ from fun W hb => bover_any W NB Db P m x y (h4.keep hb))
  obtain ⟨qL, nL, cL, rfl⟩ := k1.sl
  have HL : Hid (∀ W, Below w.heap.size w W → (Instr.lookup 56 (.map (some bc)) (.agg #[.int .i64 x, .int .i64 y]) false).run Tryz.prog W = .ok (.slice qL nL cL) W) := (show _ from fun W hb => by rw [hv]; exact (h1.keep hb).look Tryz.underlying56 (zeroCells W) x y hx hy)
  obtain ⟨i0, hi0, hz0, hzs, hzb⟩ := info_parts infoCl
  have HAP : Hid (∀ W0 W u, RowG 33 2 Cl.cs W W0.heap.size u (overP P x y) → Below W0.heap.size W0 W → Below w.heap.size w W0 → ∃ q' n' c' w', (Builtin.append_ #[23, 23] 23 #[u, .slice qL nL cL]).run Tryz.prog W = .ok (.slice q' n' c') w' ∧ RowG 33 2 Cl.cs w' w.heap.size (.slice q' n' c') (overP P x y ++ L) ∧ Below w.heap.size w w' ∧ Below W0.heap.size W w') := (show _ from fun W0 W u q1 q2 q3 => by
    obtain ⟨q', n', c', w', r1, r2, r3⟩ := app_piece Tryz.underlying23 hi0 hz0 hzs hzb rfl (by omega) Cl.len Cl.one q1 (RowG.vg (RowG.keep (RowG.keep k1 q3) q2)) q2.size (by omega) (by omega) 23
    exact ⟨q', n', c', w', r1, RowG.mono r2 q3.size, (bup q3 q2).trans (r3.mono q3.size), r3⟩)
  clear h1 h2 h3 h4 h5 h6 k1 k2 k3 k4 k5 k6 hs1 hm1 hl1 hl2 hv hG hi0 hz0 hzs hzb i0 hx hy
  go_enter Tryz.func32, Tryz.ntmps32
  go_wp2
  obtain ⟨W1, hW1⟩ : ∃ W1 : World, W1 = (w.alloc (.cells #[.map (some bc), .pointer (some ⟨NB, 0, none⟩)] 59)).alloc (.cells #[.int .i64 x, .int .i64 y] 33) := ⟨_, rfl⟩
  have hB1 : Below w.heap.size w W1 := (by rw [hW1]; with_reducible (repeat' first | assumption | exact Below.refl _ _ | refine Below.drew ?_ | refine bdrewN ?_ _ | refine Below.setCell ?_ (by first | exact Nat.le_refl _ | (simp; done) | (simp; omega) | omega) _ | refine Below.alloc ?_ (by first | exact Nat.le_refl _ | (simp; done) | (simp; omega) | omega) _))
  have oT1 : Own W1 w.heap.size #[.map (some bc), .pointer (some ⟨NB, 0, none⟩)] := (by rw [hW1]; with_reducible (repeat' first | assumption | refine Own.drew ?_ | refine Own.drewN ?_ _ | (refine Own.at ?_; first | rfl | (simp; done)) | refine Own.past ?_ _))
  have oC1 : Own W1 (w.heap.size + 1) #[.int .i64 x, .int .i64 y] := (by rw [hW1]; with_reducible (repeat' first | assumption | refine Own.drew ?_ | refine Own.drewN ?_ _ | (refine Own.at ?_; first | rfl | (simp; done)) | refine Own.past ?_ _))
  have z1 := oC1.lt
  rw [← hW1]
  clear hW1
  have a10 : W1.cell? ⟨w.heap.size, 0, none⟩ = some (.map (some bc)) := oT1.cell 0; have a11 : W1.cell? ⟨w.heap.size, 1, none⟩ = some (.pointer (some ⟨NB, 0, none⟩)) := oT1.cell 1; have b10 : W1.cell? ⟨w.heap.size + 1, 0, none⟩ = some (.int .i64 x) := oC1.cell 0; have b11 : W1.cell? ⟨w.heap.size + 1, 1, none⟩ = some (.int .i64 y) := oC1.cell 1
  have hk1 := HL.out W1.drew (by with_reducible (repeat' first | assumption | exact Below.refl _ _ | refine Below.drew ?_ | refine bdrewN ?_ _ | refine Below.setCell ?_ (by first | exact Nat.le_refl _ | (simp; done) | (simp; omega) | omega) _ | refine Below.alloc ?_ (by first | exact Nat.le_refl _ | (simp; done) | (simp; omega) | omega) _))
  refine wp_region_held_drew (S := (fun w' => w'.cell? ⟨w.heap.size, 0, none⟩ = some (.map (some bc)) ∧ w'.cell? ⟨w.heap.size, 1, none⟩ = some (.pointer (some ⟨NB, 0, none⟩)) ∧ w'.cell? ⟨w.heap.size + 1, 0, none⟩ = some (.int .i64 x) ∧ w'.cell? ⟨w.heap.size + 1, 1, none⟩ = some (.int .i64 y) ∧ (Instr.lookup 56 (.map (some bc)) (.agg #[.int .i64 x, .int .i64 y]) false).run Tryz.prog w' = .ok (.slice qL nL cL) w')) (by kernel_rfl) (by (try dsimp only); ((repeat' apply And.intro) <;> (first | (go_keep; done) | (go_simp; done)))) (fun hHeld => ?_)
  refine wpAnyH_take (i := 0) (v := .pointer (some ⟨w.heap.size, 1, none⟩)) rfl (by kernel_rfl) (by kernel_rfl) (by kernel_rfl) (fun _ _ _ h => h) (Or.inl ⟨by first | rfl | kernel_rfl, by intro wz hSw; (try dsimp only at hSw); go_simp⟩) (by assumption) ?_
  (try simp only [Act.put, List.getElem_toArray, List.getElem_cons_succ, List.getElem_cons_zero, List.setIfInBounds_toArray, List.set_cons_zero, List.set_cons_succ])
  refine wpAnyH_take (i := 1) (v := .pointer (some ⟨NB, 0, none⟩)) rfl (by kernel_rfl) (by kernel_rfl) (by kernel_rfl) (fun _ _ _ h => h) (Or.inl ⟨by first | rfl | kernel_rfl, by intro wz hSw; (try dsimp only at hSw); go_simp⟩) (by assumption) ?_
  (try simp only [Act.put, List.getElem_toArray, List.getElem_cons_succ, List.getElem_cons_zero, List.setIfInBounds_toArray, List.set_cons_zero, List.set_cons_succ])
  refine wpAnyH_take (i := 2) (v := (.agg #[.int .i64 x, .int .i64 y])) rfl (by kernel_rfl) (by kernel_rfl) (by kernel_rfl) (fun _ _ _ h => h) (Or.inl ⟨by first | rfl | kernel_rfl, by intro wz hSw; (try dsimp only at hSw); go_simp⟩) (by assumption) ?_
  (try simp only [Act.put, List.getElem_toArray, List.getElem_cons_succ, List.getElem_cons_zero, List.setIfInBounds_toArray, List.set_cons_zero, List.set_cons_succ])
  refine wpAnyH_take (i := 4) (v := .pointer (some ⟨w.heap.size, 0, none⟩)) rfl (by kernel_rfl) (by kernel_rfl) (by kernel_rfl) (fun _ _ _ h => h) (Or.inl ⟨by first | rfl | kernel_rfl, by intro wz hSw; (try dsimp only at hSw); go_simp⟩) (by assumption) ?_
  (try simp only [Act.put, List.getElem_toArray, List.getElem_cons_succ, List.getElem_cons_zero, List.setIfInBounds_toArray, List.set_cons_zero, List.set_cons_succ])
  refine wpAnyH_take (i := 5) (v := .map (some bc)) rfl (by kernel_rfl) (by kernel_rfl) (by kernel_rfl) (fun _ _ _ h => h) (Or.inl ⟨by first | rfl | kernel_rfl, by intro wz hSw; (try dsimp only at hSw); go_simp⟩) (by assumption) ?_
  (try simp only [Act.put, List.getElem_toArray, List.getElem_cons_succ, List.getElem_cons_zero, List.setIfInBounds_toArray, List.set_cons_zero, List.set_cons_succ])
  refine wpAnyH_take (i := 6) (v := (.agg #[.int .i64 x, .int .i64 y])) rfl (by kernel_rfl) (by kernel_rfl) (by kernel_rfl) (fun _ _ _ h => h) (Or.inl ⟨by first | rfl | kernel_rfl, by intro wz hSw; (try dsimp only at hSw); go_simp⟩) (by assumption) ?_
  (try simp only [Act.put, List.getElem_toArray, List.getElem_cons_succ, List.getElem_cons_zero, List.setIfInBounds_toArray, List.set_cons_zero, List.set_cons_succ])
  refine wpAnyH_take (i := 7) (v := .slice qL nL cL) rfl (by kernel_rfl) (by kernel_rfl) (by kernel_rfl) (fun _ _ _ h => h) (Or.inl ⟨by first | rfl | kernel_rfl, by intro wz hSw; (try dsimp only at hSw); go_simp⟩) (by assumption) ?_
  (try simp only [Act.put, List.getElem_toArray, List.getElem_cons_succ, List.getElem_cons_zero, List.setIfInBounds_toArray, List.set_cons_zero, List.set_cons_succ])
  refine wpAnyH_ready (rs := [3]) (by kernel_rfl) (by simp) ?_
  refine AllReadyH.cons rfl (fun K hK => ?_) ?_
  · go_simp
    (go_at_call 54; refine (HOv.out _ (by with_reducible (repeat' first | assumption | exact Below.refl _ _ | refine Below.drew ?_ | refine bdrewN ?_ _ | refine Below.setCell ?_ (by first | exact Nat.le_refl _ | (simp; done) | (simp; omega) | omega) _ | refine Below.alloc ?_ (by first | exact Nat.le_refl _ | (simp; done) | (simp; omega) | omega) _))).mono ?_; rintro e wb ⟨u, rfl, q1, q2⟩; have hBb : Below w.heap.size w wb := bup (by with_reducible (repeat' first | assumption | exact Below.refl _ _ | refine Below.drew ?_ | refine bdrewN ?_ _ | refine Below.setCell ?_ (by first | exact Nat.le_refl _ | (simp; done) | (simp; omega) | omega) _ | refine Below.alloc ?_ (by first | exact Nat.le_refl _ | (simp; done) | (simp; omega) | omega) _)) q2; have oTb : Own wb w.heap.size #[.map (some bc), .pointer (some ⟨NB, 0, none⟩)] := Own.keep (by with_reducible (repeat' first | assumption | refine Own.drew ?_ | refine Own.drewN ?_ _ | (refine Own.at ?_; first | rfl | (simp; done)) | refine Own.past ?_ _)) q2; have oCb : Own wb (w.heap.size + 1) #[.int .i64 x, .int .i64 y] := Own.keep (by with_reducible (repeat' first | assumption | refine Own.drew ?_ | refine Own.drewN ?_ _ | (refine Own.at ?_; first | rfl | (simp; done)) | refine Own.past ?_ _)) q2; have ab0 : wb.cell? ⟨w.heap.size, 0, none⟩ = some (.map (some bc)) := oTb.cell 0; have ab1 : wb.cell? ⟨w.heap.size, 1, none⟩ = some (.pointer (some ⟨NB, 0, none⟩)) := oTb.cell 1; have bb0 : wb.cell? ⟨w.heap.size + 1, 0, none⟩ = some (.int .i64 x) := oCb.cell 0; have bb1 : wb.cell? ⟨w.heap.size + 1, 1, none⟩ = some (.int .i64 y) := oCb.cell 1; have hkb := HL.out wb hBb; obtain ⟨q', n', c', W3, happ, r1, r2, r3⟩ := HAP.out _ wb u q1 q2 (by with_reducible (repeat' first | assumption | exact Below.refl _ _ | refine Below.drew ?_ | refine bdrewN ?_ _ | refine Below.setCell ?_ (by first | exact Nat.le_refl _ | (simp; done) | (simp; omega) | omega) _ | refine Below.alloc ?_ (by first | exact Nat.le_refl _ | (simp; done) | (simp; omega) | omega) _)); have oT3 := oTb.lowD r3 (by first | omega | (simp; omega)); have oC3 := oCb.lowD r3 (by first | omega | (simp; omega)); have a30 : W3.cell? ⟨w.heap.size, 0, none⟩ = some (.map (some bc)) := oT3.cell 0; have a31 : W3.cell? ⟨w.heap.size, 1, none⟩ = some (.pointer (some ⟨NB, 0, none⟩)) := oT3.cell 1; have b30 : W3.cell? ⟨w.heap.size + 1, 0, none⟩ = some (.int .i64 x) := oC3.cell 0; have b31 : W3.cell? ⟨w.heap.size + 1, 1, none⟩ = some (.int .i64 y) := oC3.cell 1; have hk3 := HL.out W3 r2; have HR3 : Hid (RowG 33 2 Cl.cs W3 w.heap.size (.slice q' n' c') (overP P x y ++ L)) := r1; have HB3 : Hid (Below w.heap.size w W3) := r2; clear q1 q2 r1 r2 r3)
    go_wp2_with fail
    refine hK.out _ _ (by (try dsimp only); first | (with_reducible assumption) | ((repeat' apply And.intro) <;> (first | (go_keep; done) | (go_simp; done)))) (fun hHeld => ?_)
    clear hK K
    (try simp only [Act.put, List.getElem_toArray, List.getElem_cons_succ, List.getElem_cons_zero, List.setIfInBounds_toArray, List.set_cons_zero, List.set_cons_succ])
    refine wpAnyH_ready (rs := [8]) (by kernel_rfl) (by simp) ?_
    refine AllReadyH.cons rfl (fun K hK => ?_) ?_
    · refine step_apps rfl (.tmp 8) (.tmp 12) 23 23 rfl u (.slice qL nL cL) (by simp [Act.eval, Act.put]) (by simp [Act.eval, Act.put]) happ ?_
      (try simp only [Act.put, List.getElem_toArray, List.getElem_cons_succ, List.getElem_cons_zero, List.setIfInBounds_toArray, List.set_cons_zero, List.set_cons_succ])
      refine hK.out _ _ (by (try dsimp only); first | (with_reducible assumption) | ((repeat' apply And.intro) <;> (first | (go_keep; done) | (go_simp; done)))) (fun hHeld => ?_)
      clear hK K
      (try simp only [Act.put, List.getElem_toArray, List.getElem_cons_succ, List.getElem_cons_zero, List.setIfInBounds_toArray, List.set_cons_zero, List.set_cons_succ])
      refine wpAnyH_ready (rs := [9]) (by kernel_rfl) (by simp) ?_
      refine AllReadyH.cons rfl (fun K hK => ?_) ?_
      · go_simp
        refine hK.out _ _ (by (try dsimp only); first | (with_reducible assumption) | ((repeat' apply And.intro) <;> (first | (go_keep; done) | (go_simp; done)))) (fun hHeld => ?_)
        clear hK K
        (try simp only [Act.put, List.getElem_toArray, List.getElem_cons_succ, List.getElem_cons_zero, List.setIfInBounds_toArray, List.set_cons_zero, List.set_cons_succ])
        refine wpAnyH_done (by kernel_rfl) ?_ _
        go_wp2
        go_ret
        exact ⟨_, rfl, _, HR3.out, HLen.out, HMem.out, HB3.out⟩
      exact AllReadyH.nil
    exact AllReadyH.nil
  exact AllReadyH.nil
set_option maxRecDepth 100000 in
set_option maxHeartbeats 4000000 in
theorem ddir_any (w : World) (N : Nat) (B : Nat → Option TagD) (E : Int → Int → List Rf) (n m : Nat) (x y : Int) (h : Dp w N B E n m) (hx : I64 x) (hy : I64 y) : Calls Tryz.prog 15 #[.pointer (some ⟨N, 0, none⟩), .agg #[.int .i64 x, .int .i64 y]] w fun e w' => ∃ v, e = .returned v ∧ ∃ l, RowG 33 2 Cl.cs w' w.heap.size v l ∧ IsWho E x y l ∧ Below w.heap.size w w' := by
  have mixed : Tryz.prog.follows .mixedOrders = true := by kernel_rfl
  obtain ⟨hE, hNT, hdom, bf, bc, NB, hN, hF, hT⟩ := h
  have a0 : w.cell? ⟨N, 0, none⟩ = some (.map (some bf)) := hN.cell 0
  have a1 : w.cell? ⟨N, 1, none⟩ = some (.map (some bc)) := hN.cell 1
  have a2 : w.cell? ⟨N, 2, none⟩ = some (.pointer (some ⟨NB, 0, none⟩)) := hN.cell 2
  have lN := hN.lt
  have HW : Hid (∀ W, Below w.heap.size w W → Calls Tryz.prog 32 #[.agg #[.map (some bc), .pointer (some ⟨NB, 0, none⟩)], .agg #[.int .i64 x, .int .i64 y]] W fun e w' => ∃ v, e = .returned v ∧ ∃ l, RowG 33 2 Cl.cs w' w.heap.size v l ∧ l.length ≤ 2097152 ∧ (∀ z, z ∈ l ↔ ∃ f, f ∈ E z.r z.c ∧ inB f.t f.l f.b f.q x y = true) ∧ Below w.heap.size w w' ∧ Below W.heap.size W w') := (show _ from fun W hb => (who_any W bc NB B (inE E) n m x y (hT.keep hb) hx hy (fun r c f hf => (hE.may r c f hf).2)).mono (by
    rintro e w' ⟨v, rfl, l, q1, q2, q3, q4⟩
    refine ⟨v, rfl, l, RowG.mono q1 hb.size, q2, fun z => (q3 z).trans ⟨?_, ?_⟩, bup hb q4, q4⟩
    · rintro (⟨t, p, b, q, p1, p2⟩ | p1)
      · exact ⟨_, p1, p2⟩
      · exact ⟨_, p1, inB_one.2 ⟨rfl, rfl⟩⟩
    · rintro ⟨f, p1, p2⟩
      cases hm : f.m
      · obtain ⟨e, _⟩ := mayF_one (hE.may z.r z.c f p1).1 hm
        rw [e] at p1 p2
        obtain ⟨rfl, rfl⟩ := inB_one.1 p2
        exact .inr p1
      · obtain ⟨fm, t, p, b, q⟩ := f
        simp only at hm
        subst hm
        exact .inl ⟨t, p, b, q, p1, p2⟩))
  have HSo : Hid (∀ W v l, RowG 33 2 Cl.cs W w.heap.size v l → l.length ≤ 2097152 → Below w.heap.size w W → Calls Tryz.prog 33 #[v, .func (.func 34) #[] #[]] W fun e w' => e = .returned (.tuple #[]) ∧ RowG 33 2 Cl.cs w' w.heap.size v (srtL cmpK l) ∧ Below w.heap.size w w') := (show _ from fun W v l q1 q2 q3 => (sortc_any W w.heap.size v l q1 (by omega)).mono (by
    rintro e w' ⟨rfl, k1, k2⟩
    exact ⟨rfl, k1, q3.trans (k2.to_below q3.size (fun k hk => (RowG.lt q1 k hk).1))⟩))
  have HCo : Hid (∀ W v l, RowG 33 2 Cl.cs W w.heap.size v (srtL cmpK l) → l.length ≤ 2097152 → Below w.heap.size w W → Calls Tryz.prog 35 #[v] W fun e w' => ∃ v', e = .returned v' ∧ RowG 33 2 Cl.cs w' w.heap.size v' (cpt sCl (srtL cmpK l)) ∧ Below w.heap.size w w') := (show _ from fun W v l q1 q2 q3 => (comp_anyc W v (srtL cmpK l) (RowG.mono q1 (Nat.zero_le _)) (by rw [srtL_len]; omega)).mono (by
    rintro e w' ⟨v', rfl, k1, k2, k3⟩
    exact ⟨v', rfl, RowG.up Cl.len k1 (fun g q => (k2 g q).elim (fun q2 => (RowG.lt q1 g q2).1) (fun q2 => Nat.le_trans q3.size q2)), q3.trans (k3.to_below q3.size (fun k hk => (RowG.lt q1 k hk).1))⟩))
  clear hNT hdom hF hT hE hx hy
  go_enter Tryz.func15, Tryz.ntmps15
  go_wp2
  go_region_held3 (fun w' => w'.cell? ⟨N, 0, none⟩ = some (.map (some bf)) ∧ w'.cell? ⟨N, 1, none⟩ = some (.map (some bc)) ∧ w'.cell? ⟨N, 2, none⟩ = some (.pointer (some ⟨NB, 0, none⟩)) ∧ w'.cell? ⟨w.heap.size, 0, none⟩ = some (.int .i64 x) ∧ w'.cell? ⟨w.heap.size, 1, none⟩ = some (.int .i64 y)) ((repeat' apply And.intro) <;> (first | (go_keep; done) | (go_simp; done))) ((go_at_call 32; refine (HW.out _ (by with_reducible (repeat' first | assumption | exact Below.refl _ _ | refine Below.drew ?_ | refine bdrewN ?_ _ | refine Below.setCell ?_ (by first | exact Nat.le_refl _ | (simp; done) | (simp; omega) | omega) _ | refine Below.alloc ?_ (by first | exact Nat.le_refl _ | (simp; done) | (simp; omega) | omega) _))).mono ?_; rintro e wa ⟨v, rfl, l, q1, q2, q3, q4, q5⟩; have oNa : Own wa N #[.map (some bf), .map (some bc), .pointer (some ⟨NB, 0, none⟩)] := Own.keep (by with_reducible (repeat' first | assumption | refine Own.drew ?_ | refine Own.drewN ?_ _ | (refine Own.at ?_; first | rfl | (simp; done)) | refine Own.past ?_ _)) q5; have oCa : Own wa w.heap.size #[.int .i64 x, .int .i64 y] := Own.keep (by with_reducible (repeat' first | assumption | refine Own.drew ?_ | refine Own.drewN ?_ _ | (refine Own.at ?_; first | rfl | (simp; done)) | refine Own.past ?_ _)) q5; have na0 : wa.cell? ⟨N, 0, none⟩ = some (.map (some bf)) := oNa.cell 0; have na1 : wa.cell? ⟨N, 1, none⟩ = some (.map (some bc)) := oNa.cell 1; have na2 : wa.cell? ⟨N, 2, none⟩ = some (.pointer (some ⟨NB, 0, none⟩)) := oNa.cell 2; have ca0 : wa.cell? ⟨w.heap.size, 0, none⟩ = some (.int .i64 x) := oCa.cell 0; have ca1 : wa.cell? ⟨w.heap.size, 1, none⟩ = some (.int .i64 y) := oCa.cell 1; have HR : Hid (RowG 33 2 Cl.cs wa w.heap.size v l) := q1; have HLe : Hid (l.length ≤ 2097152) := q2; have HM : Hid (∀ z, z ∈ l ↔ ∃ f, f ∈ E z.r z.c ∧ inB f.t f.l f.b f.q x y = true) := q3; have hBa : Below w.heap.size w wa := q4; clear q1 q2 q3 q4 q5))
  go_wp2_with (first
    | (go_at_call 33; refine (HSo.out _ v l (HR.out.keep (by with_reducible (repeat' first | assumption | exact Below.refl _ _ | refine Below.drew ?_ | refine bdrewN ?_ _ | refine Below.setCell ?_ (by first | exact Nat.le_refl _ | (simp; done) | (simp; omega) | omega) _ | refine Below.alloc ?_ (by first | exact Nat.le_refl _ | (simp; done) | (simp; omega) | omega) _))) HLe.out (by with_reducible (repeat' first | assumption | exact Below.refl _ _ | refine Below.drew ?_ | refine bdrewN ?_ _ | refine Below.setCell ?_ (by first | exact Nat.le_refl _ | (simp; done) | (simp; omega) | omega) _ | refine Below.alloc ?_ (by first | exact Nat.le_refl _ | (simp; done) | (simp; omega) | omega) _))).mono ?_; rintro e wb ⟨rfl, q1, q2⟩; have HRb : Hid (RowG 33 2 Cl.cs wb w.heap.size v (srtL cmpK l)) := q1; have hBb : Below w.heap.size w wb := q2; clear q1 q2)
    | (go_at_call 35; refine (HCo.out _ v l (HRb.out.keep (by with_reducible (repeat' first | assumption | exact Below.refl _ _ | refine Below.drew ?_ | refine bdrewN ?_ _ | refine Below.setCell ?_ (by first | exact Nat.le_refl _ | (simp; done) | (simp; omega) | omega) _ | refine Below.alloc ?_ (by first | exact Nat.le_refl _ | (simp; done) | (simp; omega) | omega) _))) HLe.out (by with_reducible (repeat' first | assumption | exact Below.refl _ _ | refine Below.drew ?_ | refine bdrewN ?_ _ | refine Below.setCell ?_ (by first | exact Nat.le_refl _ | (simp; done) | (simp; omega) | omega) _ | refine Below.alloc ?_ (by first | exact Nat.le_refl _ | (simp; done) | (simp; omega) | omega) _))).mono ?_; rintro e wc ⟨v', rfl, q1, q2⟩; have HRc : Hid (RowG 33 2 Cl.cs wc w.heap.size v' (cpt sCl (srtL cmpK l))) := q1; have hBc : Below w.heap.size w wc := q2; clear q1 q2))
  go_ret
  exact ⟨_, rfl, _, HRc.out, isWho_srt HM.out, hBc⟩
end Go.Proofs.YtgojnijpjfdocaaGreat
