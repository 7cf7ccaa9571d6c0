/- The contract of spread: those who refer to a cell are marked. -/
import Derived.Test.YtcjanaldjokllaaGreatQMBMC
namespace Go.Proofs.YtcjanaldjokllaaGreat
open Go.RowKit Go.Shelf
set_option linter.all false
/-- A list of cells, one more. -/
def ApC (b : Nat) : Prop := ∀ W (v : Value) (L : List Cl) vb (x : Cl), RowC W b v L → W.heap[vb]? = some (.cells x.cs.toArray 32 (0, 0)) → b ≤ W.heap.size → L.length ≤ 4000000000000 → ∀ ty, ∃ v' w', (Builtin.append_ #[41, 41] ty #[v, .slice (some ⟨vb, 0, none⟩) 1 1]).run Tryz.prog W = .ok v' w' ∧ RowC w' b v' (L ++ [x]) ∧ Below b W w' ∧ (v'.ownBlock = v.ownBlock ∨ v'.ownBlock = some W.heap.size) ∧ Mut (fun b => v.ownBlock = some b) W w'
theorem apC (b : Nat) : ApC b := by
  obtain ⟨i0, hi0, hz0, hzs, hzb⟩ := info_parts infoCl
  exact fun W v L vb x r1 r2 r3 r4 ty => app_one Tryz.underlying41 hi0 hz0 hzs hzb rfl (by omega) Cl.len Cl.one r1 r2 r3 (by omega) (by omega) ty
theorem who_may {D : List Dv} {x y : Int} {l : List Cl} (hE : EOk (runE D)) (h : IsWho (runE D) x y l) : ∀ k ∈ l, mayC k.r k.c = true := fun k hk => by
  obtain ⟨f, hf, _⟩ := (h.2 k).1 hk
  exact (hE.may k.r k.c f hf).2
theorem RowG.viewQ {α : Type} {E : TypeId} {sz : Nat} {cs : α → List Value} {w : World} {base : Nat} {q : Option Addr} {n cap : Nat} {l : List α} (hc : ∀ x, (cs x).length = sz) (h : RowG E sz cs w base (.slice q n cap) l) : n = l.length ∧ n ≤ cap ∧ cap ≤ 9223372036854775807 ∧ (0 < n → ∃ g, q = some ⟨g, 0, none⟩ ∧ g < w.heap.size ∧ ∀ i x, l[i]? = some x → ∀ j u, (cs x)[j]? = some u → w.cell? ⟨g, i * sz + j, none⟩ = some u) := by
  obtain ⟨q', cap', e, h1, h2, h3⟩ := RowG.view hc h
  simp only [Value.slice.injEq] at e
  obtain ⟨rfl, rfl, rfl⟩ := e
  exact ⟨rfl, h1, h2, h3⟩
theorem Dw.eok {F : Nat → Prop} {w : World} {N : Nat} {D : List Dv} (h : Dw F w N D) : EOk (runE D) := by
  obtain ⟨B, h1, _⟩ := h
  exact h1.dp.ok
set_option maxRecDepth 100000 in
set_option maxHeartbeats 8000000 in
theorem spr_any (w : World) (N Nd bm n : Nat) (M : Ms) (pk : Int) (D : List Dv) (F : Nat → Prop) (v : Value) (stk : List Cl) (fx fy tx ty st : Int) (base : Nat) (h : Mm w N Nd bm n M pk) (hd : Dw F w Nd D) (hr : RowC w base v stk) (hM : OkM M) (h0 : 0 < st) (h2 : st ≤ 2) (hfx : I64 fx) (hfy : I64 fy) (hv1 : v.ownBlock ≠ some N) (hv2 : v.ownBlock ≠ some bm) (hn : n ≤ 3000000000000000) (hroom : stk.length + cln M ≤ 1048576) (hpk : 0 ≤ pk ∧ pk ≤ 1048576) (hbs : base ≤ w.heap.size) :
    Calls Tryz.prog 31 #[.pointer (some ⟨N, 0, none⟩), v, .agg #[.int .i64 fx, .int .i64 fy], .agg #[.int .i64 tx, .int .i64 ty], .int .i64 st] w fun e w' => ∃ v' ks, e = .returned v' ∧ IsWho (runE D) fx fy ks ∧ Mm w' N Nd bm (sprL tx ty st ks (M, stk, n)).2.2 (sprL tx ty st ks (M, stk, n)).1 (max pk (sprL tx ty st ks (M, stk, n)).2.1.length) ∧ RowC w' base v' (sprL tx ty st ks (M, stk, n)).2.1 ∧ (∀ g, v'.ownBlock = some g → g ≠ N ∧ g ≠ bm ∧ (v.ownBlock = some g ∨ w.heap.size ≤ g)) ∧ Mut (fun b => b = N ∨ b = bm ∨ v.ownBlock = some b) w w' := by
  have mixed : Tryz.prog.follows .mixedOrders = true := by kernel_rfl
  have HEk : Hid (EOk (runE D)) := hd.eok
  have HDi : Hid (∀ W, Below w.heap.size w W → Calls Tryz.prog 54 #[.pointer (some ⟨Nd, 0, none⟩), .agg #[.int .i64 fx, .int .i64 fy]] W fun e w' => ∃ v, e = .returned v ∧ ∃ l, RowG 32 2 Cl.cs w' W.heap.size v l ∧ IsWho (runE D) fx fy l ∧ Below W.heap.size W w') := (show _ from fun W hb => ddir_dw W Nd F D fx fy (hd.keep hb) hfx hfy)
  have HAP : Hid (ApC base) := apC base
  have oN := h.own
  have lN := oN.lt
  have lB := MapF.lt h.map
  have HMm : Hid (Mm w N Nd bm n M pk) := h
  have HRr : Hid (RowC w base v stk) := hr
  have HOk : Hid (OkM M) := hM
  have HVl : Hid (∀ g, v.ownBlock = some g → g < w.heap.size ∧ g ≠ N ∧ g ≠ bm) := (show _ from fun g q => ⟨(RowG.lt hr g q).2, fun e => hv1 (by rw [q, e]), fun e => hv2 (by rw [q, e])⟩)
  have HP : Hid (∀ W c MM k1 k2, Mm W N Nd bm c MM pk → mayC k1 k2 = true → c ≤ 4000000000000000 → ∃ w3, (Instr.mapUpdate 81 (.map (some bm)) (.agg #[.int .i64 k1, .int .i64 k2]) (.int .i64 st)).run Tryz.prog W = .ok () w3 ∧ Mm w3 N Nd bm (c + 1) (upM MM k1 k2 (some st)) pk ∧ Mut (fun k => k = bm) W w3) := (show _ from fun W c MM k1 k2 h1 hm hc => by
    have q := mayC_is hm
    obtain ⟨w3, r1, r2, r3⟩ := MapF.putI h1.map Tryz.underlying81 (by unfold maxLen; omega) k1 k2 (by constructor <;> omega) (by constructor <;> omega) st
    exact ⟨w3, r1, h1.turn r2 r3, r3⟩)
  obtain ⟨hpk1, hpk2⟩ := hpk
  clear h hd hr hM hfx hfy hv1 hv2
  go_enter Tryz.func31, Tryz.ntmps31
  go_wp2
  obtain ⟨W1, hW1⟩ : ∃ W1 : World, W1 = (w.alloc (.cells #[.int .i64 fx, .int .i64 fy] 32)).alloc (.cells #[.int .i64 tx, .int .i64 ty] 32) := ⟨_, rfl⟩
  have hB1 : Below w.heap.size w W1 := (by rw [hW1]; with_reducible (repeat' first | assumption | exact Below.refl _ _ | refine Below.drew ?_ | refine bdrewN ?_ _ | refine Below.setCell ?_ (by first | exact Nat.le_refl _ | (simp; done) | (simp; omega) | omega) _ | refine Below.alloc ?_ (by first | exact Nat.le_refl _ | (simp; done) | (simp; omega) | omega) _))
  have hz1 : W1.heap.size = w.heap.size + 2 := by rw [hW1]; simp
  have oN1 : Own W1 N #[.pointer (some ⟨Nd, 0, none⟩), .map (some bm), .int .i64 pk] := oN.keep hB1
  have oF1 : Own W1 w.heap.size #[.int .i64 fx, .int .i64 fy] := (by rw [hW1]; with_reducible (repeat' first | assumption | refine Own.drew ?_ | refine Own.drewN ?_ _ | (refine Own.at ?_; first | rfl | (simp; done)) | refine Own.past ?_ _))
  have oT1 : Own W1 (w.heap.size + 1) #[.int .i64 tx, .int .i64 ty] := (by rw [hW1]; with_reducible (repeat' first | assumption | refine Own.drew ?_ | refine Own.drewN ?_ _ | (refine Own.at ?_; first | rfl | (simp; done)) | refine Own.past ?_ _))
  have b0 : W1.cell? ⟨N, 0, none⟩ = some (.pointer (some ⟨Nd, 0, none⟩)) := oN1.cell 0
  have b1 : W1.cell? ⟨N, 1, none⟩ = some (.map (some bm)) := oN1.cell 1
  have b2 : W1.cell? ⟨N, 2, none⟩ = some (.int .i64 pk) := oN1.cell 2
  have f0 : W1.cell? ⟨w.heap.size, 0, none⟩ = some (.int .i64 fx) := oF1.cell 0
  have f1 : W1.cell? ⟨w.heap.size, 1, none⟩ = some (.int .i64 fy) := oF1.cell 1
  have lN1 := oN1.lt
  have lF1 := oF1.lt
  rw [← hW1]
  clear hW1
  go_region_held3 (fun w' => w'.cell? ⟨N, 0, none⟩ = some (.pointer (some ⟨Nd, 0, none⟩)) ∧ w'.cell? ⟨N, 1, none⟩ = some (.map (some bm)) ∧ w'.cell? ⟨N, 2, none⟩ = some (.int .i64 pk) ∧ w'.cell? ⟨w.heap.size, 0, none⟩ = some (.int .i64 fx) ∧ w'.cell? ⟨w.heap.size, 1, none⟩ = some (.int .i64 fy)) ((repeat' apply And.intro) <;> (first | (go_keep; done) | (go_simp; done))) ((go_at_call 54; refine (HDi.out _ zqb).mono ?_; rintro e wa ⟨vv, rfl, ks, q1, q2, hb⟩; obtain ⟨q0, c0, rfl, hc1, hc2, _⟩ := RowG.view Cl.len q1; obtain ⟨m, hm⟩ : ∃ m, m = ks.length := ⟨_, rfl⟩; rw [← hm] at q1 hc1 ⊢; have HMl : Hid (m = ks.length) := hm; have hBa : Below w.heap.size w wa := bup zqb hb; have HKs : Hid (IsWho (runE D) fx fy ks) := q2; have HV0 : Hid (RowG 32 2 Cl.cs wa (w.heap.size + 2) (.slice q0 m c0) ks) := (show RowG _ _ _ _ _ _ _ from RowG.mono q1 (by simp [hz1])); have oTa : Own wa (w.heap.size + 1) #[.int .i64 tx, .int .i64 ty] := Own.keep (by with_reducible (repeat' first | assumption | refine Own.drew ?_ | refine Own.drewN ?_ _ | (refine Own.at ?_; first | rfl | (simp; done)) | refine Own.past ?_ _)) hb; have oNa : Own wa N #[.pointer (some ⟨Nd, 0, none⟩), .map (some bm), .int .i64 pk] := Own.keep (by with_reducible (repeat' first | assumption | refine Own.drew ?_ | refine Own.drewN ?_ _ | (refine Own.at ?_; first | rfl | (simp; done)) | refine Own.past ?_ _)) hb; have oFa : Own wa w.heap.size #[.int .i64 fx, .int .i64 fy] := Own.keep (by with_reducible (repeat' first | assumption | refine Own.drew ?_ | refine Own.drewN ?_ _ | (refine Own.at ?_; first | rfl | (simp; done)) | refine Own.past ?_ _)) hb; have d0 : wa.cell? ⟨N, 0, none⟩ = some (.pointer (some ⟨Nd, 0, none⟩)) := oNa.cell 0; have d1 : wa.cell? ⟨N, 1, none⟩ = some (.map (some bm)) := oNa.cell 1; have d2 : wa.cell? ⟨N, 2, none⟩ = some (.int .i64 pk) := oNa.cell 2; have g0 : wa.cell? ⟨w.heap.size, 0, none⟩ = some (.int .i64 fx) := oFa.cell 0; have g1 : wa.cell? ⟨w.heap.size, 1, none⟩ = some (.int .i64 fy) := oFa.cell 1; have lNa := oNa.lt; have lFa := oFa.lt; clear q1 q2 hb hm))
  go_wp2
  have HKm : Hid (∀ k ∈ ks, mayC k.r k.c = true) := who_may HEk.out HKs.out
  go_loopw [1, 21] (fun u1 u21 w' => ∃ i : Nat, u21 = .int .i64 i ∧ i ≤ m ∧ Hid (Mm w' N Nd bm (sprL tx ty st (ks.take i) (M, stk, n)).2.2 (sprL tx ty st (ks.take i) (M, stk, n)).1 pk) ∧ Hid (RowC w' base u1 (sprL tx ty st (ks.take i) (M, stk, n)).2.1) ∧ Hid (Mut (fun b => b = N ∨ b = bm ∨ v.ownBlock = some b) w w') ∧ Hid (∀ b, u1.ownBlock = some b → b ≠ w.heap.size + 1 ∧ (Value.slice q0 m c0).ownBlock ≠ some b ∧ b ≠ N ∧ b ≠ bm ∧ (v.ownBlock = some b ∨ w.heap.size ≤ b)) ∧ Hid (RowG 32 2 Cl.cs w' (w.heap.size + 2) (.slice q0 m c0) ks) ∧ Hid (Own w' (w.heap.size + 1) #[.int .i64 tx, .int .i64 ty])) (fun _ u21 _ => m - (intOf u21).toNat)
  case atStart => exact ⟨0, rfl, by omega, (show Mm _ _ _ _ _ _ _ from HMm.out.keep zqb), (show RowG _ _ _ _ _ _ _ from RowG.keep HRr.out zqb), (show Mut _ _ _ from Mut.of_below zqb), (show Hid _ from fun b q => ⟨by have := (HVl.out b q).1; omega, fun s => by have := (RowG.lt HV0.out b s).1; have := (HVl.out b q).1; omega, (HVl.out b q).2.1, (HVl.out b q).2.2, .inl q⟩), (show RowG _ _ _ _ _ _ _ from RowG.keep HV0.out zqb), (show Own _ _ _ from by with_reducible (repeat' first | assumption | refine Own.drew ?_ | refine Own.drewN ?_ _ | (refine Own.at ?_; first | rfl | (simp; done)) | refine Own.past ?_ _))⟩
  case round =>
    clear HDi HMm HRr HV0 hBa oTa oNa oFa d0 d1 d2 g0 g1 lNa lFa oN1 oF1 oT1 b0 b1 b2 f0 f1 lN1 lF1 hB1
    obtain ⟨i, rfl, hi, HMw, HRw, HMu, HOw, HVw, HTw⟩ := hrel
    obtain ⟨p, hp⟩ : ∃ p, p = (sprL tx ty st (ks.take i) (M, stk, n)) := ⟨_, rfl⟩
    rw [← hp] at HMw HRw
    have HPp : Hid (p = (sprL tx ty st (ks.take i) (M, stk, n))) := hp
    clear hp
    have zM := HMu.out.size
    have oNw := HMw.out.own
    have lNw := oNw.lt
    by_cases him : i < m
    · have him' : (i : Int) < m := by omega
      obtain ⟨k, hk⟩ : ∃ k, ks[i]? = some k := ⟨_, List.getElem?_eq_getElem (by have := HMl.out; omega)⟩
      have hq := (RowG.viewQ Cl.len HVw.out).2.2.2
      obtain ⟨g, rfl, hg, hcl⟩ := hq (by omega)
      have y0 : wr.cell? ⟨g, i * 2, none⟩ = some (.int .i64 k.r) := hcl i k hk 0 _ rfl
      have y1 : wr.cell? ⟨g, i * 2 + 1, none⟩ = some (.int .i64 k.c) := hcl i k hk 1 _ rfl
      have HKk : Hid (mayC k.r k.c = true) := HKm.out k (List.mem_of_getElem? hk)
      have HNx : Hid (sprL tx ty st (ks.take (i + 1)) (M, stk, n) = sprS tx ty st p k) := (show _ = _ from by rw [sprL_next _ hk, ← HPp.out])
      have hrm := sprL_room (tx := tx) (ty := ty) h0 h2 (ks.take i) (M, stk, n) (fun q hq => HKm.out q (List.mem_of_mem_take hq)) HOk.out
      rw [← HPp.out] at hrm
      have HRm : Hid (p.2.1.length ≤ 1048576 ∧ p.2.2 ≤ 3500000000000000) := (show _ ∧ _ from by
        obtain ⟨r1, _, r3, _⟩ := hrm
        have := srtK_few HKs.out.1 HKm.out
        have := List.length_take_le i ks
        have := HMl.out
        simp only at r1 r3
        omega)
      have HIk : I64 k.r ∧ I64 k.c := by have := mayC_is HKk.out; exact ⟨by constructor <;> omega, by constructor <;> omega⟩
      obtain ⟨now, hnow⟩ : ∃ now, now = stM p.1 k.r k.c := ⟨_, rfl⟩
      have HNow : Hid (now = stM p.1 k.r k.c) := hnow
      have HL : Hid (∀ W, Below wr.heap.size wr W → (Instr.lookup 81 (.map (some bm)) (.agg #[.int .i64 k.r, .int .i64 k.c]) false).run Tryz.prog W = .ok (.int .i64 now) W) := (show _ from fun W hb => by rw [hnow]; exact MapF.lookI (MapF.keep HMw.out.map hb) Tryz.underlying81 (zeroI W) k.r k.c HIk.1 HIk.2)
      have hlB : bm < wr.heap.size := MapF.lt HMw.out.map
      clear hk hcl hq hrm hnow HIk
      go_wp2
      obtain ⟨W1, hW1⟩ : ∃ W1 : World, W1 = wr.alloc (.cells #[.int .i64 k.r, .int .i64 k.c] 32) := ⟨_, rfl⟩
      have hR1 : Below wr.heap.size wr W1 := (by rw [hW1]; with_reducible (repeat' first | assumption | exact Below.refl _ _ | refine Below.drew ?_ | refine bdrewN ?_ _ | refine Below.setCell ?_ (by first | exact Nat.le_refl _ | (simp; done) | (simp; omega) | omega) _ | refine Below.alloc ?_ (by first | exact Nat.le_refl _ | (simp; done) | (simp; omega) | omega) _))
      have oN1 : Own W1 N #[.pointer (some ⟨Nd, 0, none⟩), .map (some bm), .int .i64 pk] := oNw.keep hR1
      have oX1 : Own W1 wr.heap.size #[.int .i64 k.r, .int .i64 k.c] := (by rw [hW1]; with_reducible (repeat' first | assumption | refine Own.drew ?_ | refine Own.drewN ?_ _ | (refine Own.at ?_; first | rfl | (simp; done)) | refine Own.past ?_ _))
      have oT1 : Own W1 (w.heap.size + 1) #[.int .i64 tx, .int .i64 ty] := HTw.out.keep hR1
      have b0 : W1.cell? ⟨N, 0, none⟩ = some (.pointer (some ⟨Nd, 0, none⟩)) := oN1.cell 0
      have b1 : W1.cell? ⟨N, 1, none⟩ = some (.map (some bm)) := oN1.cell 1
      have b2 : W1.cell? ⟨N, 2, none⟩ = some (.int .i64 pk) := oN1.cell 2
      have x0 : W1.cell? ⟨wr.heap.size, 0, none⟩ = some (.int .i64 k.r) := oX1.cell 0
      have x1 : W1.cell? ⟨wr.heap.size, 1, none⟩ = some (.int .i64 k.c) := oX1.cell 1
      have t0 : W1.cell? ⟨w.heap.size + 1, 0, none⟩ = some (.int .i64 tx) := oT1.cell 0
      have t1 : W1.cell? ⟨w.heap.size + 1, 1, none⟩ = some (.int .i64 ty) := oT1.cell 1
      have lN1 := oN1.lt
      have lX1 := oX1.lt
      have lT1 := oT1.lt
      have hk1 := HL.out W1.drew zqb
      rw [← hW1]
      clear hW1 y0 y1 HL
      have he := eqC k.r k.c tx ty
      by_cases hs : k.r = tx ∧ k.c = ty
      · have hss : sameC k.r k.c tx ty = true := by unfold sameC; exact decide_eq_true hs
        rw [hss] at he
        have HE : Hid (sprS tx ty st p k = p) := sprS_no (.inl hs)
        rw [HE.out] at HNx
        clear hs hss
        go_region_held3 (fun w' => w'.cell? ⟨N, 0, none⟩ = some (.pointer (some ⟨Nd, 0, none⟩)) ∧ w'.cell? ⟨N, 1, none⟩ = some (.map (some bm)) ∧ w'.cell? ⟨N, 2, none⟩ = some (.int .i64 pk) ∧ w'.cell? ⟨wr.heap.size, 0, none⟩ = some (.int .i64 k.r) ∧ w'.cell? ⟨wr.heap.size, 1, none⟩ = some (.int .i64 k.c) ∧ (Instr.lookup 81 (.map (some bm)) (.agg #[.int .i64 k.r, .int .i64 k.c]) false).run Tryz.prog w' = .ok (.int .i64 now) w') ((repeat' apply And.intro) <;> (first | (go_keep; done) | (go_simp; done))) (fail)
        go_wp2
        exact ⟨⟨i + 1, by go_num, by omega, (show Mm _ _ _ _ _ _ _ from by rw [HNx.out]; exact HMw.out.keep zqb), (show RowG _ _ _ _ _ _ _ from by rw [HNx.out]; exact RowG.keep HRw.out zqb), (show Mut _ _ _ from HMu.out.below zqb), (show Hid _ from HOw.out), (show RowG _ _ _ _ _ _ _ from RowG.keep HVw.out zqb), (show Own _ _ _ from HTw.out.keep zqb)⟩, by simp [intOf]; omega⟩
      · have hss : sameC k.r k.c tx ty = false := by unfold sameC; exact decide_eq_false hs
        rw [hss] at he
        have HS : Hid (¬ (k.r = tx ∧ k.c = ty)) := hs
        clear hs hss
        by_cases hle : st ≤ now
        · have HE : Hid (sprS tx ty st p k = p) := sprS_no (.inr (by rw [← HNow.out]; exact hle))
          rw [HE.out] at HNx
          have hle' : decide (st ≤ now) = true := decide_eq_true hle
          go_region_held3 (fun w' => w'.cell? ⟨N, 0, none⟩ = some (.pointer (some ⟨Nd, 0, none⟩)) ∧ w'.cell? ⟨N, 1, none⟩ = some (.map (some bm)) ∧ w'.cell? ⟨N, 2, none⟩ = some (.int .i64 pk) ∧ w'.cell? ⟨wr.heap.size, 0, none⟩ = some (.int .i64 k.r) ∧ w'.cell? ⟨wr.heap.size, 1, none⟩ = some (.int .i64 k.c) ∧ (Instr.lookup 81 (.map (some bm)) (.agg #[.int .i64 k.r, .int .i64 k.c]) false).run Tryz.prog w' = .ok (.int .i64 now) w') ((repeat' apply And.intro) <;> (first | (go_keep; done) | (go_simp; done))) (fail)
          go_wp2
          exact ⟨⟨i + 1, by go_num, by omega, (show Mm _ _ _ _ _ _ _ from by rw [HNx.out]; exact HMw.out.keep zqb), (show RowG _ _ _ _ _ _ _ from by rw [HNx.out]; exact RowG.keep HRw.out zqb), (show Mut _ _ _ from HMu.out.below zqb), (show Hid _ from HOw.out), (show RowG _ _ _ _ _ _ _ from RowG.keep HVw.out zqb), (show Own _ _ _ from HTw.out.keep zqb)⟩, by simp [intOf]; omega⟩
        · have hle' : decide (st ≤ now) = false := decide_eq_false hle
          by_cases hz : now = 0
          · have HE : Hid (sprS tx ty st p k = (upM p.1 k.r k.c (some st), p.2.1 ++ [k], p.2.2 + 1)) := (show _ = _ from by rw [sprS_yes (fun q => q.elim HS.out (fun q => hle (by rw [HNow.out]; exact q))), if_pos (HNow.out.symm.trans hz)])
            rw [HE.out] at HNx
            clear HE HS HNow
            subst hz
            go_region_held3 (fun w' => w'.cell? ⟨N, 0, none⟩ = some (.pointer (some ⟨Nd, 0, none⟩)) ∧ w'.cell? ⟨N, 1, none⟩ = some (.map (some bm)) ∧ w'.cell? ⟨N, 2, none⟩ = some (.int .i64 pk) ∧ w'.cell? ⟨wr.heap.size, 0, none⟩ = some (.int .i64 k.r) ∧ w'.cell? ⟨wr.heap.size, 1, none⟩ = some (.int .i64 k.c) ∧ (Instr.lookup 81 (.map (some bm)) (.agg #[.int .i64 k.r, .int .i64 k.c]) false).run Tryz.prog w' = .ok (.int .i64 0) w') ((repeat' apply And.intro) <;> (first | (go_keep; done) | (go_simp; done))) (fail)
            go_wp2_with (go_loud (at_builtin; refine wpList_appx rfl _ _ _ _ rfl _ (.slice (some ⟨W1.heap.size, 0, none⟩) 1 1) rfl rfl (HAP.out _ _ _ W1.heap.size k (RowG.keep HRw.out zqb) (heap_at (by simp)) (by simp; omega) (by have := HRm.out.1; omega)) (fun v' w4 hq => ?_); obtain ⟨r1, r2, r3, r4⟩ := hq; have R1 : Hid (RowC w4 base v' (p.2.1 ++ [k])) := r1; have hR4 : Mut (fun b => u1.ownBlock = some b) W1 w4 := (show Mut _ _ _ from (Mut.of_below zqb).call r4 (fun b q => .inl q)); have HMw4 : Hid (Mm w4 N Nd bm p.2.2 p.1 pk) := (show Mm _ _ _ _ _ _ _ from (HMw.out.keep hR1).mut hR4 (fun q => (HOw.out N q).2.2.1 rfl) (fun q => (HOw.out bm q).2.2.2.1 rfl)); have oX4 : Own w4 wr.heap.size #[.int .i64 k.r, .int .i64 k.c] := oX1.mut hR4 (fun q => by have := (RowG.lt HRw.out _ q).2; omega); have HT4 : Hid (Own w4 (w.heap.size + 1) #[.int .i64 tx, .int .i64 ty]) := (show Own _ _ _ from oT1.mut hR4 (fun q => (HOw.out _ q).1 rfl)); have HV4 : Hid (RowG 32 2 Cl.cs w4 (w.heap.size + 2) (.slice (some ⟨g, 0, none⟩) m c0) ks) := (show RowG _ _ _ _ _ _ _ from RowG.mut (RowG.keep HVw.out hR1) hR4 (fun b q s => (HOw.out b s).2.1 q)); have HU4 : Hid (Mut (fun b => b = N ∨ b = bm ∨ v.ownBlock = some b) w w4) := (show Mut _ _ _ from (HMu.out.below hR1).call hR4 (fun b q => (HOw.out b q).2.2.2.2.elim (fun s => .inl (.inr (.inr s))) .inr)); have HO4 : Hid (∀ b, v'.ownBlock = some b → b ≠ w.heap.size + 1 ∧ (Value.slice (some ⟨g, 0, none⟩) m c0).ownBlock ≠ some b ∧ b ≠ N ∧ b ≠ bm ∧ (v.ownBlock = some b ∨ w.heap.size ≤ b)) := (show ∀ b, _ → _ from fun b q => by rcases r3 with s | s; exact HOw.out b (s.symm.trans q); rw [s] at q; injection q with q; have k1 := (RowG.lt HVw.out); have z1 := hR1.size; simp at q; exact ⟨by omega, fun t => by have := (k1 b t).2; omega, by omega, by omega, .inr (by omega)⟩); have z4 : wr.heap.size < w4.heap.size := oX4.lt; have oN4 := HMw4.out.own; have m0 : w4.cell? ⟨N, 0, none⟩ = some (.pointer (some ⟨Nd, 0, none⟩)) := oN4.cell 0; have m1 : w4.cell? ⟨N, 1, none⟩ = some (.map (some bm)) := oN4.cell 1; have m2 : w4.cell? ⟨N, 2, none⟩ = some (.int .i64 pk) := oN4.cell 2; have n0 : w4.cell? ⟨wr.heap.size, 0, none⟩ = some (.int .i64 k.r) := oX4.cell 0; have n1 : w4.cell? ⟨wr.heap.size, 1, none⟩ = some (.int .i64 k.c) := oX4.cell 1; have lN4 := oN4.lt; have lX4 := oX4.lt; clear r1 r2 r3 r4))
            obtain ⟨w5, hup, hmm, hm5⟩ := HP.out w4.drew p.2.2 p.1 k.r k.c (HMw4.out.keep zqb) HKk.out (by have := HRm.out.2; omega)
            have HM5 : Hid (Mm w5 N Nd bm (p.2.2 + 1) (upM p.1 k.r k.c (some st)) pk) := hmm
            have HU5 : Hid (Mut (fun b => b = bm) w4.drew w5) := hm5
            have oN5 := hmm.own
            have oX5 : Own w5 wr.heap.size #[.int .i64 k.r, .int .i64 k.c] := Own.mut (by with_reducible (repeat' first | assumption | refine Own.drew ?_ | refine Own.drewN ?_ _ | (refine Own.at ?_; first | rfl | (simp; done)) | refine Own.past ?_ _)) hm5 (fun q => by omega)
            have o0 : w5.cell? ⟨N, 0, none⟩ = some (.pointer (some ⟨Nd, 0, none⟩)) := oN5.cell 0
            have o1 : w5.cell? ⟨N, 1, none⟩ = some (.map (some bm)) := oN5.cell 1
            have o2 : w5.cell? ⟨N, 2, none⟩ = some (.int .i64 pk) := oN5.cell 2
            have r0 : w5.cell? ⟨wr.heap.size, 0, none⟩ = some (.int .i64 k.r) := oX5.cell 0
            have r1 : w5.cell? ⟨wr.heap.size, 1, none⟩ = some (.int .i64 k.c) := oX5.cell 1
            have lN5 := oN5.lt
            have lX5 := oX5.lt
            clear hmm hm5 oN5 oX5
            refine wp_region_held_drew (S := (fun w' => w'.cell? ⟨N, 0, none⟩ = some (.pointer (some ⟨Nd, 0, none⟩)) ∧ w'.cell? ⟨N, 1, none⟩ = some (.map (some bm)) ∧ w'.cell? ⟨N, 2, none⟩ = some (.int .i64 pk) ∧ w'.cell? ⟨wr.heap.size, 0, none⟩ = some (.int .i64 k.r) ∧ w'.cell? ⟨wr.heap.size, 1, none⟩ = some (.int .i64 k.c))) (by kernel_rfl) (by (try dsimp only); ((repeat' apply And.intro) <;> (first | (go_keep; done) | (go_simp; done)))) (fun hHeld => ?_)
            refine wpAnyH_take (i := 0) (v := .pointer (some ⟨N, 0, none⟩)) rfl (by kernel_rfl) (by kernel_rfl) (by kernel_rfl) (fun _ _ _ h => h) (Or.inl ⟨by first | rfl | kernel_rfl, by intro wz hSw; (try dsimp only at hSw); go_simp⟩) (by assumption) ?_
            (try simp only [Act.put, List.getElem_toArray, List.getElem_cons_succ, List.getElem_cons_zero, List.setIfInBounds_toArray, List.set_cons_zero, List.set_cons_succ])
            refine wpAnyH_take (i := 1) (v := .pointer (some ⟨N, 0, none⟩)) rfl (by kernel_rfl) (by kernel_rfl) (by kernel_rfl) (fun _ _ _ h => h) (Or.inl ⟨by first | rfl | kernel_rfl, by intro wz hSw; (try dsimp only at hSw); go_simp⟩) (by assumption) ?_
            (try simp only [Act.put, List.getElem_toArray, List.getElem_cons_succ, List.getElem_cons_zero, List.setIfInBounds_toArray, List.set_cons_zero, List.set_cons_succ])
            refine wpAnyH_take (i := 2) (v := .pointer (some ⟨N, 1, none⟩)) rfl (by kernel_rfl) (by kernel_rfl) (by kernel_rfl) (fun _ _ _ h => h) (Or.inl ⟨by first | rfl | kernel_rfl, by intro wz hSw; (try dsimp only at hSw); go_simp⟩) (by assumption) ?_
            (try simp only [Act.put, List.getElem_toArray, List.getElem_cons_succ, List.getElem_cons_zero, List.setIfInBounds_toArray, List.set_cons_zero, List.set_cons_succ])
            refine wpAnyH_take (i := 3) (v := .map (some bm)) rfl (by kernel_rfl) (by kernel_rfl) (by kernel_rfl) (fun _ _ _ h => h) (Or.inl ⟨by first | rfl | kernel_rfl, by intro wz hSw; (try dsimp only at hSw); go_simp⟩) (by assumption) ?_
            (try simp only [Act.put, List.getElem_toArray, List.getElem_cons_succ, List.getElem_cons_zero, List.setIfInBounds_toArray, List.set_cons_zero, List.set_cons_succ])
            refine wpAnyH_take (i := 4) (v := (.agg #[.int .i64 k.r, .int .i64 k.c])) rfl (by kernel_rfl) (by kernel_rfl) (by kernel_rfl) (fun _ _ _ h => h) (Or.inl ⟨by first | rfl | kernel_rfl, by intro wz hSw; (try dsimp only at hSw); go_simp⟩) (by assumption) ?_
            (try simp only [Act.put, List.getElem_toArray, List.getElem_cons_succ, List.getElem_cons_zero, List.setIfInBounds_toArray, List.set_cons_zero, List.set_cons_succ])
            refine wpAnyH_take (i := 5) (v := .int .i64 st) rfl (by kernel_rfl) (by kernel_rfl) (by kernel_rfl) (fun _ _ _ h => h) (Or.inl ⟨by first | rfl | kernel_rfl, by intro wz hSw; (try dsimp only at hSw); go_simp⟩) (by assumption) ?_
            (try simp only [Act.put, List.getElem_toArray, List.getElem_cons_succ, List.getElem_cons_zero, List.setIfInBounds_toArray, List.set_cons_zero, List.set_cons_succ])
            refine wpAnyH_ready (rs := [6]) (by kernel_rfl) (by simp) ?_
            refine AllReadyH.cons rfl (fun K hK => ?_) ?_
            · go_simp
              refine hK.out _ _ (by (try dsimp only); first | (with_reducible assumption) | ((repeat' apply And.intro) <;> (first | (go_keep; done) | (go_simp; done)))) (fun hHeld => ?_)
              clear hK K
              (try simp only [Act.put, List.getElem_toArray, List.getElem_cons_succ, List.getElem_cons_zero, List.setIfInBounds_toArray, List.set_cons_zero, List.set_cons_succ])
              refine wpAnyH_done (by kernel_rfl) ?_ _
              go_wp2
              exact ⟨⟨i + 1, by go_num, by omega, (show Mm _ _ _ _ _ _ _ from by rw [HNx.out]; exact HM5.out.keep zqb), (show RowG _ _ _ _ _ _ _ from by rw [HNx.out]; exact RowG.keep (RowG.mut (RowG.keep R1.out zqb) HU5.out (fun b q s => (HO4.out b q).2.2.2.1 s)) zqb), (show Mut _ _ _ from ((HU4.out.below zqb).call HU5.out (fun b q => .inl (.inr (.inl q)))).below zqb), (show Hid _ from HO4.out), (show RowG _ _ _ _ _ _ _ from RowG.keep (RowG.mut (RowG.keep HV4.out zqb) HU5.out (fun b q s => by have := (RowG.lt HV4.out b q).1; omega)) zqb), (show Own _ _ _ from (Own.mut (HT4.out.keep zqb) HU5.out (fun q => by omega)).keep zqb)⟩, by simp [intOf]; omega⟩
            exact AllReadyH.nil
          · have HE : Hid (sprS tx ty st p k = (upM p.1 k.r k.c (some st), p.2.1, p.2.2 + 1)) := (show _ = _ from by rw [sprS_yes (fun q => q.elim HS.out (fun q => hle (by rw [HNow.out]; exact q))), if_neg (fun q => hz (HNow.out.trans q))])
            rw [HE.out] at HNx
            have hz' : (now == 0) = false := by simp [hz]
            clear HE HS HNow
            go_region_held3 (fun w' => w'.cell? ⟨N, 0, none⟩ = some (.pointer (some ⟨Nd, 0, none⟩)) ∧ w'.cell? ⟨N, 1, none⟩ = some (.map (some bm)) ∧ w'.cell? ⟨N, 2, none⟩ = some (.int .i64 pk) ∧ w'.cell? ⟨wr.heap.size, 0, none⟩ = some (.int .i64 k.r) ∧ w'.cell? ⟨wr.heap.size, 1, none⟩ = some (.int .i64 k.c) ∧ (Instr.lookup 81 (.map (some bm)) (.agg #[.int .i64 k.r, .int .i64 k.c]) false).run Tryz.prog w' = .ok (.int .i64 now) w') ((repeat' apply And.intro) <;> (first | (go_keep; done) | (go_simp; done))) (fail)
            go_wp2
            obtain ⟨w5, hup, hmm, hm5⟩ := HP.out W1.drew.drew p.2.2 p.1 k.r k.c (HMw.out.keep zqb) HKk.out (by have := HRm.out.2; omega)
            have HM5 : Hid (Mm w5 N Nd bm (p.2.2 + 1) (upM p.1 k.r k.c (some st)) pk) := hmm
            have HU5 : Hid (Mut (fun b => b = bm) W1.drew.drew w5) := hm5
            have oN5 := hmm.own
            have oX5 : Own w5 wr.heap.size #[.int .i64 k.r, .int .i64 k.c] := Own.mut (by with_reducible (repeat' first | assumption | refine Own.drew ?_ | refine Own.drewN ?_ _ | (refine Own.at ?_; first | rfl | (simp; done)) | refine Own.past ?_ _)) hm5 (fun q => by omega)
            have o0 : w5.cell? ⟨N, 0, none⟩ = some (.pointer (some ⟨Nd, 0, none⟩)) := oN5.cell 0
            have o1 : w5.cell? ⟨N, 1, none⟩ = some (.map (some bm)) := oN5.cell 1
            have o2 : w5.cell? ⟨N, 2, none⟩ = some (.int .i64 pk) := oN5.cell 2
            have r0 : w5.cell? ⟨wr.heap.size, 0, none⟩ = some (.int .i64 k.r) := oX5.cell 0
            have r1 : w5.cell? ⟨wr.heap.size, 1, none⟩ = some (.int .i64 k.c) := oX5.cell 1
            have lN5 := oN5.lt
            have lX5 := oX5.lt
            clear hmm hm5 oN5 oX5
            refine wp_region_held_drew (S := (fun w' => w'.cell? ⟨N, 0, none⟩ = some (.pointer (some ⟨Nd, 0, none⟩)) ∧ w'.cell? ⟨N, 1, none⟩ = some (.map (some bm)) ∧ w'.cell? ⟨N, 2, none⟩ = some (.int .i64 pk) ∧ w'.cell? ⟨wr.heap.size, 0, none⟩ = some (.int .i64 k.r) ∧ w'.cell? ⟨wr.heap.size, 1, none⟩ = some (.int .i64 k.c))) (by kernel_rfl) (by (try dsimp only); ((repeat' apply And.intro) <;> (first | (go_keep; done) | (go_simp; done)))) (fun hHeld => ?_)
            refine wpAnyH_take (i := 0) (v := .pointer (some ⟨N, 0, none⟩)) rfl (by kernel_rfl) (by kernel_rfl) (by kernel_rfl) (fun _ _ _ h => h) (Or.inl ⟨by first | rfl | kernel_rfl, by intro wz hSw; (try dsimp only at hSw); go_simp⟩) (by assumption) ?_
            (try simp only [Act.put, List.getElem_toArray, List.getElem_cons_succ, List.getElem_cons_zero, List.setIfInBounds_toArray, List.set_cons_zero, List.set_cons_succ])
            refine wpAnyH_take (i := 1) (v := .pointer (some ⟨N, 0, none⟩)) rfl (by kernel_rfl) (by kernel_rfl) (by kernel_rfl) (fun _ _ _ h => h) (Or.inl ⟨by first | rfl | kernel_rfl, by intro wz hSw; (try dsimp only at hSw); go_simp⟩) (by assumption) ?_
            (try simp only [Act.put, List.getElem_toArray, List.getElem_cons_succ, List.getElem_cons_zero, List.setIfInBounds_toArray, List.set_cons_zero, List.set_cons_succ])
            refine wpAnyH_take (i := 2) (v := .pointer (some ⟨N, 1, none⟩)) rfl (by kernel_rfl) (by kernel_rfl) (by kernel_rfl) (fun _ _ _ h => h) (Or.inl ⟨by first | rfl | kernel_rfl, by intro wz hSw; (try dsimp only at hSw); go_simp⟩) (by assumption) ?_
            (try simp only [Act.put, List.getElem_toArray, List.getElem_cons_succ, List.getElem_cons_zero, List.setIfInBounds_toArray, List.set_cons_zero, List.set_cons_succ])
            refine wpAnyH_take (i := 3) (v := .map (some bm)) rfl (by kernel_rfl) (by kernel_rfl) (by kernel_rfl) (fun _ _ _ h => h) (Or.inl ⟨by first | rfl | kernel_rfl, by intro wz hSw; (try dsimp only at hSw); go_simp⟩) (by assumption) ?_
            (try simp only [Act.put, List.getElem_toArray, List.getElem_cons_succ, List.getElem_cons_zero, List.setIfInBounds_toArray, List.set_cons_zero, List.set_cons_succ])
            refine wpAnyH_take (i := 4) (v := (.agg #[.int .i64 k.r, .int .i64 k.c])) rfl (by kernel_rfl) (by kernel_rfl) (by kernel_rfl) (fun _ _ _ h => h) (Or.inl ⟨by first | rfl | kernel_rfl, by intro wz hSw; (try dsimp only at hSw); go_simp⟩) (by assumption) ?_
            (try simp only [Act.put, List.getElem_toArray, List.getElem_cons_succ, List.getElem_cons_zero, List.setIfInBounds_toArray, List.set_cons_zero, List.set_cons_succ])
            refine wpAnyH_take (i := 5) (v := .int .i64 st) rfl (by kernel_rfl) (by kernel_rfl) (by kernel_rfl) (fun _ _ _ h => h) (Or.inl ⟨by first | rfl | kernel_rfl, by intro wz hSw; (try dsimp only at hSw); go_simp⟩) (by assumption) ?_
            (try simp only [Act.put, List.getElem_toArray, List.getElem_cons_succ, List.getElem_cons_zero, List.setIfInBounds_toArray, List.set_cons_zero, List.set_cons_succ])
            refine wpAnyH_ready (rs := [6]) (by kernel_rfl) (by simp) ?_
            refine AllReadyH.cons rfl (fun K hK => ?_) ?_
            · go_simp
              refine hK.out _ _ (by (try dsimp only); first | (with_reducible assumption) | ((repeat' apply And.intro) <;> (first | (go_keep; done) | (go_simp; done)))) (fun hHeld => ?_)
              clear hK K
              (try simp only [Act.put, List.getElem_toArray, List.getElem_cons_succ, List.getElem_cons_zero, List.setIfInBounds_toArray, List.set_cons_zero, List.set_cons_succ])
              refine wpAnyH_done (by kernel_rfl) ?_ _
              go_wp2
              exact ⟨⟨i + 1, by go_num, by omega, (show Mm _ _ _ _ _ _ _ from by rw [HNx.out]; exact HM5.out.keep zqb), (show RowG _ _ _ _ _ _ _ from by rw [HNx.out]; exact RowG.keep (RowG.mut (RowG.keep HRw.out zqb) HU5.out (fun b q s => (HOw.out b q).2.2.2.1 s)) zqb), (show Mut _ _ _ from ((HMu.out.below (show Below wr.heap.size wr W1.drew.drew from by with_reducible (repeat' first | assumption | exact Below.refl _ _ | refine Below.drew ?_ | refine bdrewN ?_ _ | refine Below.setCell ?_ (by first | exact Nat.le_refl _ | (simp; done) | (simp; omega) | omega) _ | refine Below.alloc ?_ (by first | exact Nat.le_refl _ | (simp; done) | (simp; omega) | omega) _))).call HU5.out (fun b q => .inl (.inr (.inl q)))).below zqb), (show Hid _ from HOw.out), (show RowG _ _ _ _ _ _ _ from RowG.keep (RowG.mut (RowG.keep HVw.out zqb) HU5.out (fun b q s => by have := (RowG.lt HVw.out b q).1; omega)) zqb), (show Own _ _ _ from (Own.mut (HTw.out.keep zqb) HU5.out (fun q => by omega)).keep zqb)⟩, by simp [intOf]; omega⟩
            exact AllReadyH.nil
    · have him' : ¬ ((i : Int) < m) := by omega
      have him2 : i = m := by omega
      subst him2
      have b0 : wr.cell? ⟨N, 0, none⟩ = some (.pointer (some ⟨Nd, 0, none⟩)) := oNw.cell 0
      have b1 : wr.cell? ⟨N, 1, none⟩ = some (.map (some bm)) := oNw.cell 1
      have b2 : wr.cell? ⟨N, 2, none⟩ = some (.int .i64 pk) := oNw.cell 2
      have fb2 : wr.frozen? ⟨N, 2, none⟩ = false := oNw.fro 2
      obtain ⟨q1, n1, c1, rfl⟩ := (show ∃ q n c, u1 = .slice q n c from by
        obtain ⟨q, c, e, _⟩ := RowG.view Cl.len HRw.out
        exact ⟨q, _, c, e⟩)
      have HLn : Hid (n1 = p.2.1.length) := (show _ = _ from (RowG.viewQ Cl.len HRw.out).1)
      have HPk : Hid (p = sprL tx ty st ks (M, stk, n)) := (show _ = _ from by
        have q := HPp.out
        rw [List.take_of_length_le (by have := HMl.out; omega)] at q
        exact q)
      clear HPp
      go_wp2
      go_ret
      exact ⟨_, rfl, ks, HKs.out, (by rw [← HPk.out, ← HLn.out]; exact HMw.out.peak _), (by rw [← HPk.out]; exact RowG.aside HRw.out _ (fun g q => (HOw.out g q).2.2.1)), fun g q => ⟨(HOw.out g q).2.2.1, (HOw.out g q).2.2.2.1, (HOw.out g q).2.2.2.2⟩, Mut.set HMu.out (a := ⟨N, 2, none⟩) (.inl (.inl rfl)) _⟩
end Go.Proofs.YtcjanaldjokllaaGreat
