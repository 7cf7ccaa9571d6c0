/- DepsOrder's walk. New memory alone is made. -/
import Derived.Test.YtgojnijpjfdocaaGreatGM
namespace Go.Proofs.YtgojnijpjfdocaaGreat
open Go.RowKit Go.Shelf
set_option linter.all false
theorem each_dv {w : World} {v : Value} {l : List Dv} (h : VL 3 Dv.cs w v l) : ∃ q cap, v = .slice q l.length cap ∧ l.length ≤ cap ∧ cap ≤ 9223372036854775807 ∧ ∀ k, k < l.length → ∃ g e, q = some ⟨g, 0, none⟩ ∧ g < w.heap.size ∧ l[k]? = some e ∧ w.cell? ⟨g, k * 3, none⟩ = some (.int .i64 e.r) ∧ w.cell? ⟨g, k * 3 + 1, none⟩ = some (.int .i64 e.c) ∧ w.cell? ⟨g, k * 3 + 2, none⟩ = some (.slice e.p e.n e.k) := by
  obtain ⟨q, cap, h1, h2, h3, h4⟩ := h
  refine ⟨q, cap, h1, h2, h3, fun i hi => ?_⟩
  obtain ⟨g, k1, k2, k3⟩ := h4 (by omega)
  have hx := List.getElem?_eq_getElem hi
  exact ⟨g, l[i], k1, k2, hx, k3 i _ hx 0 _ rfl, k3 i _ hx 1 _ rfl, k3 i _ hx 2 _ rfl⟩
theorem cell_mut {S : Nat → Prop} {w w' : World} (h : Mut S w w') {p : Addr} (hl : p.block < w.heap.size) (hn : ¬ S p.block) : w'.cell? p = w.cell? p := World.cell?_of_block (h.block p.block hl hn)
set_option maxRecDepth 100000 in
set_option maxHeartbeats 16000000 in
theorem order_any (w : World) (v : Value) (l : List Dv) (cx cy : Int) (h : DVw w v l) (hs : cst l ≤ 1048576) (hx : I64 cx) (hy : I64 cy) : Calls Tryz.prog 8 #[v, .agg #[.int .i64 cx, .int .i64 cy]] w fun e w' => e = .returned (.bool true) ∧ Below w.heap.size w w' := by
  have mixed : Tryz.prog.follows .mixedOrders = true := by kernel_rfl
  obtain ⟨p, cap, rfl, hcap, hcm, hV0, hW0⟩ := h
  obtain ⟨n, hn⟩ : ∃ n, n = l.length := ⟨_, rfl⟩
  rw [← hn] at hcap hV0
  rw [← hn]
  have HN : Hid (n = l.length) := hn
  have HV : Hid _ := hV0
  have hnl : n ≤ 1048576 := by have := cst_len l; omega
  have HDi : Hid (∀ F W N D, Dw F W N D → Calls Tryz.prog 15 #[.pointer (some ⟨N, 0, none⟩), .agg #[.int .i64 cx, .int .i64 cy]] W fun e w' => ∃ v, e = .returned v ∧ ∃ k, RowG 33 2 Cl.cs w' W.heap.size v k ∧ IsWho (runE D) cx cy k ∧ Below W.heap.size W w') := (show _ from fun F W N D h => ddir_dw W N _ _ cx cy h hx hy)
  have HEd : Hid (∀ F W N D, Dw F W N D → cst D ≤ 1048576 → Calls Tryz.prog 18 #[.pointer (some ⟨N, 0, none⟩)] W fun e w' => ∃ v, e = .returned v ∧ ∃ k, RowD w' W.heap.size v k ∧ IsEdg (runE D) k ∧ Below W.heap.size W w') := (show _ from fun F W N D h hc => dedg_dw W N _ _ h hc)
  have HBk : Hid (∀ F W N D, Dw F W N D → cst D ≤ 1048576 → Calls Tryz.prog 20 #[.pointer (some ⟨N, 0, none⟩)] W fun e w' => ∃ v, e = .returned v ∧ ∃ k, RowD w' W.heap.size v k ∧ IsEdg (runE D) k ∧ Below W.heap.size W w') := (show _ from fun F W N D h hc => dback_dw W N _ _ h hc)
  have HMem : Hid (∀ d ∈ l, DvW w d) := hW0
  have Hs : Hid (cst l ≤ 1048576) := hs
  clear hn hV0 hW0 hs hx hy
  have t1 : True := trivial
  have t2 : True := trivial
  have t3 : True := trivial
  have t4 : True := trivial
  have t5 : True := trivial
  have t6 : True := trivial
  have t7 : True := trivial
  have t8 : True := trivial
  have t9 : True := trivial
  have t10 : True := trivial
  have t11 : True := trivial
  have t12 : True := trivial
  go_enter Tryz.func8, Tryz.ntmps8
  go_wp2_with (first
    | (go_at_call 9; clear t1; refine (dnew_dw _).mono ?_; rintro e w1 ⟨Na, rfl, q0, q1, q2⟩; have HD1 : Hid (Dw (fun b => b < w.heap.size + 1) w1 Na []) := (show Dw _ _ _ _ from Dw.fresh q1 (fun b q => .inl (by simpa using q))); have hB1 : Below w.heap.size w w1 := bup (by with_reducible (repeat' first | assumption | exact Below.refl _ _ | refine Below.drew ?_ | refine bdrewN ?_ _ | refine Below.setCell ?_ (by first | exact Nat.le_refl _ | (simp; done) | (simp; omega) | omega) _ | refine Below.alloc ?_ (by first | exact Nat.le_refl _ | (simp; done) | (simp; omega) | omega) _)) q2; have oP1 : Own w1 w.heap.size #[.int .i64 cx, .int .i64 cy] := Own.keep (by with_reducible (repeat' first | assumption | refine Own.drew ?_ | refine Own.drewN ?_ _ | (refine Own.at ?_; first | rfl | (simp; done)) | refine Own.past ?_ _)) q2; have zz1 : w.heap.size + 1 ≤ w1.heap.size := (by simpa using q2.size); clear q0 q1 q2)
    | (go_at_call 9; clear t2; refine (dnew_two _ (fun b => b < w.heap.size + 1) Na [] (HD1.out.keep (by with_reducible (repeat' first | assumption | exact Below.refl _ _ | refine Below.drew ?_ | refine bdrewN ?_ _ | refine Below.setCell ?_ (by first | exact Nat.le_refl _ | (simp; done) | (simp; omega) | omega) _ | refine Below.alloc ?_ (by first | exact Nat.le_refl _ | (simp; done) | (simp; omega) | omega) _))) (fun b q => Nat.lt_of_lt_of_le q (by simpa using zz1))).mono ?_; rintro e w2 ⟨Nb, rfl, q1, q2⟩; have HD2 : Hid (D2w (fun b => b < w.heap.size + 1) w2 Na [] Nb []) := q1; have hB2 : Below w.heap.size w w2 := bup (by with_reducible (repeat' first | assumption | exact Below.refl _ _ | refine Below.drew ?_ | refine bdrewN ?_ _ | refine Below.setCell ?_ (by first | exact Nat.le_refl _ | (simp; done) | (simp; omega) | omega) _ | refine Below.alloc ?_ (by first | exact Nat.le_refl _ | (simp; done) | (simp; omega) | omega) _)) q2; have oP2 : Own w2 w.heap.size #[.int .i64 cx, .int .i64 cy] := Own.keep (by with_reducible (repeat' first | assumption | refine Own.drew ?_ | refine Own.drewN ?_ _ | (refine Own.at ?_; first | rfl | (simp; done)) | refine Own.past ?_ _)) q2; have zz2 : w.heap.size + 1 ≤ w2.heap.size := Nat.le_trans zz1 (by simpa using q2.size); clear q1 q2))
  have HAP : Hid (ApV w2.heap.size) := (show ApV _ from apV _)
  clear HD1 hB1 oP1 zz1
  go_loopw [7, 8] (fun u7 u8 w' => ∃ i : Nat, u8 = .int .i64 i ∧ i ≤ n ∧ Hid (RowG 35 3 Dv.cs w' w2.heap.size u7 (fsts (l.take i))) ∧ Below w2.heap.size w2 w') (fun _ u8 _ => n - (intOf u8).toNat)
  case atStart => exact ⟨0, rfl, by omega, (show RowG 35 3 Dv.cs _ _ _ _ from RowG.nil _), by with_reducible (repeat' first | assumption | exact Below.refl _ _ | refine Below.drew ?_ | refine bdrewN ?_ _ | refine Below.setCell ?_ (by first | exact Nat.le_refl _ | (simp; done) | (simp; omega) | omega) _ | refine Below.alloc ?_ (by first | exact Nat.le_refl _ | (simp; done) | (simp; omega) | omega) _)⟩
  case round =>
    obtain ⟨i, rfl, hi, HR, hB⟩ := hrel
    obtain ⟨acc, hacc⟩ : ∃ acc, acc = fsts (l.take i) := ⟨_, rfl⟩
    rw [← hacc] at HR
    obtain ⟨qa, ca, rfl, ha1, ha2, hAe0⟩ := each_dv (RowG.vl Dv.len HR.out)
    obtain ⟨m, hm⟩ : ∃ m, m = acc.length := ⟨_, rfl⟩
    have HmA : Hid (m = acc.length) := hm
    rw [← hm] at ha1 hAe0 HR
    rw [← hm]
    have HAe : Hid _ := hAe0
    have hml : m ≤ 1048576 := by
      rw [hm, hacc]
      have h1 := cst_len (fsts (l.take i))
      have h2 := fsts_cst (l.take i)
      have h3 := cst_le l i
      have h4 := Hs.out
      omega
    clear hm hAe0
    by_cases hlt : i < n
    · have hlt' : (i : Int) < n := by omega
      obtain ⟨b, o, rfl, hbl, hdc⟩ := HV.out (by omega)
      obtain ⟨d, hd⟩ : ∃ d, l[i]? = some d := ⟨_, List.getElem?_eq_getElem (by rw [← HN.out]; omega)⟩
      have rw0 : w.cell? ⟨b, o + i * 3, none⟩ = some (.int .i64 d.r) := hdc i d hd 0 _ rfl
      have rw1 : w.cell? ⟨b, o + i * 3 + 1, none⟩ = some (.int .i64 d.c) := hdc i d hd 1 _ rfl
      have rw2 : w.cell? ⟨b, o + i * 3 + 2, none⟩ = some (.slice d.p d.n d.k) := hdc i d hd 2 _ rfl
      have hbl2 : b < w2.heap.size := by omega
      have HNx : Hid (fsts (l.take (i + 1)) = fsS acc d) := (show _ = _ by rw [fsts_next hd, ← hacc])
      have hbr : b < wr.heap.size := Nat.lt_of_lt_of_le hbl2 hB.size
      have hBw : Below w.heap.size w wr := hB2.trans (hB.mono (by omega))
      clear hd hdc hacc
      go_wp2
      obtain ⟨wo, hwo⟩ : ∃ wo : World, wo = wr := ⟨_, rfl⟩
      subst hwo
      have hB0 := Below.refl wo.heap.size wo
      go_loopw [9, 10] (fun u9 u10 w' => ∃ k : Nat, u10 = .int .i64 k ∧ k ≤ m ∧ u9 = .bool ((acc.take k).any (isD d)) ∧ Below wo.heap.size wo w') (fun _ u10 _ => m - (intOf u10).toNat)
      case atStart => exact ⟨0, by go_num, by omega, by simp, by with_reducible (repeat' first | assumption | exact Below.refl _ _ | refine Below.drew ?_ | refine bdrewN ?_ _ | refine Below.setCell ?_ (by first | exact Nat.le_refl _ | (simp; done) | (simp; omega) | omega) _ | refine Below.alloc ?_ (by first | exact Nat.le_refl _ | (simp; done) | (simp; omega) | omega) _)⟩
      case round =>
        clear hB0
        obtain ⟨k, rfl, hk, rfl, hBo⟩ := hrel
        obtain ⟨has, hhas⟩ : ∃ has, has = (acc.take k).any (isD d) := ⟨_, rfl⟩
        rw [← hhas]
        have hBv : Below w.heap.size w wr := hBw.trans (hBo.mono hBw.size)
        have r0 : wr.cell? ⟨b, o + i * 3, none⟩ = some (.int .i64 d.r) := (hBv.cell (p := ⟨b, o + i * 3, none⟩) hbl).trans rw0
        have r1 : wr.cell? ⟨b, o + i * 3 + 1, none⟩ = some (.int .i64 d.c) := (hBv.cell (p := ⟨b, o + i * 3 + 1, none⟩) hbl).trans rw1
        have r2 : wr.cell? ⟨b, o + i * 3 + 2, none⟩ = some (.slice d.p d.n d.k) := (hBv.cell (p := ⟨b, o + i * 3 + 2, none⟩) hbl).trans rw2
        have zo := hBo.size
        have hbr2 : b < wr.heap.size := by omega
        by_cases hlk : k < m
        · have hlk' : (k : Int) < m := by omega
          obtain ⟨g, e, rfl, hg, he, e0, e1, e2⟩ := HAe.out k hlk
          have c0 : wr.cell? ⟨g, k * 3, none⟩ = some (.int .i64 e.r) := (hBo.cell (p := ⟨g, k * 3, none⟩) hg).trans e0
          have c1 : wr.cell? ⟨g, k * 3 + 1, none⟩ = some (.int .i64 e.c) := (hBo.cell (p := ⟨g, k * 3 + 1, none⟩) hg).trans e1
          have HX : Hid ((acc.take (k + 1)).any (isD d) = (has || sameC e.r e.c d.r d.c)) := (show _ = _ by rw [any_snoc _ he, ← hhas]; rfl)
          have heq := eqC e.r e.c d.r d.c
          clear he hhas e2
          cases has
          · go_wp2
            go_quiet (fail)
            go_wp2
            exact ⟨⟨k + 1, by go_num, by omega, by rw [HX.out, Bool.false_or], by with_reducible (repeat' first | assumption | exact Below.refl _ _ | refine Below.drew ?_ | refine bdrewN ?_ _ | refine Below.setCell ?_ (by first | exact Nat.le_refl _ | (simp; done) | (simp; omega) | omega) _ | refine Below.alloc ?_ (by first | exact Nat.le_refl _ | (simp; done) | (simp; omega) | omega) _)⟩, by simp [intOf] <;> omega⟩
          · go_wp2
            go_quiet (fail)
            go_wp2
            exact ⟨⟨k + 1, by go_num, by omega, by rw [HX.out, Bool.true_or], by with_reducible (repeat' first | assumption | exact Below.refl _ _ | refine Below.drew ?_ | refine bdrewN ?_ _ | refine Below.setCell ?_ (by first | exact Nat.le_refl _ | (simp; done) | (simp; omega) | omega) _ | refine Below.alloc ?_ (by first | exact Nat.le_refl _ | (simp; done) | (simp; omega) | omega) _)⟩, by simp [intOf] <;> omega⟩
        · have hlk' : ¬ (k : Int) < m := by omega
          have hkm : k = m := by omega
          rw [hkm, HmA.out, List.take_length] at hhas
          have hB3 : Below w2.heap.size w2 wr := hB.trans (hBo.mono hB.size)
          have zb3 := hB3.size
          have HR2 : Hid (RowG 35 3 Dv.cs wr w2.heap.size (.slice qa m ca) acc) := (show RowG 35 3 Dv.cs _ _ _ _ from HR.out.keep hBo)
          clear hkm hk hlk
          cases has
          · have HNy : Hid (fsts (l.take (i + 1)) = acc ++ [d]) := (show _ = _ by rw [HNx.out]; unfold fsS; rw [if_neg (by rw [← hhas]; intro q; cases q)])
            have hll : (acc.length + 1) * 40 ≤ 140737488355328 := by rw [← HmA.out]; omega
            have Hll : Hid ((acc.length + 1) * 40 ≤ 140737488355328) := hll
            clear hhas HNx hll
            go_wp2_with (at_builtin; refine wpList_appx rfl _ _ _ _ rfl _ (.slice (some ⟨wr.heap.size, 0, none⟩) 1 1) rfl rfl (HAP.out _ _ _ wr.heap.size d (RowG.keep HR2.out (by with_reducible (repeat' first | assumption | exact Below.refl _ _ | refine Below.drew ?_ | refine bdrewN ?_ _ | refine Below.setCell ?_ (by first | exact Nat.le_refl _ | (simp; done) | (simp; omega) | omega) _ | refine Below.alloc ?_ (by first | exact Nat.le_refl _ | (simp; done) | (simp; omega) | omega) _))) (heap_at (by simp)) (by have := hB3.size; simp; omega) Hll.out) (fun v' w3 hq => ?_); obtain ⟨r1, r2, r3, r4⟩ := hq; have R1 : Hid (RowG 35 3 Dv.cs w3 w2.heap.size v' (acc ++ [d])) := r1; have R2 : Below w2.heap.size w2 w3 := (show Below w2.heap.size w2 _ from by with_reducible (repeat' first | assumption | exact Below.refl _ _ | refine Below.drew ?_ | refine bdrewN ?_ _ | refine Below.setCell ?_ (by first | exact Nat.le_refl _ | (simp; done) | (simp; omega) | omega) _ | refine Below.alloc ?_ (by first | exact Nat.le_refl _ | (simp; done) | (simp; omega) | omega) _)).trans r2; clear r1 r2 r3 r4)
            all_goals exact ⟨⟨i + 1, by go_num, by omega, (show RowG 35 3 Dv.cs _ _ _ _ from by rw [HNy.out]; exact R1.out.keep (by with_reducible (repeat' first | assumption | exact Below.refl _ _ | refine Below.drew ?_ | refine bdrewN ?_ _ | refine Below.setCell ?_ (by first | exact Nat.le_refl _ | (simp; done) | (simp; omega) | omega) _ | refine Below.alloc ?_ (by first | exact Nat.le_refl _ | (simp; done) | (simp; omega) | omega) _))), by with_reducible (repeat' first | assumption | exact Below.refl _ _ | refine Below.drew ?_ | refine bdrewN ?_ _ | refine Below.setCell ?_ (by first | exact Nat.le_refl _ | (simp; done) | (simp; omega) | omega) _ | refine Below.alloc ?_ (by first | exact Nat.le_refl _ | (simp; done) | (simp; omega) | omega) _)⟩, by simp [intOf] <;> omega⟩
          · have HNy : Hid (fsts (l.take (i + 1)) = acc) := (show _ = _ by rw [HNx.out]; unfold fsS; rw [if_pos hhas.symm])
            clear hhas HNx
            go_wp2
            exact ⟨⟨i + 1, by go_num, by omega, (show RowG 35 3 Dv.cs _ _ _ _ from by rw [HNy.out]; exact HR2.out.keep (by with_reducible (repeat' first | assumption | exact Below.refl _ _ | refine Below.drew ?_ | refine bdrewN ?_ _ | refine Below.setCell ?_ (by first | exact Nat.le_refl _ | (simp; done) | (simp; omega) | omega) _ | refine Below.alloc ?_ (by first | exact Nat.le_refl _ | (simp; done) | (simp; omega) | omega) _))), by with_reducible (repeat' first | assumption | exact Below.refl _ _ | refine Below.drew ?_ | refine bdrewN ?_ _ | refine Below.setCell ?_ (by first | exact Nat.le_refl _ | (simp; done) | (simp; omega) | omega) _ | refine Below.alloc ?_ (by first | exact Nat.le_refl _ | (simp; done) | (simp; omega) | omega) _)⟩, by simp [intOf] <;> omega⟩
    · have hin : i = n := by omega
      have hlt' : ¬ (i : Int) < n := by omega
      obtain ⟨own, hown⟩ : ∃ own, own = fsts l := ⟨_, rfl⟩
      have hacc2 : acc = own := by rw [hacc, hin, HN.out, List.take_length, hown]
      subst hacc2
      obtain ⟨wp, hwp⟩ : ∃ wp : World, wp = wr := ⟨_, rfl⟩
      subst hwp
      have HOw : Hid (∀ d ∈ acc, DvW w d) := (show _ from fun d hd => HMem.out d (fsts_mem (by rw [← hown]; exact hd)))
      have HCo : Hid (cst acc ≤ 1048576) := (show _ ≤ _ by rw [hown]; exact Nat.le_trans (fsts_cst l) Hs.out)
      have HCr : Hid (cst acc.reverse ≤ 1048576) := (show _ ≤ _ by rw [cst_rev]; exact HCo.out)
      have HRun : Hid (runE acc.reverse = runE acc) := (show _ = _ by rw [hown]; exact runE_rev l)
      have zz3 := hB.size
      have HDp : Hid (D2w (fun b => b < w.heap.size + 1 ∨ (w2.heap.size ≤ b ∧ b < wp.heap.size)) wp Na [] Nb []) := (show D2w _ _ _ _ _ _ from (HD2.out.fresh (fun b q => q.elim .inl (fun q => .inr q.1))).keep hB)
      have HG : Hid (∀ k, k < m → ∃ g e, qa = some ⟨g, 0, none⟩ ∧ (w2.heap.size ≤ g ∧ g < wp.heap.size) ∧ acc[k]? = some e ∧ wp.cell? ⟨g, k * 3, none⟩ = some (.int .i64 e.r) ∧ wp.cell? ⟨g, k * 3 + 1, none⟩ = some (.int .i64 e.c) ∧ wp.cell? ⟨g, k * 3 + 2, none⟩ = some (.slice e.p e.n e.k)) := (show _ from fun k hk => by
        obtain ⟨g, e, rfl, hg, he, e0, e1, e2⟩ := HAe.out k hk
        exact ⟨g, e, rfl, ⟨(HR.out.lt g rfl).1, hg⟩, he, e0, e1, e2⟩)
      have hBwp : Below w.heap.size w wp := hB2.trans (hB.mono (by omega))
      have oPp : Own wp w.heap.size #[.int .i64 cx, .int .i64 cy] := Own.low oP2 hB (by omega)
      clear HD2 HR HAe hacc hin hown hlt HV HN HAP
      go_wp2
      go_loopw [11] (fun u11 w' => ∃ i : Nat, u11 = .int .i64 i ∧ i ≤ m ∧ Hid (D2w (fun b => b < w.heap.size + 1 ∨ (w2.heap.size ≤ b ∧ b < wp.heap.size)) w' Na (acc.take i) Nb (acc.reverse.take i)) ∧ Hid (Mut (fun b => ¬ (b < w.heap.size + 1 ∨ (w2.heap.size ≤ b ∧ b < wp.heap.size))) wp w')) (fun u11 _ => m - (intOf u11).toNat)
      case atStart => exact ⟨0, rfl, by omega, (show D2w _ _ _ _ _ _ from by rw [List.take_zero, List.take_zero]; exact HDp.out.keep (by with_reducible (repeat' first | assumption | exact Below.refl _ _ | refine Below.drew ?_ | refine bdrewN ?_ _ | refine Below.setCell ?_ (by first | exact Nat.le_refl _ | (simp; done) | (simp; omega) | omega) _ | refine Below.alloc ?_ (by first | exact Nat.le_refl _ | (simp; done) | (simp; omega) | omega) _))), (show Mut _ _ _ from Mut.of_below (by with_reducible (repeat' first | assumption | exact Below.refl _ _ | refine Below.drew ?_ | refine bdrewN ?_ _ | refine Below.setCell ?_ (by first | exact Nat.le_refl _ | (simp; done) | (simp; omega) | omega) _ | refine Below.alloc ?_ (by first | exact Nat.le_refl _ | (simp; done) | (simp; omega) | omega) _)))⟩
      case round =>
        clear HDp
        obtain ⟨i, rfl, hi, HD, HM⟩ := hrel
        have zzr := HM.out.size
        have hBr : Below w.heap.size w wr := hBwp.trans (HM.out.toB hBwp.size (fun b q => .inl (by omega)))
        have oPr : Own wr w.heap.size #[.int .i64 cx, .int .i64 cy] := oPp.mut HM.out (fun q => q (.inl (by omega)))
        by_cases hlt : i < m
        · have hlt' : (i : Int) < m := by omega
          obtain ⟨m1, hm1⟩ : ∃ m1, m = m1 + 1 := ⟨m - 1, by omega⟩
          obtain ⟨j, hj⟩ : ∃ j, m1 = j + i := ⟨m1 - i, by omega⟩
          have hw1 : IntKind.i64.wrap ((m : Int) - 1) = (m1 : Int) := by rw [IntKind.wrap_i64]; omega
          have hw2 : IntKind.i64.wrap ((m1 : Int) - (i : Int)) = (j : Int) := by rw [IntKind.wrap_i64]; omega
          have hjm : j < m := by omega
          have hjm' : (j : Int) < m := by omega
          obtain ⟨g, x, rfl, hg, hx, x0, x1, x2⟩ := HG.out i hlt
          obtain ⟨g', y, hq, hg', hy, y0, y1, y2⟩ := HG.out j hjm
          cases hq
          have hgn : ¬ ¬ (g < w.heap.size + 1 ∨ (w2.heap.size ≤ g ∧ g < wp.heap.size)) := fun q => q (.inr hg)
          have hgr : g < wr.heap.size := by omega
          have cx0 : wr.cell? ⟨g, i * 3, none⟩ = some (.int .i64 x.r) := (cell_mut HM.out (p := ⟨g, i * 3, none⟩) hg.2 hgn).trans x0
          have cx1 : wr.cell? ⟨g, i * 3 + 1, none⟩ = some (.int .i64 x.c) := (cell_mut HM.out (p := ⟨g, i * 3 + 1, none⟩) hg.2 hgn).trans x1
          have cx2 : wr.cell? ⟨g, i * 3 + 2, none⟩ = some (.slice x.p x.n x.k) := (cell_mut HM.out (p := ⟨g, i * 3 + 2, none⟩) hg.2 hgn).trans x2
          have cy0 : wr.cell? ⟨g, j * 3, none⟩ = some (.int .i64 y.r) := (cell_mut HM.out (p := ⟨g, j * 3, none⟩) hg.2 hgn).trans y0
          have cy1 : wr.cell? ⟨g, j * 3 + 1, none⟩ = some (.int .i64 y.c) := (cell_mut HM.out (p := ⟨g, j * 3 + 1, none⟩) hg.2 hgn).trans y1
          have cy2 : wr.cell? ⟨g, j * 3 + 2, none⟩ = some (.slice y.p y.n y.k) := (cell_mut HM.out (p := ⟨g, j * 3 + 2, none⟩) hg.2 hgn).trans y2
          have HTa : Hid (acc.take (i + 1) = acc.take i ++ [x]) := (show _ = _ from take_next hx)
          have hry : acc.reverse[i]? = some y := by
            have hl := HmA.out
            rw [List.getElem?_reverse (by omega), show acc.length - 1 - i = j by omega]
            exact hy
          have HTb : Hid (acc.reverse.take (i + 1) = acc.reverse.take i ++ [y]) := (show _ = _ from take_next hry)
          have HxW : Hid (DvW w x) := HOw.out x (List.mem_of_getElem? hx)
          have HyW : Hid (DvW w y) := HOw.out y (List.mem_of_getElem? hy)
          have HF3 : Hid (∀ W, Below wr.heap.size wr W → D2w (fun b => (b < w.heap.size + 1 ∨ (w2.heap.size ≤ b ∧ b < wp.heap.size)) ∨ (wr.heap.size ≤ b ∧ b < wr.heap.size + 2)) W Na (acc.take i) Nb (acc.reverse.take i)) := (show _ from fun W hb => (HD.out.fresh (fun b q => q.elim .inl (fun q => .inr q.1))).keep hb)
          have HF3b : Hid (∀ (W : World) b, wr.heap.size + 2 ≤ W.heap.size → (fun b => (b < w.heap.size + 1 ∨ (w2.heap.size ≤ b ∧ b < wp.heap.size)) ∨ (wr.heap.size ≤ b ∧ b < wr.heap.size + 2)) b → b < W.heap.size) := (show _ from fun W b h q => by rcases q with (q | q) | q <;> omega)
          have HF3a : Hid (∀ b, b < w.heap.size → (fun b => (b < w.heap.size + 1 ∨ (w2.heap.size ≤ b ∧ b < wp.heap.size)) ∨ (wr.heap.size ≤ b ∧ b < wr.heap.size + 2)) b) := (show _ from fun b q => .inl (.inl (by omega)))
          have HSa : Hid (∀ W, Below wr.heap.size wr W → wr.heap.size + 2 ≤ W.heap.size → Calls Tryz.prog 11 #[.pointer (some ⟨Na, 0, none⟩), .agg #[.int .i64 x.r, .int .i64 x.c], .slice x.p x.n x.k] W fun e w' => e = .returned (.int .i64 x.err) ∧ D2w (fun b => (b < w.heap.size + 1 ∨ (w2.heap.size ≤ b ∧ b < wp.heap.size)) ∨ (wr.heap.size ≤ b ∧ b < wr.heap.size + 2)) w' Na (acc.take (i + 1)) Nb (acc.reverse.take i) ∧ Mut (fun b => ¬ (fun b => (b < w.heap.size + 1 ∨ (w2.heap.size ≤ b ∧ b < wp.heap.size)) ∨ (wr.heap.size ≤ b ∧ b < wr.heap.size + 2)) b) W w') := (show _ from fun W hb hz => by
            rw [HTa.out]
            exact dset_two w W (fun b => (b < w.heap.size + 1 ∨ (w2.heap.size ≤ b ∧ b < wp.heap.size)) ∨ (wr.heap.size ≤ b ∧ b < wr.heap.size + 2)) Na Nb _ _ x (HF3.out W hb) HxW.out HF3a.out (fun b q => HF3b.out W b hz q) (bup hBr (hb.mono (Nat.le_refl _)) |> fun q => q) (by rw [← HTa.out]; exact Nat.le_trans (cst_le _ _) HCo.out))
          have HSb : Hid (∀ W, D2w (fun b => (b < w.heap.size + 1 ∨ (w2.heap.size ≤ b ∧ b < wp.heap.size)) ∨ (wr.heap.size ≤ b ∧ b < wr.heap.size + 2)) W Na (acc.take (i + 1)) Nb (acc.reverse.take i) → Below w.heap.size w W → wr.heap.size + 2 ≤ W.heap.size → Calls Tryz.prog 11 #[.pointer (some ⟨Nb, 0, none⟩), .agg #[.int .i64 y.r, .int .i64 y.c], .slice y.p y.n y.k] W fun e w' => e = .returned (.int .i64 y.err) ∧ D2w (fun b => b < w.heap.size + 1 ∨ (w2.heap.size ≤ b ∧ b < wp.heap.size)) w' Na (acc.take (i + 1)) Nb (acc.reverse.take (i + 1)) ∧ Mut (fun b => ¬ (fun b => (b < w.heap.size + 1 ∨ (w2.heap.size ≤ b ∧ b < wp.heap.size)) ∨ (wr.heap.size ≤ b ∧ b < wr.heap.size + 2)) b) W w') := (show _ from fun W h hb hz => by
            rw [HTb.out]
            refine (dset_two w W (fun b => (b < w.heap.size + 1 ∨ (w2.heap.size ≤ b ∧ b < wp.heap.size)) ∨ (wr.heap.size ≤ b ∧ b < wr.heap.size + 2)) Nb Na _ _ y h.swap HyW.out HF3a.out (fun b q => HF3b.out W b hz q) hb (by rw [← HTb.out]; exact Nat.le_trans (cst_le _ _) HCr.out)).mono ?_
            rintro e w' ⟨rfl, k1, k2⟩
            exact ⟨rfl, k1.swap.fresh (fun b q => .inl (.inl q)), k2⟩)
          clear hx hy hry hm1 hj
          go_wp2_with (first
            | (go_at_call 11; clear t3; refine (HSa.out _ (by with_reducible (repeat' first | assumption | exact Below.refl _ _ | refine Below.drew ?_ | refine bdrewN ?_ _ | refine Below.setCell ?_ (by first | exact Nat.le_refl _ | (simp; done) | (simp; omega) | omega) _ | refine Below.alloc ?_ (by first | exact Nat.le_refl _ | (simp; done) | (simp; omega) | omega) _)) (by simp)).mono ?_; rintro e wa ⟨rfl, q1, q2⟩; have HDa : Hid (D2w (fun b => (b < w.heap.size + 1 ∨ (w2.heap.size ≤ b ∧ b < wp.heap.size)) ∨ (wr.heap.size ≤ b ∧ b < wr.heap.size + 2)) wa Na (acc.take (i + 1)) Nb (acc.reverse.take i)) := q1; have HMa : Hid (Mut (fun b => ¬ (b < w.heap.size + 1 ∨ (w2.heap.size ≤ b ∧ b < wp.heap.size))) wp wa) := (show Mut _ _ _ from (Mut.below HM.out (by with_reducible (repeat' first | assumption | exact Below.refl _ _ | refine Below.drew ?_ | refine bdrewN ?_ _ | refine Below.setCell ?_ (by first | exact Nat.le_refl _ | (simp; done) | (simp; omega) | omega) _ | refine Below.alloc ?_ (by first | exact Nat.le_refl _ | (simp; done) | (simp; omega) | omega) _))).call q2 (fun b q => .inl (fun p => q (.inl p)))); have hBa : Below w.heap.size w wa := hBwp.trans (HMa.out.toB hBwp.size (fun b q => .inl (by omega))); have oYa : Own wa (wr.heap.size + 1) #[.int .i64 y.r, .int .i64 y.c, .slice y.p y.n y.k] := Own.mut (by with_reducible (repeat' first | assumption | refine Own.drew ?_ | refine Own.drewN ?_ _ | (refine Own.at ?_; first | rfl | (simp; done)) | refine Own.past ?_ _)) q2 (fun q => q (.inr ⟨by omega, by omega⟩)); have ya0 : wa.cell? ⟨wr.heap.size + 1, 0, none⟩ = some (.int .i64 y.r) := oYa.cell 0; have ya1 : wa.cell? ⟨wr.heap.size + 1, 1, none⟩ = some (.int .i64 y.c) := oYa.cell 1; have ya2 : wa.cell? ⟨wr.heap.size + 1, 2, none⟩ = some (.slice y.p y.n y.k) := oYa.cell 2; have zwa : wr.heap.size + 2 ≤ wa.heap.size := (by simpa using q2.size); have lya := oYa.lt; clear q1 q2)
            | (go_at_call 11; clear t4; refine (HSb.out _ (HDa.out.keep (by with_reducible (repeat' first | assumption | exact Below.refl _ _ | refine Below.drew ?_ | refine bdrewN ?_ _ | refine Below.setCell ?_ (by first | exact Nat.le_refl _ | (simp; done) | (simp; omega) | omega) _ | refine Below.alloc ?_ (by first | exact Nat.le_refl _ | (simp; done) | (simp; omega) | omega) _))) (by with_reducible (repeat' first | assumption | exact Below.refl _ _ | refine Below.drew ?_ | refine bdrewN ?_ _ | refine Below.setCell ?_ (by first | exact Nat.le_refl _ | (simp; done) | (simp; omega) | omega) _ | refine Below.alloc ?_ (by first | exact Nat.le_refl _ | (simp; done) | (simp; omega) | omega) _)) (by simpa using zwa)).mono ?_; rintro e wb ⟨rfl, q1, q2⟩; have HDb : Hid (D2w (fun b => b < w.heap.size + 1 ∨ (w2.heap.size ≤ b ∧ b < wp.heap.size)) wb Na (acc.take (i + 1)) Nb (acc.reverse.take (i + 1))) := q1; have HMb : Hid (Mut (fun b => ¬ (b < w.heap.size + 1 ∨ (w2.heap.size ≤ b ∧ b < wp.heap.size))) wp wb) := (show Mut _ _ _ from (Mut.below HMa.out (by with_reducible (repeat' first | assumption | exact Below.refl _ _ | refine Below.drew ?_ | refine bdrewN ?_ _ | refine Below.setCell ?_ (by first | exact Nat.le_refl _ | (simp; done) | (simp; omega) | omega) _ | refine Below.alloc ?_ (by first | exact Nat.le_refl _ | (simp; done) | (simp; omega) | omega) _))).call q2 (fun b q => .inl (fun p => q (.inl p)))); clear q1 q2))
          exact ⟨⟨i + 1, by go_num, by omega, (show D2w _ _ _ _ _ _ from HDb.out.keep (by with_reducible (repeat' first | assumption | exact Below.refl _ _ | refine Below.drew ?_ | refine bdrewN ?_ _ | refine Below.setCell ?_ (by first | exact Nat.le_refl _ | (simp; done) | (simp; omega) | omega) _ | refine Below.alloc ?_ (by first | exact Nat.le_refl _ | (simp; done) | (simp; omega) | omega) _))), (show Mut _ _ _ from Mut.below HMb.out (by with_reducible (repeat' first | assumption | exact Below.refl _ _ | refine Below.drew ?_ | refine bdrewN ?_ _ | refine Below.setCell ?_ (by first | exact Nat.le_refl _ | (simp; done) | (simp; omega) | omega) _ | refine Below.alloc ?_ (by first | exact Nat.le_refl _ | (simp; done) | (simp; omega) | omega) _)))⟩, by simp [intOf] <;> omega⟩
        · have hlt' : ¬ (i : Int) < m := by omega
          have him : i = m := by omega
          have HDf : Hid (D2w (fun b => b < w.heap.size + 1 ∨ (w2.heap.size ≤ b ∧ b < wp.heap.size)) wr Na acc Nb acc.reverse) := (show D2w _ _ _ _ _ _ from by
            have q := HD.out
            rw [him, HmA.out, List.take_length] at q
            rwa [show acc.reverse.take acc.length = acc.reverse by rw [← List.length_reverse]; exact List.take_length] at q)
          have be0 : wr.cell? ⟨w.heap.size, 0, none⟩ = some (.int .i64 cx) := oPr.cell 0
          have be1 : wr.cell? ⟨w.heap.size, 1, none⟩ = some (.int .i64 cy) := oPr.cell 1
          have hwz : w.heap.size < wr.heap.size := oPr.lt
          clear HD him HG HM hlt
          go_wp2_with (first
    | (go_at_call 18; clear t5; refine (HEd.out _ _ Na acc (HDf.out.fst.keep (by with_reducible (repeat' first | assumption | exact Below.refl _ _ | refine Below.drew ?_ | refine bdrewN ?_ _ | refine Below.setCell ?_ (by first | exact Nat.le_refl _ | (simp; done) | (simp; omega) | omega) _ | refine Below.alloc ?_ (by first | exact Nat.le_refl _ | (simp; done) | (simp; omega) | omega) _))) HCo.out).mono ?_; rintro xc wc ⟨vc, rfl, kc, q1, q2, q3⟩; have HRc : Hid (VL 7 Ed.cs wc vc kc) := RowG.vl Ed.len q1; have HIc : Hid (IsEdg (runE acc) kc) := q2; have hBc : Below wr.heap.size wr wc := bup (by with_reducible (repeat' first | assumption | exact Below.refl _ _ | refine Below.drew ?_ | refine bdrewN ?_ _ | refine Below.setCell ?_ (by first | exact Nat.le_refl _ | (simp; done) | (simp; omega) | omega) _ | refine Below.alloc ?_ (by first | exact Nat.le_refl _ | (simp; done) | (simp; omega) | omega) _)) q3; clear q1 q2 q3)
    | (go_at_call 18; clear t6; refine (HEd.out _ _ Nb acc.reverse (HDf.out.snd.keep (by with_reducible (repeat' first | assumption | exact Below.refl _ _ | refine Below.drew ?_ | refine bdrewN ?_ _ | refine Below.setCell ?_ (by first | exact Nat.le_refl _ | (simp; done) | (simp; omega) | omega) _ | refine Below.alloc ?_ (by first | exact Nat.le_refl _ | (simp; done) | (simp; omega) | omega) _))) HCr.out).mono ?_; rintro xd wd ⟨vd, rfl, kd, q1, q2, q3⟩; have hkd : kd = kc := IsEdg.uniq (by rw [HRun.out] at q2; exact q2) HIc.out; subst hkd; have HRd : Hid (VL 7 Ed.cs wd vd kd) := RowG.vl Ed.len q1; have hBd : Below wr.heap.size wr wd := bup (by with_reducible (repeat' first | assumption | exact Below.refl _ _ | refine Below.drew ?_ | refine bdrewN ?_ _ | refine Below.setCell ?_ (by first | exact Nat.le_refl _ | (simp; done) | (simp; omega) | omega) _ | refine Below.alloc ?_ (by first | exact Nat.le_refl _ | (simp; done) | (simp; omega) | omega) _)) q3; have HRc2 : Hid (VL 7 Ed.cs wd vc kd) := (show VL _ _ _ _ _ from (HRc.out.keep (by with_reducible (repeat' first | assumption | exact Below.refl _ _ | refine Below.drew ?_ | refine bdrewN ?_ _ | refine Below.setCell ?_ (by first | exact Nat.le_refl _ | (simp; done) | (simp; omega) | omega) _ | refine Below.alloc ?_ (by first | exact Nat.le_refl _ | (simp; done) | (simp; omega) | omega) _))).keep q3); clear q1 q2 q3)
    | (go_at_call 17; clear t7; refine (ledges_any _ vc vd kd (HRc2.out.keep (by with_reducible (repeat' first | assumption | exact Below.refl _ _ | refine Below.drew ?_ | refine bdrewN ?_ _ | refine Below.setCell ?_ (by first | exact Nat.le_refl _ | (simp; done) | (simp; omega) | omega) _ | refine Below.alloc ?_ (by first | exact Nat.le_refl _ | (simp; done) | (simp; omega) | omega) _))) (HRd.out.keep (by with_reducible (repeat' first | assumption | exact Below.refl _ _ | refine Below.drew ?_ | refine bdrewN ?_ _ | refine Below.setCell ?_ (by first | exact Nat.le_refl _ | (simp; done) | (simp; omega) | omega) _ | refine Below.alloc ?_ (by first | exact Nat.le_refl _ | (simp; done) | (simp; omega) | omega) _)))).mono ?_; rintro xe we ⟨rfl, q1⟩; have hBe : Below wr.heap.size wr we := bup (by with_reducible (repeat' first | assumption | exact Below.refl _ _ | refine Below.drew ?_ | refine bdrewN ?_ _ | refine Below.setCell ?_ (by first | exact Nat.le_refl _ | (simp; done) | (simp; omega) | omega) _ | refine Below.alloc ?_ (by first | exact Nat.le_refl _ | (simp; done) | (simp; omega) | omega) _)) q1; clear q1)
    | (go_at_call 20; clear t8; refine (HBk.out _ _ Na acc (HDf.out.fst.keep (by with_reducible (repeat' first | assumption | exact Below.refl _ _ | refine Below.drew ?_ | refine bdrewN ?_ _ | refine Below.setCell ?_ (by first | exact Nat.le_refl _ | (simp; done) | (simp; omega) | omega) _ | refine Below.alloc ?_ (by first | exact Nat.le_refl _ | (simp; done) | (simp; omega) | omega) _))) HCo.out).mono ?_; rintro xf wf ⟨vf, rfl, kf, q1, q2, q3⟩; have HRf : Hid (VL 7 Ed.cs wf vf kf) := RowG.vl Ed.len q1; have HIf : Hid (IsEdg (runE acc) kf) := q2; have hBf : Below wr.heap.size wr wf := bup (by with_reducible (repeat' first | assumption | exact Below.refl _ _ | refine Below.drew ?_ | refine bdrewN ?_ _ | refine Below.setCell ?_ (by first | exact Nat.le_refl _ | (simp; done) | (simp; omega) | omega) _ | refine Below.alloc ?_ (by first | exact Nat.le_refl _ | (simp; done) | (simp; omega) | omega) _)) q3; clear q1 q2 q3)
    | (go_at_call 20; clear t9; refine (HBk.out _ _ Nb acc.reverse (HDf.out.snd.keep (by with_reducible (repeat' first | assumption | exact Below.refl _ _ | refine Below.drew ?_ | refine bdrewN ?_ _ | refine Below.setCell ?_ (by first | exact Nat.le_refl _ | (simp; done) | (simp; omega) | omega) _ | refine Below.alloc ?_ (by first | exact Nat.le_refl _ | (simp; done) | (simp; omega) | omega) _))) HCr.out).mono ?_; rintro xg wg ⟨vg, rfl, kg, q1, q2, q3⟩; have hkg : kg = kf := IsEdg.uniq (by rw [HRun.out] at q2; exact q2) HIf.out; subst hkg; have HRg : Hid (VL 7 Ed.cs wg vg kg) := RowG.vl Ed.len q1; have hBg : Below wr.heap.size wr wg := bup (by with_reducible (repeat' first | assumption | exact Below.refl _ _ | refine Below.drew ?_ | refine bdrewN ?_ _ | refine Below.setCell ?_ (by first | exact Nat.le_refl _ | (simp; done) | (simp; omega) | omega) _ | refine Below.alloc ?_ (by first | exact Nat.le_refl _ | (simp; done) | (simp; omega) | omega) _)) q3; have HRf2 : Hid (VL 7 Ed.cs wg vf kg) := (show VL _ _ _ _ _ from (HRf.out.keep (by with_reducible (repeat' first | assumption | exact Below.refl _ _ | refine Below.drew ?_ | refine bdrewN ?_ _ | refine Below.setCell ?_ (by first | exact Nat.le_refl _ | (simp; done) | (simp; omega) | omega) _ | refine Below.alloc ?_ (by first | exact Nat.le_refl _ | (simp; done) | (simp; omega) | omega) _))).keep q3); clear q1 q2 q3)
    | (go_at_call 17; clear t10; refine (ledges_any _ vf vg kg (HRf2.out.keep (by with_reducible (repeat' first | assumption | exact Below.refl _ _ | refine Below.drew ?_ | refine bdrewN ?_ _ | refine Below.setCell ?_ (by first | exact Nat.le_refl _ | (simp; done) | (simp; omega) | omega) _ | refine Below.alloc ?_ (by first | exact Nat.le_refl _ | (simp; done) | (simp; omega) | omega) _))) (HRg.out.keep (by with_reducible (repeat' first | assumption | exact Below.refl _ _ | refine Below.drew ?_ | refine bdrewN ?_ _ | refine Below.setCell ?_ (by first | exact Nat.le_refl _ | (simp; done) | (simp; omega) | omega) _ | refine Below.alloc ?_ (by first | exact Nat.le_refl _ | (simp; done) | (simp; omega) | omega) _)))).mono ?_; rintro xh wh ⟨rfl, q1⟩; have hBh : Below wr.heap.size wr wh := bup (by with_reducible (repeat' first | assumption | exact Below.refl _ _ | refine Below.drew ?_ | refine bdrewN ?_ _ | refine Below.setCell ?_ (by first | exact Nat.le_refl _ | (simp; done) | (simp; omega) | omega) _ | refine Below.alloc ?_ (by first | exact Nat.le_refl _ | (simp; done) | (simp; omega) | omega) _)) q1; clear q1))
          have hwh : w.heap.size < wh.heap.size := Nat.lt_of_lt_of_le hwz hBh.size
          have bh0 : wh.cell? ⟨w.heap.size, 0, none⟩ = some (.int .i64 cx) := (hBh.cell (p := ⟨w.heap.size, 0, none⟩) hwz).trans be0
          have bh1 : wh.cell? ⟨w.heap.size, 1, none⟩ = some (.int .i64 cy) := (hBh.cell (p := ⟨w.heap.size, 1, none⟩) hwz).trans be1
          go_region_held3 (fun w' => w'.cell? ⟨w.heap.size, 0, none⟩ = some (.int .i64 cx) ∧ w'.cell? ⟨w.heap.size, 1, none⟩ = some (.int .i64 cy)) ((repeat' apply And.intro) <;> (first | (go_keep; done) | (go_simp; done))) (first
            | (go_at_call 15; clear t11; refine (HDi.out _ _ Na acc (HDf.out.fst.keep (by with_reducible (repeat' first | assumption | exact Below.refl _ _ | refine Below.drew ?_ | refine bdrewN ?_ _ | refine Below.setCell ?_ (by first | exact Nat.le_refl _ | (simp; done) | (simp; omega) | omega) _ | refine Below.alloc ?_ (by first | exact Nat.le_refl _ | (simp; done) | (simp; omega) | omega) _)))).mono ?_; rintro xp wp ⟨vp, rfl, kp1, q1, q2, q3⟩; have HIp : Hid (IsWho (runE acc) cx cy kp1) := q2; have HRp : Hid (VL 2 Cl.cs wp vp kp1) := RowG.vl Cl.len q1; have hBp : Below wr.heap.size wr wp := bup (by with_reducible (repeat' first | assumption | exact Below.refl _ _ | refine Below.drew ?_ | refine bdrewN ?_ _ | refine Below.setCell ?_ (by first | exact Nat.le_refl _ | (simp; done) | (simp; omega) | omega) _ | refine Below.alloc ?_ (by first | exact Nat.le_refl _ | (simp; done) | (simp; omega) | omega) _)) q3; have bp0 : wp.cell? ⟨w.heap.size, 0, none⟩ = some (.int .i64 cx) := (hBp.cell (p := ⟨w.heap.size, 0, none⟩) hwz).trans be0; have bp1 : wp.cell? ⟨w.heap.size, 1, none⟩ = some (.int .i64 cy) := (hBp.cell (p := ⟨w.heap.size, 1, none⟩) hwz).trans be1; clear q1 q3)
            | (go_at_call 15; clear t12; refine (HDi.out _ _ Nb acc.reverse (HDf.out.snd.keep (by with_reducible (repeat' first | assumption | exact Below.refl _ _ | refine Below.drew ?_ | refine bdrewN ?_ _ | refine Below.setCell ?_ (by first | exact Nat.le_refl _ | (simp; done) | (simp; omega) | omega) _ | refine Below.alloc ?_ (by first | exact Nat.le_refl _ | (simp; done) | (simp; omega) | omega) _)))).mono ?_; rintro xq wq ⟨vq, rfl, kq, q1, q2, q3⟩; have hkq : kq = kp1 := IsWho.uniq (by rw [HRun.out] at q2; exact q2) HIp.out; subst hkq; have HRq : Hid (VL 2 Cl.cs wq vq kq) := RowG.vl Cl.len q1; have hBq : Below wr.heap.size wr wq := bup (by with_reducible (repeat' first | assumption | exact Below.refl _ _ | refine Below.drew ?_ | refine bdrewN ?_ _ | refine Below.setCell ?_ (by first | exact Nat.le_refl _ | (simp; done) | (simp; omega) | omega) _ | refine Below.alloc ?_ (by first | exact Nat.le_refl _ | (simp; done) | (simp; omega) | omega) _)) q3; have HRp2 : Hid (VL 2 Cl.cs wq vp kq) := (show VL _ _ _ _ _ from (HRp.out.keep (by with_reducible (repeat' first | assumption | exact Below.refl _ _ | refine Below.drew ?_ | refine bdrewN ?_ _ | refine Below.setCell ?_ (by first | exact Nat.le_refl _ | (simp; done) | (simp; omega) | omega) _ | refine Below.alloc ?_ (by first | exact Nat.le_refl _ | (simp; done) | (simp; omega) | omega) _))).keep q3); have bq0 : wq.cell? ⟨w.heap.size, 0, none⟩ = some (.int .i64 cx) := (hBq.cell (p := ⟨w.heap.size, 0, none⟩) hwz).trans be0; have bq1 : wq.cell? ⟨w.heap.size, 1, none⟩ = some (.int .i64 cy) := (hBq.cell (p := ⟨w.heap.size, 1, none⟩) hwz).trans be1; clear q1 q3)
            | (go_at_call 14; refine (lcells_any _ vp vq kq (HRp2.out.keep (by with_reducible (repeat' first | assumption | exact Below.refl _ _ | refine Below.drew ?_ | refine bdrewN ?_ _ | refine Below.setCell ?_ (by first | exact Nat.le_refl _ | (simp; done) | (simp; omega) | omega) _ | refine Below.alloc ?_ (by first | exact Nat.le_refl _ | (simp; done) | (simp; omega) | omega) _))) (HRq.out.keep (by with_reducible (repeat' first | assumption | exact Below.refl _ _ | refine Below.drew ?_ | refine bdrewN ?_ _ | refine Below.setCell ?_ (by first | exact Nat.le_refl _ | (simp; done) | (simp; omega) | omega) _ | refine Below.alloc ?_ (by first | exact Nat.le_refl _ | (simp; done) | (simp; omega) | omega) _)))).mono ?_; rintro xs ws ⟨rfl, q1⟩; have hBs : Below wr.heap.size wr ws := bup (by with_reducible (repeat' first | assumption | exact Below.refl _ _ | refine Below.drew ?_ | refine bdrewN ?_ _ | refine Below.setCell ?_ (by first | exact Nat.le_refl _ | (simp; done) | (simp; omega) | omega) _ | refine Below.alloc ?_ (by first | exact Nat.le_refl _ | (simp; done) | (simp; omega) | omega) _)) q1; have bs0 : ws.cell? ⟨w.heap.size, 0, none⟩ = some (.int .i64 cx) := (hBs.cell (p := ⟨w.heap.size, 0, none⟩) hwz).trans be0; have bs1 : ws.cell? ⟨w.heap.size, 1, none⟩ = some (.int .i64 cy) := (hBs.cell (p := ⟨w.heap.size, 1, none⟩) hwz).trans be1; clear q1))
          have hBsw : Below w.heap.size w ws := hBr.trans (hBs.mono hBr.size)
          go_wp2_with (go_at_call 19; refine (lives_any _).mono ?_; rintro xf wl ⟨rfl, q1⟩; have hBl : Below w.heap.size w wl := bup (by with_reducible (repeat' first | assumption | exact Below.refl _ _ | refine Below.drew ?_ | refine bdrewN ?_ _ | refine Below.setCell ?_ (by first | exact Nat.le_refl _ | (simp; done) | (simp; omega) | omega) _ | refine Below.alloc ?_ (by first | exact Nat.le_refl _ | (simp; done) | (simp; omega) | omega) _)) q1; clear q1)
          go_ret
          exact ⟨rfl, hBl⟩
end Go.Proofs.YtgojnijpjfdocaaGreat
