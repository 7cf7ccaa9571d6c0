/- The contract of All. New memory alone is made. -/
import Derived.Test.YtgojnijpjfdocaaGreatCB
import Derived.Deep.AppendLies
import Derived.Test.YtgojnijpjfdocaaGreatBDs
namespace Go.Proofs.YtgojnijpjfdocaaGreat
open Go.RowKit
set_option linter.all false
theorem RowG.view {α : Type} {E : TypeId} {sz : Nat} {cs : α → List Value} {w : World} {base : Nat} {v : Value} {l : List α} (hc : ∀ x, (cs x).length = sz) (h : RowG E sz cs w base v l) : ∃ q cap, v = .slice q l.length cap ∧ l.length ≤ cap ∧ cap ≤ 9223372036854775807 ∧ (0 < l.length → ∃ g, q = some ⟨g, 0, none⟩ ∧ g < w.heap.size ∧ ∀ i x, l[i]? = some x → ∀ j u, (cs x)[j]? = some u → w.cell? ⟨g, i * sz + j, none⟩ = some u) := by
  rcases h.two with ⟨rfl, rfl⟩ | ⟨g, cap, cur, rfl, _, h1, h2, h3, h4, h5, h6⟩
  · exact ⟨none, 0, rfl, Nat.le_refl _, Nat.zero_le _, fun q => absurd q (by simp)⟩
  · exact ⟨_, cap, rfl, h3, by unfold maxLen at h4; omega, fun _ => ⟨g, rfl, h1, fun i x hi j u hu => row_cellsG hc h2 h6 i x j u hi hu⟩⟩
theorem heap_at {W : World} {o : Obj} {n : Nat} (h : n = W.heap.size) : (W.alloc o).heap[n]? = some o := by subst h; exact heap_alloc_new _ _
theorem step_appx {ops : Array Oper} {o : Oper} {a : Act} {w : World} {K : Act → World → Prop} {Q : Exit → Act → World → Prop} {E : Prop} {Φ : Value → World → Prop}
    (hg : o.guard = none) (d x : Operand) (dT sT : TypeId) (hop : o.op = Op.call { callee := Callee.builtin Builtin.append, args := #[d, x], argTypes := #[dT, sT] })
    (v u : Value) (hd : a.eval d = v) (hx : a.eval x = u) (H : ∀ ty, ∃ v' w', (Builtin.append_ #[dT, sT] ty #[v, u]).run Tryz.prog w = .ok v' w' ∧ Φ v' w') (hK : ∀ v' w', Φ v' w' → K (a.put o.dst v') w') :
    if Region.wanted o (yielded ops a.tmps) = true then Oper.wp Tryz.prog o a w K Q else E := by
  obtain ⟨v', w', hr, hq⟩ := H o.type
  exact step_apps hg d x dT sT hop v u hd hx hr (hK v' w' hq)
/-- What is read of the bands: a crowd's seats, their lookers' cells and rectangles. -/
def SeatV (w : World) (D : Nat → Option Tag) (P : List Pr) (s : Seat) : Prop := s.g < w.heap.size ∧ w.cell? ⟨s.g, 0, none⟩ = some (.int .i64 (rOf D s.g)) ∧ w.cell? ⟨s.g, 1, none⟩ = some (.int .i64 (cOf D s.g)) ∧ ∃ vk, w.cell? ⟨s.g, 2, none⟩ = some vk ∧ RowR w vk (rectsAt P (rOf D s.g) (cOf D s.g))
theorem Bd.crowd {w : World} {N : Nat} {D : Nat → Option Tag} {P : List Pr} {m : Nat} (h : Bd w N D P m) {j : Nat} (hj : j < 65) : ∃ K n v l, w.cell? ⟨N, j, none⟩ = some v ∧ RowS w v l ∧ CrowdOK D K l n ∧ (∀ r c, n r c = cnt j P r c) ∧ (∀ s ∈ l, SeatV w D P s) ∧ N < w.heap.size ∧ l.length ≤ 1048576 := by
  obtain ⟨K, NN, h1, h2, h3, h4⟩ := h.mw
  obtain ⟨A, v, l, a1, a2, a3, a4, a5, a6, a7, a8⟩ := h1.crow hj
  refine ⟨K, NN j, v, l, (a1.cell j).trans a2, a3, a5, fun r c => h4 j r c hj, fun s hs => ?_, h1.lt, h1.seats a5⟩
  obtain ⟨r, c, k, e1, e2, e3, e4, e5⟩ := a5.who s hs
  have hlo := h1.lo r c k e1
  have ho := hlo.own
  rw [e2] at ho
  unfold SeatV
  rw [(rOf_of e3).1, (rOf_of e3).2]
  have hne : rectsAt P r c ≠ [] := fun q => by
    rw [h4 j r c hj] at e5
    unfold cnt at e5
    rw [q] at e5
    cases e5
  obtain ⟨k', f1, f2⟩ := h3 r c hne
  rw [e1] at f1
  injection f1 with f1
  subst f1
  exact ⟨ho.lt, ho.cell 0, ho.cell 1, k.v, ho.cell 2, by rw [← f2]; exact hlo.row⟩
set_option maxRecDepth 100000 in
set_option maxHeartbeats 8000000 in
theorem ball_any (w : World) (N : Nat) (D : Nat → Option Tag) (P : List Pr) (m : Nat) (h : Bd w N D P m) (hb : P.length * 56 ≤ 140737488355328) : Calls Tryz.prog 61 #[.pointer (some ⟨N, 0, none⟩)] w fun e w' => ∃ v, e = .returned v ∧ RowE w' w.heap.size v P ∧ Below w.heap.size w w' := by
  have mixed : Tryz.prog.follows .mixedOrders = true := by kernel_rfl
  obtain ⟨K, nn, v0, l, y0, hr, hc, hn, hS0, hNl, _⟩ := h.crowd (j := 0) (by omega)
  have HP : Hid (l.flatMap (seatP D P) = P) := all_pairs h.srt hc hn
  obtain ⟨q, cap, rfl, hcap, hcm, hV0⟩ := hr.view Seat.len
  have HS : Hid (∀ s ∈ l, SeatV w D P s) := hS0
  have HV : Hid _ := hV0
  obtain ⟨n, hnn⟩ : ∃ n, n = l.length := ⟨_, rfl⟩
  rw [← hnn] at hcap y0 HV
  have HN : Hid (n = l.length) := hnn
  obtain ⟨i0, hi0, hz0, hzs, hzb⟩ := info_parts infoEdge
  have HAP : Hid (∀ W (v : Value) (L : List Pr) vb (x : Pr), RowE W w.heap.size v L → W.heap[vb]? = some (.cells x.cs.toArray 52 (0, 0)) → w.heap.size ≤ W.heap.size → (L.length + 1) * 56 ≤ 140737488355328 → ∀ ty, ∃ v' w', (Builtin.append_ #[27, 27] ty #[v, .slice (some ⟨vb, 0, none⟩) 1 1]).run Tryz.prog W = .ok v' w' ∧ RowE w' w.heap.size v' (L ++ [x]) ∧ Below w.heap.size W w' ∧ (v'.ownBlock = v.ownBlock ∨ v'.ownBlock = some W.heap.size) ∧ Mut (fun b => v.ownBlock = some b) W w') := (show _ from fun W v L vb x r1 r2 r3 r4 ty => app_one Tryz.underlying27 hi0 hz0 hzs hzb rfl (by omega) Pr.len Pr.one r1 r2 r3 r4 (by omega) ty)
  clear hnn hS0 hV0 hr hc hn h hi0 hz0 hzs hzb i0
  go_enter Tryz.func61, Tryz.ntmps61
  go_wp2
  go_loopw [3, 13] (fun u v w' => ∃ i : Nat, v = .int .i64 i ∧ i ≤ n ∧ Hid (RowE w' w.heap.size u ((l.take i).flatMap (seatP D P))) ∧ Below w.heap.size w w') (fun _ v _ => n - (intOf v).toNat)
  case atStart => exact ⟨0, rfl, by omega, (show RowE _ _ _ _ from RowG.nil _), by with_reducible (repeat' first | assumption | exact Below.refl _ _ | refine Below.drew ?_ | refine bdrewN ?_ _ | refine Below.setCell ?_ (by first | exact Nat.le_refl _ | (simp; done) | (simp; omega) | omega) _ | refine Below.alloc ?_ (by first | exact Nat.le_refl _ | (simp; done) | (simp; omega) | omega) _)⟩
  case round =>
    obtain ⟨i, rfl, hi, HR, hB⟩ := hrel
    by_cases hlt : i < n
    · have hlt' : (i : Int) < n := by omega
      obtain ⟨g, rfl, hgl, hcell⟩ := HV.out (by omega)
      obtain ⟨s, hs⟩ : ∃ s, l[i]? = some s := ⟨_, List.getElem?_eq_getElem (by rw [← HN.out]; omega)⟩
      obtain ⟨s0, s1, s2, vk, s3, s4⟩ := HS.out s (List.mem_of_getElem? hs)
      obtain ⟨qk, capk, rfl, hck, hcmk, hVk⟩ := s4.view Rct.len
      have x0 : wr.cell? ⟨g, i * 2, none⟩ = some (.pointer (some ⟨s.g, 0, none⟩)) := (hB.cell (p := ⟨g, i * 2, none⟩) hgl).trans (hcell i s hs 0 _ rfl)
      have x1 : wr.cell? ⟨g, i * 2 + 1, none⟩ = some (.int .i64 s.n) := (hB.cell (p := ⟨g, i * 2 + 1, none⟩) hgl).trans (hcell i s hs 1 _ rfl)
      have z2 := (hB.cell (p := ⟨s.g, 2, none⟩) s0).trans s3
      have hwz := hB.size
      have hsl : s.g < wr.heap.size := by omega
      obtain ⟨R, hR⟩ : ∃ R, R = rectsAt P (rOf D s.g) (cOf D s.g) := ⟨_, rfl⟩
      rw [← hR] at hck hVk z2 s3
      have HVk : Hid _ := hVk
      obtain ⟨L0, hL0⟩ : ∃ L0, L0 = (l.take i).flatMap (seatP D P) := ⟨_, rfl⟩
      rw [← hL0] at HR
      have HL1 : Hid ((l.take (i + 1)).flatMap (seatP D P) = L0 ++ R.map (mkP (rOf D s.g) (cOf D s.g))) := (show (l.take (i + 1)).flatMap (seatP D P) = _ by
        rw [List.take_succ, hs, List.flatMap_append, ← hL0, hR]
        simp [seatP])
      have HLen : Hid (L0.length + R.length ≤ P.length) := (show L0.length + R.length ≤ P.length by
        have e := HP.out
        rw [← List.take_append_drop (i + 1) l, List.flatMap_append, HL1.out] at e
        have := congrArg List.length e
        simp only [List.length_append, List.length_map] at this
        omega)
      generalize rOf D s.g = sr at *
      generalize cOf D s.g = sc at *
      obtain ⟨nk, hnk⟩ : ∃ nk, nk = R.length := ⟨_, rfl⟩
      rw [← hnk] at hck z2 HVk HLen
      have HNk : Hid (nk = R.length) := hnk
      obtain ⟨sg, hsg⟩ : ∃ sg, sg = s.g := ⟨_, rfl⟩
      obtain ⟨sn, hsn2⟩ : ∃ sn, sn = s.n := ⟨_, rfl⟩
      rw [← hsg] at x0 z2 hsl s0 s1 s2
      rw [← hsn2] at x1
      clear hnk hR hL0 hs s3 s4 hVk hcell hsg hsn2
      go_wp2
      obtain ⟨wo, ho⟩ : ∃ wo : World, wo = wr := ⟨_, rfl⟩
      subst ho
      clear x0 x1 z2
      go_loopw [3, 23] (fun u v w' => ∃ k : Nat, v = .int .i64 k ∧ k ≤ nk ∧ Hid (RowE w' w.heap.size u (L0 ++ (R.take k).map (mkP sr sc))) ∧ Below w.heap.size w w' ∧ Own w' wo.heap.size #[.pointer (some ⟨sg, 0, none⟩), .int .i64 sn] ∧ Hid (∀ b, u.ownBlock = some b → b ≠ wo.heap.size)) (fun _ v _ => nk - (intOf v).toNat)
      case atStart => exact ⟨0, rfl, by omega, (show RowE _ _ _ _ from by rw [List.take_zero, List.map_nil, List.append_nil]; exact HR.out.keep (by with_reducible (repeat' first | assumption | exact Below.refl _ _ | refine Below.drew ?_ | refine bdrewN ?_ _ | refine Below.setCell ?_ (by first | exact Nat.le_refl _ | (simp; done) | (simp; omega) | omega) _ | refine Below.alloc ?_ (by first | exact Nat.le_refl _ | (simp; done) | (simp; omega) | omega) _))), by with_reducible (repeat' first | assumption | exact Below.refl _ _ | refine Below.drew ?_ | refine bdrewN ?_ _ | refine Below.setCell ?_ (by first | exact Nat.le_refl _ | (simp; done) | (simp; omega) | omega) _ | refine Below.alloc ?_ (by first | exact Nat.le_refl _ | (simp; done) | (simp; omega) | omega) _), by with_reducible (repeat' first | assumption | refine Own.drew ?_ | refine Own.drewN ?_ _ | (refine Own.at ?_; first | rfl | (simp; done)) | refine Own.past ?_ _), (show Hid _ from fun b q => by have := (HR.out.lt b q).2; omega)⟩
      case round =>
        obtain ⟨k, rfl, hk, HRk, hBk, oS, hne⟩ := hrel
        have cS := oS.cell
        have lS := oS.lt
        have hkz := hBk.size
        by_cases hlk : k < nk
        · have hlk' : (k : Int) < nk := by omega
          obtain ⟨g3, rfl, hg3, hc3⟩ := HVk.out (by omega)
          obtain ⟨x, hx⟩ : ∃ x, R[k]? = some x := ⟨_, List.getElem?_eq_getElem (by rw [← HNk.out]; omega)⟩
          have y0 : wr.cell? ⟨g3, k * 4, none⟩ = some (.int .i64 x.t) := (hBk.cell (p := ⟨g3, k * 4, none⟩) hg3).trans (hc3 k x hx 0 _ rfl)
          have y1 : wr.cell? ⟨g3, k * 4 + 1, none⟩ = some (.int .i64 x.l) := (hBk.cell (p := ⟨g3, k * 4 + 1, none⟩) hg3).trans (hc3 k x hx 1 _ rfl)
          have y2 : wr.cell? ⟨g3, k * 4 + 2, none⟩ = some (.int .i64 x.b) := (hBk.cell (p := ⟨g3, k * 4 + 2, none⟩) hg3).trans (hc3 k x hx 2 _ rfl)
          have y3 : wr.cell? ⟨g3, k * 4 + 3, none⟩ = some (.int .i64 x.r) := (hBk.cell (p := ⟨g3, k * 4 + 3, none⟩) hg3).trans (hc3 k x hx 3 _ rfl)
          have f0 := (hBk.cell (p := ⟨sg, 0, none⟩) s0).trans s1
          have f1 := (hBk.cell (p := ⟨sg, 1, none⟩) s0).trans s2
          have hgl3 : g3 < wr.heap.size := by omega
          have hsl2 : sg < wr.heap.size := by omega
          have HT : Hid ((R.take (k + 1)).map (mkP sr sc) = (R.take k).map (mkP sr sc) ++ [mkP sr sc x]) := (show _ = _ by rw [List.take_succ, hx, List.map_append]; rfl)
          have HLk : Hid ((L0 ++ (R.take k).map (mkP sr sc)).length + 1 ≤ P.length) := (show _ ≤ _ by have h1 := HLen.out; have h2 := HNk.out; simp only [List.length_append, List.length_map, List.length_take]; omega)
          clear hx hc3
          go_wp2
          go_region_law (refine step_appx rfl (.tmp 27) (.tmp 36) 27 27 rfl _ (.slice (some ⟨wr.heap.size + 1, 0, none⟩) 1 1) (by simp [Act.eval, Act.put]) (by simp [Act.eval, Act.put]) (HAP.out _ _ _ (wr.heap.size + 1) (mkP sr sc x) (HRk.out.keep (by with_reducible (repeat' first | assumption | exact Below.refl _ _ | refine Below.drew ?_ | refine bdrewN ?_ _ | refine Below.setCell ?_ (by first | exact Nat.le_refl _ | (simp; done) | (simp; omega) | omega) _ | refine Below.alloc ?_ (by first | exact Nat.le_refl _ | (simp; done) | (simp; omega) | omega) _))) (heap_at (by simp)) (by simp; omega) (by have := HLk.out; omega)) (fun v' w2 hq => ?_); obtain ⟨r1, r2, r3, r4⟩ := hq; have R1 : Hid _ := r1; have R2 : Below w.heap.size w w2 := (show Below w.heap.size w _ from by with_reducible (repeat' first | assumption | exact Below.refl _ _ | refine Below.drew ?_ | refine bdrewN ?_ _ | refine Below.setCell ?_ (by first | exact Nat.le_refl _ | (simp; done) | (simp; omega) | omega) _ | refine Below.alloc ?_ (by first | exact Nat.le_refl _ | (simp; done) | (simp; omega) | omega) _)).trans r2; have R3 : Hid (∀ b, v'.ownBlock = some b → b ≠ wo.heap.size) := (show ∀ b, v'.ownBlock = some b → b ≠ wo.heap.size from fun b q => by rcases r3 with s | s; exact hne.out b (s.symm.trans q); rw [s] at q; injection q with q; simp at q; omega); have oS2 : Own w2 wo.heap.size #[.pointer (some ⟨sg, 0, none⟩), .int .i64 sn] := Own.mut (by with_reducible (repeat' first | assumption | refine Own.drew ?_ | refine Own.drewN ?_ _ | (refine Own.at ?_; first | rfl | (simp; done)) | refine Own.past ?_ _)) r4 (fun q => hne.out _ q rfl); clear r1 r2 r3 r4)
          all_goals go_wp2
          all_goals exact ⟨⟨k + 1, by go_num, by omega, (show RowE _ _ _ _ from by rw [HT.out, ← List.append_assoc]; exact R1.out), R2, oS2, R3⟩, by simp [intOf]; omega⟩
        · have hkn : k = nk := by omega
          subst hkn
          go_wp2
          exact ⟨⟨i + 1, by go_num, by omega, (show RowE _ _ _ _ from by rw [HL1.out]; have q := HRk.out; rw [HNk.out, List.take_length] at q; exact q), hBk⟩, by simp [intOf]; omega⟩
    · have hin : i = n := by omega
      subst hin
      have HF : Hid (RowE wr w.heap.size u3 P) := (show RowE _ _ _ _ from by have q := HR.out; rw [HN.out, List.take_length, HP.out] at q; exact q)
      go_wp2
      go_ret
      exact ⟨_, rfl, HF.out, hB⟩
end Go.Proofs.YtgojnijpjfdocaaGreat
