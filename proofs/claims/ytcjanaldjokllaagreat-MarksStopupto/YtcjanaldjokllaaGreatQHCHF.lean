/- The document's Direct: who refers to a place, each once, in order. New memory alone is made. · A Deps and the document's beside it. No function's text is walked here. -/
import Derived.Test.YtcjanaldjokllaaGreatQHD
namespace Go.Proofs.YtcjanaldjokllaaGreat
open Go.RowKit Go.Shelf
set_option linter.all false
def celE (e : Ed) : Cl := ⟨e.r, e.c⟩
def inX (x y : Int) (e : Ed) : Bool := inB e.f.t e.f.l e.f.b e.f.q x y
def outK (x y : Int) (Q : List Ed) : List Cl := cpt sCl ((Q.filter (inX x y)).map celE)
theorem outK_next {x y : Int} {Q : List Ed} {k : Nat} {e : Ed} (h : Q[k]? = some e) : outK x y (Q.take (k + 1)) = if inX x y e = true then cpS sCl (outK x y (Q.take k)) (celE e) else outK x y (Q.take k) := by
  unfold outK
  rw [List.take_succ, h, List.filter_append, List.map_append]
  by_cases q : inX x y e = true
  · rw [if_pos q]
    show cpt sCl (_ ++ ([e].filter _).map _) = _
    rw [List.filter_cons_of_pos q]
    unfold cpt
    rw [List.foldl_append]
    rfl
  · rw [if_neg q]
    show cpt sCl (_ ++ ([e].filter _).map _) = _
    rw [List.filter_cons_of_neg q]
    simp
theorem outK_len (x y : Int) (Q : List Ed) : (outK x y Q).length ≤ Q.length := by
  unfold outK
  have h1 := cpt_len sCl ((Q.filter (inX x y)).map celE)
  rw [List.length_map] at h1
  exact Nat.le_trans h1 (List.length_filter_le _ _)
theorem outK_who {E : Int → Int → List Rf} {x y : Int} {P : List Ed} (h : IsEdg E P) : IsWho E x y (outK x y P) := by
  have h1 : ((P.filter (inX x y)).map celE).Pairwise (fun a b => cmpK a b < 0 ∨ a = b) := by
    rw [List.pairwise_map]
    refine (h.1.filter _).imp (fun {a b} q => ?_)
    have q2 : ltOf cmpD a b = true := decide_eq_true q
    rw [cmpD_lt] at q2
    obtain ⟨ar, ac, af⟩ := a
    obtain ⟨br, bc, bf⟩ := b
    simp only [celE] at *
    by_cases e : ar = br ∧ ac = bc
    · exact .inr (by rw [e.1, e.2])
    · refine .inl ((cmpK_neg _ _).2 ?_)
      simp only
      omega
  refine ⟨cpt_srt (s := sCl) (lt := fun x y => cmpK x y < 0) (fun _ _ => sCl_is) (fun h1 h2 => cmpK_tr h1 h2) h1, fun z => ?_⟩
  unfold outK
  rw [mem_cpt (fun _ _ => sCl_is), List.mem_map]
  constructor
  · rintro ⟨e, h2, rfl⟩
    obtain ⟨a1, a2⟩ := List.mem_filter.1 h2
    exact ⟨e.f, (h.2 e).1 a1, a2⟩
  · rintro ⟨f, h2, h3⟩
    exact ⟨⟨z.r, z.c, f⟩, List.mem_filter.2 ⟨(h.2 _).2 h2, h3⟩, rfl⟩
set_option maxRecDepth 100000 in
set_option maxHeartbeats 8000000 in
theorem rdir_any (w : World) (R : Nat) (v : Value) (P : List Ed) (E : Int → Int → List Rf) (cx cy : Int) (hR : Own w R #[v]) (hP : RowD w 0 v P) (hI : IsEdg E P) (hz : P.length ≤ 2500000) : Calls Tryz.prog 12 #[.pointer (some ⟨R, 0, none⟩), .agg #[.int .i64 cx, .int .i64 cy]] w fun e w' => ∃ u, e = .returned u ∧ ∃ k, RowG 32 2 Cl.cs w' w.heap.size u k ∧ IsWho E cx cy k ∧ Below w.heap.size w w' := by
  have mixed : Tryz.prog.follows .mixedOrders = true := by kernel_rfl
  obtain ⟨q0, cap0, e0, h1, h2, h3⟩ := RowG.view (sz := 7) (cs := Ed.cs) Ed.len hP
  obtain ⟨n0, hn0⟩ : ∃ n0, n0 = P.length := ⟨_, rfl⟩
  rw [← hn0] at e0 h1 h3 hz
  have HN0 : Hid (n0 = P.length) := hn0
  have HP : Hid _ := h3
  have HRo : Hid (∀ W, Below w.heap.size w W → W.cell? ⟨R, 0, none⟩ = some (.slice q0 n0 cap0)) := (show _ from fun W hb => by rw [← e0]; exact (hR.keep hb).cell 0)
  have lR := hR.lt
  have HW : Hid (IsWho E cx cy (outK cx cy P)) := outK_who hI
  obtain ⟨i0, hi0, hz0, hzs, hzb⟩ := info_parts infoCl
  have HA1 : Hid (∀ W (u : Value) (L : List Cl) vb (x : Cl), RowG 32 2 Cl.cs W (w.heap.size + 1) u L → W.heap[vb]? = some (.cells x.cs.toArray 32 (0, 0)) → (w.heap.size + 1) ≤ W.heap.size → (L.length + 1) * 16 ≤ 140737488355328 → ∀ ty, ∃ v' w', (Builtin.append_ #[41, 41] ty #[u, .slice (some ⟨vb, 0, none⟩) 1 1]).run Tryz.prog W = .ok v' w' ∧ RowG 32 2 Cl.cs w' (w.heap.size + 1) v' (L ++ [x]) ∧ Below (w.heap.size + 1) W w') := (show _ from fun W u L vb x r1 r2 r3 r4 ty => by
    obtain ⟨v', w', k1, k2, k3, _⟩ := app_one Tryz.underlying41 hi0 hz0 hzs hzb rfl (by omega) Cl.len Cl.one r1 r2 r3 r4 (by omega) ty
    exact ⟨v', w', k1, k2, k3⟩)
  clear hi0 hz0 hzs hzb i0 hR hP hI e0 hn0 h3
  go_enter Tryz.func12, Tryz.ntmps12
  go_wp2
  go_loopw [5, 6] (fun u5 u6 w' => ∃ i : Nat, u6 = .int .i64 i ∧ i ≤ n0 ∧ Hid (RowG 32 2 Cl.cs w' (w.heap.size + 1) u5 (outK cx cy (P.take i))) ∧ Below w.heap.size w w' ∧ Own w' w.heap.size #[.int .i64 cx, .int .i64 cy]) (fun _ u6 _ => n0 - (intOf u6).toNat)
  case atStart => exact ⟨0, rfl, by omega, (show RowG _ _ _ _ _ _ _ from RowG.nil _), by with_reducible (repeat' first | assumption | exact Below.refl _ _ | refine Below.drew ?_ | refine bdrewN ?_ _ | refine Below.setCell ?_ (by first | exact Nat.le_refl _ | (simp; done) | (simp; omega) | omega) _ | refine Below.alloc ?_ (by first | exact Nat.le_refl _ | (simp; done) | (simp; omega) | omega) _), by with_reducible (repeat' first | assumption | refine Own.drew ?_ | refine Own.drewN ?_ _ | (refine Own.at ?_; first | rfl | (simp; done)) | refine Own.past ?_ _)⟩
  case round =>
    obtain ⟨i, rfl, hi, HL, hB, oC⟩ := hrel
    have zB := hB.size
    have lC := oC.lt
    have cR := HRo.out wr hB
    have lRr : R < wr.heap.size := by omega
    by_cases hlt : i < n0
    · have hlt' : (i : Int) < n0 := by omega
      obtain ⟨g, rfl, hg, hcl⟩ := HP.out (by omega)
      obtain ⟨x, hx⟩ : ∃ x, P[i]? = some x := ⟨_, List.getElem?_eq_getElem (by rw [← HN0.out]; omega)⟩
      have yw0 : w.cell? ⟨g, i * 7, none⟩ = some (.int .i64 x.r) := hcl i x hx 0 _ rfl
      have y0 : wr.cell? ⟨g, i * 7, none⟩ = some (.int .i64 x.r) := (hB.cell (p := ⟨g, i * 7, none⟩) hg).trans yw0
      have yw1 : w.cell? ⟨g, i * 7 + 1, none⟩ = some (.int .i64 x.c) := hcl i x hx 1 _ rfl
      have y1 : wr.cell? ⟨g, i * 7 + 1, none⟩ = some (.int .i64 x.c) := (hB.cell (p := ⟨g, i * 7 + 1, none⟩) hg).trans yw1
      have yw2 : w.cell? ⟨g, i * 7 + 2, none⟩ = some (.bool x.f.m) := hcl i x hx 2 _ rfl
      have y2 : wr.cell? ⟨g, i * 7 + 2, none⟩ = some (.bool x.f.m) := (hB.cell (p := ⟨g, i * 7 + 2, none⟩) hg).trans yw2
      have yw3 : w.cell? ⟨g, i * 7 + 3, none⟩ = some (.int .i64 x.f.t) := hcl i x hx 3 _ rfl
      have y3 : wr.cell? ⟨g, i * 7 + 3, none⟩ = some (.int .i64 x.f.t) := (hB.cell (p := ⟨g, i * 7 + 3, none⟩) hg).trans yw3
      have yw4 : w.cell? ⟨g, i * 7 + 4, none⟩ = some (.int .i64 x.f.l) := hcl i x hx 4 _ rfl
      have y4 : wr.cell? ⟨g, i * 7 + 4, none⟩ = some (.int .i64 x.f.l) := (hB.cell (p := ⟨g, i * 7 + 4, none⟩) hg).trans yw4
      have yw5 : w.cell? ⟨g, i * 7 + 5, none⟩ = some (.int .i64 x.f.b) := hcl i x hx 5 _ rfl
      have y5 : wr.cell? ⟨g, i * 7 + 5, none⟩ = some (.int .i64 x.f.b) := (hB.cell (p := ⟨g, i * 7 + 5, none⟩) hg).trans yw5
      have yw6 : w.cell? ⟨g, i * 7 + 6, none⟩ = some (.int .i64 x.f.q) := hcl i x hx 6 _ rfl
      have y6 : wr.cell? ⟨g, i * 7 + 6, none⟩ = some (.int .i64 x.f.q) := (hB.cell (p := ⟨g, i * 7 + 6, none⟩) hg).trans yw6
      have c0 : wr.cell? ⟨w.heap.size, 0, none⟩ = some (.int .i64 cx) := oC.cell 0
      have c1 : wr.cell? ⟨w.heap.size, 1, none⟩ = some (.int .i64 cy) := oC.cell 1
      obtain ⟨bi, hbi⟩ : ∃ bi, bi = inX cx cy x := ⟨_, rfl⟩
      have HI : Hid (∀ W, Calls Tryz.prog 30 #[.agg #[.int .i64 x.f.t, .int .i64 x.f.l, .int .i64 x.f.b, .int .i64 x.f.q], .agg #[.int .i64 cx, .int .i64 cy]] W fun e w' => e = .returned (.bool bi) ∧ Below W.heap.size W w') := (show _ from fun W => by rw [hbi]; exact rin_any _ _ _ _ _ _ W)
      obtain ⟨L, hL⟩ : ∃ L, L = (outK cx cy (P.take i)) := ⟨_, rfl⟩
      have HX : Hid ((outK cx cy (P.take (i + 1))) = if bi = true then cpS sCl L (celE x) else L) := (show _ = _ by rw [outK_next hx, ← hL, hbi])
      have hLl : L.length ≤ i := by
        rw [hL]
        refine Nat.le_trans (outK_len _ _ _) ?_
        rw [List.length_take]
        omega
      rw [← hL] at HL
      clear hx hcl hbi hL
      go_wp2
      go_region_held3 (fun w' => w'.cell? ⟨R, 0, none⟩ = some (.slice (some ⟨g, 0, none⟩) n0 cap0) ∧ w'.cell? ⟨g, i * 7, none⟩ = some (.int .i64 x.r) ∧ w'.cell? ⟨g, i * 7 + 1, none⟩ = some (.int .i64 x.c) ∧ w'.cell? ⟨g, i * 7 + 2, none⟩ = some (.bool x.f.m) ∧ w'.cell? ⟨g, i * 7 + 3, none⟩ = some (.int .i64 x.f.t) ∧ w'.cell? ⟨g, i * 7 + 4, none⟩ = some (.int .i64 x.f.l) ∧ w'.cell? ⟨g, i * 7 + 5, none⟩ = some (.int .i64 x.f.b) ∧ w'.cell? ⟨g, i * 7 + 6, none⟩ = some (.int .i64 x.f.q) ∧ w'.cell? ⟨w.heap.size, 0, none⟩ = some (.int .i64 cx) ∧ w'.cell? ⟨w.heap.size, 1, none⟩ = some (.int .i64 cy)) ((repeat' apply And.intro) <;> (first | (go_keep; done) | (go_simp; done))) ((go_at_call 30; refine (HI.out _).mono ?_; rintro e wa ⟨rfl, hb⟩; have hBa0 : Below wr.heap.size wr wa := (show Below wr.heap.size wr _ from by with_reducible (repeat' first | assumption | exact Below.refl _ _ | refine Below.drew ?_ | refine bdrewN ?_ _ | refine Below.setCell ?_ (by first | exact Nat.le_refl _ | (simp; done) | (simp; omega) | omega) _ | refine Below.alloc ?_ (by first | exact Nat.le_refl _ | (simp; done) | (simp; omega) | omega) _)).trans (hb.mono (by first | omega | (simp; done))); have hBa : Below w.heap.size w wa := bup zqb hb; have oCa : Own wa w.heap.size #[.int .i64 cx, .int .i64 cy] := Own.keep (by with_reducible (repeat' first | assumption | refine Own.drew ?_ | refine Own.drewN ?_ _ | (refine Own.at ?_; first | rfl | (simp; done)) | refine Own.past ?_ _)) hb; have rA := HRo.out wa hBa; have ya0 : wa.cell? ⟨g, i * 7, none⟩ = some (.int .i64 x.r) := (hBa.cell (p := ⟨g, i * 7, none⟩) hg).trans yw0; have ya1 : wa.cell? ⟨g, i * 7 + 1, none⟩ = some (.int .i64 x.c) := (hBa.cell (p := ⟨g, i * 7 + 1, none⟩) hg).trans yw1; have ya2 : wa.cell? ⟨g, i * 7 + 2, none⟩ = some (.bool x.f.m) := (hBa.cell (p := ⟨g, i * 7 + 2, none⟩) hg).trans yw2; have ya3 : wa.cell? ⟨g, i * 7 + 3, none⟩ = some (.int .i64 x.f.t) := (hBa.cell (p := ⟨g, i * 7 + 3, none⟩) hg).trans yw3; have ya4 : wa.cell? ⟨g, i * 7 + 4, none⟩ = some (.int .i64 x.f.l) := (hBa.cell (p := ⟨g, i * 7 + 4, none⟩) hg).trans yw4; have ya5 : wa.cell? ⟨g, i * 7 + 5, none⟩ = some (.int .i64 x.f.b) := (hBa.cell (p := ⟨g, i * 7 + 5, none⟩) hg).trans yw5; have ya6 : wa.cell? ⟨g, i * 7 + 6, none⟩ = some (.int .i64 x.f.q) := (hBa.cell (p := ⟨g, i * 7 + 6, none⟩) hg).trans yw6; have ca0 : wa.cell? ⟨w.heap.size, 0, none⟩ = some (.int .i64 cx) := oCa.cell 0; have ca1 : wa.cell? ⟨w.heap.size, 1, none⟩ = some (.int .i64 cy) := oCa.cell 1; clear hb))
      have HLa : Hid (RowG 32 2 Cl.cs wa (w.heap.size + 1) u5 L) := (show RowG _ _ _ _ _ _ _ from HL.out.keep hBa0)
      have zBa := hBa.size
      have lCa := oCa.lt
      have lRa : R < wa.heap.size := by omega
      have hga : g < wa.heap.size := by omega
      clear HL hB oC cR y0 y1 y2 y3 y4 y5 y6 c0 c1 lC lRr zB
      cases bi
      · have HX' : Hid ((outK cx cy (P.take (i + 1))) = L) := (show _ = _ by rw [HX.out]; rfl)
        clear HX
        go_wp2
        go_quiet (fail)
        go_wp2
        exact ⟨⟨i + 1, by go_num, by omega, (show RowG _ _ _ _ _ _ _ from by rw [HX'.out]; exact HLa.out.keep zqb), by with_reducible (repeat' first | assumption | exact Below.refl _ _ | refine Below.drew ?_ | refine bdrewN ?_ _ | refine Below.setCell ?_ (by first | exact Nat.le_refl _ | (simp; done) | (simp; omega) | omega) _ | refine Below.alloc ?_ (by first | exact Nat.le_refl _ | (simp; done) | (simp; omega) | omega) _), by with_reducible (repeat' first | assumption | refine Own.drew ?_ | refine Own.drewN ?_ _ | (refine Own.at ?_; first | rfl | (simp; done)) | refine Own.past ?_ _)⟩, by simp [intOf] <;> omega⟩
      · obtain ⟨qL, cL, rfl, hL1, hL2, hLv⟩ := RowG.view (sz := 2) (cs := Cl.cs) Cl.len HLa.out
        obtain ⟨nL, hnL⟩ : ∃ nL, nL = L.length := ⟨_, rfl⟩
        have HnL : Hid (nL = L.length) := hnL
        rw [← hnL] at hL1 hLv HLa hLl
        rw [← hnL]
        have HLl : Hid ((L.length + 1) * 16 ≤ 140737488355328) := (show _ ≤ _ by rw [← hnL]; omega)
        clear hnL
        by_cases h0 : nL = 0
        · have hLn : L = [] := List.length_eq_zero_iff.1 (HnL.out.symm.trans h0)
          have HX' : Hid ((outK cx cy (P.take (i + 1))) = L ++ [celE x]) := (show _ = _ by rw [HX.out, if_pos rfl, hLn]; rfl)
          clear HX hLv
          subst h0
          go_wp2
          go_quiet (fail)
          go_wp2_with (at_builtin; refine wpList_appx rfl _ _ _ _ rfl _ (.slice (some ⟨wa.heap.size, 0, none⟩) 1 1) rfl rfl (HA1.out _ _ _ wa.heap.size (celE x) (RowG.keep HLa.out zqb) (heap_at (by simp)) (by simp; omega) HLl.out) (fun v' w3 hq => ?_); obtain ⟨r1, r2⟩ := hq; have R1 : Hid (RowG 32 2 Cl.cs w3 (w.heap.size + 1) v' (L ++ [celE x])) := r1; have R2 : Below w.heap.size w w3 := (show Below w.heap.size w _ from by with_reducible (repeat' first | assumption | exact Below.refl _ _ | refine Below.drew ?_ | refine bdrewN ?_ _ | refine Below.setCell ?_ (by first | exact Nat.le_refl _ | (simp; done) | (simp; omega) | omega) _ | refine Below.alloc ?_ (by first | exact Nat.le_refl _ | (simp; done) | (simp; omega) | omega) _)).trans (r2.mono (by omega)); have oC3 : Own w3 w.heap.size #[.int .i64 cx, .int .i64 cy] := Own.low (by with_reducible (repeat' first | assumption | refine Own.drew ?_ | refine Own.drewN ?_ _ | (refine Own.at ?_; first | rfl | (simp; done)) | refine Own.past ?_ _)) r2 (by omega); clear r1 r2)
          all_goals exact ⟨⟨i + 1, by go_num, by omega, (show RowG _ _ _ _ _ _ _ from by rw [HX'.out]; exact R1.out.keep zqb), by with_reducible (repeat' first | assumption | exact Below.refl _ _ | refine Below.drew ?_ | refine bdrewN ?_ _ | refine Below.setCell ?_ (by first | exact Nat.le_refl _ | (simp; done) | (simp; omega) | omega) _ | refine Below.alloc ?_ (by first | exact Nat.le_refl _ | (simp; done) | (simp; omega) | omega) _), by with_reducible (repeat' first | assumption | refine Own.drew ?_ | refine Own.drewN ?_ _ | (refine Own.at ?_; first | rfl | (simp; done)) | refine Own.past ?_ _)⟩, by simp [intOf] <;> omega⟩
        · obtain ⟨j, hj⟩ : ∃ j, nL = j + 1 := ⟨nL - 1, by omega⟩
          obtain ⟨go, rfl, hgo, hcv⟩ := hLv (by omega)
          obtain ⟨z, hzz⟩ : ∃ z, L[j]? = some z := ⟨_, List.getElem?_eq_getElem (by rw [← HnL.out]; omega)⟩
          have z0 : wa.cell? ⟨go, j * 2, none⟩ = some (.int .i64 z.r) := hcv j z hzz 0 _ rfl
          have z1 : wa.cell? ⟨go, j * 2 + 1, none⟩ = some (.int .i64 z.c) := hcv j z hzz 1 _ rfl
          have hlast : L.getLast? = some z := by rw [List.getLast?_eq_getElem?, ← HnL.out, hj]; exact hzz
          have hw : IntKind.i64.wrap ((nL : Int) - 1) = (j : Int) := by rw [IntKind.wrap_i64]; omega
          have hjn : j < nL := by omega
          have hjn' : (j : Int) < nL := by omega
          have hnz : ((nL : Int) == 0) = false := by simp; omega
          have hne := neC z.r z.c x.r x.c
          have HX2 : Hid ((outK cx cy (P.take (i + 1))) = if sCl (celE x) z = true then L else L ++ [celE x]) := (show _ = _ by rw [HX.out, if_pos rfl]; unfold cpS; rw [hlast])
          clear HX hcv hzz hlast hj
          cases hsm : sameC z.r z.c x.r x.c
          · rw [hsm] at hne
            have HX' : Hid ((outK cx cy (P.take (i + 1))) = L ++ [celE x]) := (show _ = _ by
              rw [HX2.out, if_neg]
              intro q
              have := sCl_is.1 q
              rw [← this] at hsm
              simp [celE, sameC] at hsm)
            clear HX2 hsm
            go_wp2
            go_quiet (fail)
            go_wp2_with (at_builtin; refine wpList_appx rfl _ _ _ _ rfl _ (.slice (some ⟨wa.heap.size, 0, none⟩) 1 1) rfl rfl (HA1.out _ _ _ wa.heap.size (celE x) (RowG.keep HLa.out zqb) (heap_at (by simp)) (by simp; omega) HLl.out) (fun v' w3 hq => ?_); obtain ⟨r1, r2⟩ := hq; have R1 : Hid (RowG 32 2 Cl.cs w3 (w.heap.size + 1) v' (L ++ [celE x])) := r1; have R2 : Below w.heap.size w w3 := (show Below w.heap.size w _ from by with_reducible (repeat' first | assumption | exact Below.refl _ _ | refine Below.drew ?_ | refine bdrewN ?_ _ | refine Below.setCell ?_ (by first | exact Nat.le_refl _ | (simp; done) | (simp; omega) | omega) _ | refine Below.alloc ?_ (by first | exact Nat.le_refl _ | (simp; done) | (simp; omega) | omega) _)).trans (r2.mono (by omega)); have oC3 : Own w3 w.heap.size #[.int .i64 cx, .int .i64 cy] := Own.low (by with_reducible (repeat' first | assumption | refine Own.drew ?_ | refine Own.drewN ?_ _ | (refine Own.at ?_; first | rfl | (simp; done)) | refine Own.past ?_ _)) r2 (by omega); clear r1 r2)
            all_goals exact ⟨⟨i + 1, by go_num, by omega, (show RowG _ _ _ _ _ _ _ from by rw [HX'.out]; exact R1.out.keep zqb), by with_reducible (repeat' first | assumption | exact Below.refl _ _ | refine Below.drew ?_ | refine bdrewN ?_ _ | refine Below.setCell ?_ (by first | exact Nat.le_refl _ | (simp; done) | (simp; omega) | omega) _ | refine Below.alloc ?_ (by first | exact Nat.le_refl _ | (simp; done) | (simp; omega) | omega) _), by with_reducible (repeat' first | assumption | refine Own.drew ?_ | refine Own.drewN ?_ _ | (refine Own.at ?_; first | rfl | (simp; done)) | refine Own.past ?_ _)⟩, by simp [intOf] <;> omega⟩
          · rw [hsm] at hne
            have HX' : Hid ((outK cx cy (P.take (i + 1))) = L) := (show _ = _ by
              rw [HX2.out, if_pos]
              obtain ⟨e1, e2⟩ := sameC_is.1 hsm
              refine sCl_is.2 ?_
              obtain ⟨zr, zc⟩ := z
              simp only at e1 e2
              rw [e1, e2]; rfl)
            clear HX2 hsm
            go_wp2
            go_quiet (fail)
            go_wp2
            exact ⟨⟨i + 1, by go_num, by omega, (show RowG _ _ _ _ _ _ _ from by rw [HX'.out]; exact HLa.out.keep zqb), by with_reducible (repeat' first | assumption | exact Below.refl _ _ | refine Below.drew ?_ | refine bdrewN ?_ _ | refine Below.setCell ?_ (by first | exact Nat.le_refl _ | (simp; done) | (simp; omega) | omega) _ | refine Below.alloc ?_ (by first | exact Nat.le_refl _ | (simp; done) | (simp; omega) | omega) _), by with_reducible (repeat' first | assumption | refine Own.drew ?_ | refine Own.drewN ?_ _ | (refine Own.at ?_; first | rfl | (simp; done)) | refine Own.past ?_ _)⟩, by simp [intOf] <;> omega⟩
    · have hlt' : ¬ (i : Int) < n0 := by omega
      have HLf : Hid (RowG 32 2 Cl.cs wr (w.heap.size + 1) u5 (outK cx cy P)) := (show RowG _ _ _ _ _ _ _ from by
        have q := HL.out
        rwa [List.take_of_length_le (by rw [← HN0.out]; omega)] at q)
      clear HL
      go_wp2
      go_ret
      exact ⟨_, rfl, _, RowG.mono HLf.out (by omega), HW.out, hB⟩
end Go.Proofs.YtcjanaldjokllaaGreat
namespace Go.Proofs.YtcjanaldjokllaaGreat
open Go.RowKit Go.Shelf
set_option linter.all false
/-- The program's Deps at N behind the deeds Da, the document's at R behind Db; the blocks of F are none of their own. -/
def DR (F : Nat → Prop) (w : World) (N : Nat) (Da : List Dv) (R : Nat) (Db : List Dv) : Prop := ∃ v P, Own w R #[v] ∧ RowD w 0 v P ∧ IsEdg (runE Db) P ∧ ¬ F R ∧ (∀ g, v.ownBlock = some g → ¬ F g) ∧ Dw (fun b => F b ∨ b = R ∨ v.ownBlock = some b) w N Da
theorem DR.keep {F : Nat → Prop} {w w' : World} {N R : Nat} {Da Db : List Dv} (h : DR F w N Da R Db) (hb : Below w.heap.size w w') : DR F w' N Da R Db := by
  obtain ⟨v, P, h1, h2, h3, h4, h5, h6⟩ := h
  exact ⟨v, P, h1.keep hb, RowG.keep h2 hb, h3, h4, h5, h6.keep hb⟩
theorem DR.fresh {F G : Nat → Prop} {w : World} {N R : Nat} {Da Db : List Dv} (h : DR F w N Da R Db) (hG : ∀ b, G b → F b ∨ w.heap.size ≤ b) : DR G w N Da R Db := by
  obtain ⟨v, P, h1, h2, h3, h4, h5, h6⟩ := h
  refine ⟨v, P, h1, h2, h3, fun q => (hG R q).elim h4 (fun p => by have := h1.lt; omega), fun g hg q => (hG g q).elim (h5 g hg) (fun p => by have := (RowG.lt h2 g hg).2; omega), h6.fresh (fun b q => ?_)⟩
  rcases q with q | q
  · exact (hG b q).elim (fun p => .inl (.inl p)) .inr
  · exact .inl (.inr q)
theorem DR.turn {F S : Nat → Prop} {w w' : World} {N R : Nat} {Da Db : List Dv} (h : DR F w N Da R Db) (hm : Mut S w w') (hs : ∀ b, S b → F b) : DR F w' N Da R Db := by
  obtain ⟨v, P, h1, h2, h3, h4, h5, h6⟩ := h
  exact ⟨v, P, h1.mut hm (fun q => h4 (hs _ q)), RowG.mut h2 hm (fun g hg q => h5 g hg (hs g q)), h3, h4, h5, h6.turn hm (fun b q => .inl (hs b q))⟩
theorem DR.dw {F : Nat → Prop} {w : World} {N R : Nat} {Da Db : List Dv} (h : DR F w N Da R Db) : Dw F w N Da := by
  obtain ⟨v, P, h1, h2, h3, h4, h5, h6⟩ := h
  exact Dw.fresh h6 (fun b q => .inl (.inl q))
theorem edg_len {D : List Dv} {P : List Ed} (h : IsEdg (runE D) P) : P.length ≤ cst D := runE_few D P (srtE_nodup h.1) (fun e he => (h.2 e).1 he)
theorem DR.lt {F : Nat → Prop} {w : World} {N R : Nat} {Da Db : List Dv} (h : DR F w N Da R Db) : R < w.heap.size := by
  obtain ⟨v, P, h1, _⟩ := h
  exact h1.lt
theorem DR.made {F : Nat → Prop} {w W : World} {N : Nat} (h : Dw F w N []) (hF : ∀ b, F b → b < w.heap.size) (hb : Below w.heap.size w W) (hR : Own W w.heap.size #[.slice none 0 0]) : DR F W N [] w.heap.size [] :=
  ⟨.slice none 0 0, [], hR, RowG.nil _, ⟨List.Pairwise.nil, fun e => ⟨fun q => (by cases q), fun q => (by cases q)⟩⟩, fun q => by have := hF _ q; omega, fun g hg => (by cases hg), (Dw.fresh h (fun b q => by
    rcases q with q | q | q
    · exact .inl q
    · exact .inr (by omega)
    · cases q)).keep hb⟩
theorem Mut.wide {S T : Nat → Prop} {w w' : World} (h : Mut S w w') (hs : ∀ b, S b → T b) : Mut T w w' := ⟨h.os, h.tape, h.output, h.size, fun b hb hn => h.block b hb (fun q => hn (hs b q))⟩
theorem drd_set (w : World) (F : Nat → Prop) (N R : Nat) (Da Db : List Dv) (d : Dv) (h : DR F w N Da R Db) (hF : ∀ b, F b → b < w.heap.size) (hv : VF w d.v d.l) (hvb : ∀ p n c, d.v = .slice (some p) n c → 0 < n → F p.block) (hs : cst (Da ++ [d]) ≤ 1048576) : Calls Tryz.prog 10 #[.pointer (some ⟨N, 0, none⟩), .agg #[.int .i64 d.r, .int .i64 d.c], d.v] w fun e w' => e = .returned (.int .i64 d.err) ∧ DR F w' N (Da ++ [d]) R Db ∧ Mut (fun b => ¬ F b) w w' := by
  obtain ⟨v, P, h1, h2, h3, h4, h5, h6⟩ := h
  refine (dset_dw w N _ Da d h6 (fun b q => ?_) hv (fun p n c e q => .inl (hvb p n c e q)) hs).mono ?_
  · rcases q with q | q | q
    · exact hF b q
    · rw [q]; exact h1.lt
    · exact (RowG.lt h2 b q).2
  · rintro e w' ⟨rfl, k1, k2⟩
    exact ⟨rfl, ⟨v, P, h1.mut k2 (fun q => q (.inr (.inl rfl))), RowG.mut h2 k2 (fun g hg q => q (.inr (.inr hg))), h3, h4, h5, k1⟩, Mut.wide k2 (fun b q p => q (.inl p))⟩
theorem drr_set (w : World) (F : Nat → Prop) (N R : Nat) (Da Db : List Dv) (d : Dv) (h : DR F w N Da R Db) (hF : ∀ b, F b → b < w.heap.size) (hv : VF w d.v d.l) (hs : cst (Db ++ [d]) ≤ 1048576) : Calls Tryz.prog 26 #[.pointer (some ⟨R, 0, none⟩), .agg #[.int .i64 d.r, .int .i64 d.c], d.v] w fun e w' => e = .returned (.int .i64 d.err) ∧ DR F w' N Da R (Db ++ [d]) ∧ Mut (fun b => ¬ F b) w w' := by
  obtain ⟨v, P, h1, h2, h3, h4, h5, h6⟩ := h
  have hrun : runE (Db ++ [d]) = stepE (runE Db) d := by simp [runE]
  have hsame : d.ok = false → ∀ w', Below w.heap.size w w' → DR F w' N Da R (Db ++ [d]) ∧ Mut (fun b => ¬ F b) w w' := fun ho w' hb => by
    refine ⟨⟨v, P, h1.keep hb, RowG.keep h2 hb, ?_, h4, h5, h6.keep hb⟩, Mut.of_below hb⟩
    rw [hrun]
    unfold stepE
    rw [ho]
    exact h3
  unfold Dv.err
  cases hc : mayC d.r d.c
  · refine (rset_addr w R d.v d.r d.c hc).mono ?_
    rintro e w' ⟨rfl, hb⟩
    exact ⟨rfl, hsame (by unfold Dv.ok; rw [hc]; rfl) w' hb⟩
  · cases ha : d.l.all mayF
    · refine (rset_arg w R d.v d.l d.r d.c hv hc ?_).mono ?_
      · have q : ¬ ∀ f ∈ d.l, mayF f = true := fun q => by rw [List.all_eq_true.2 q] at ha; cases ha
        have ⟨f, hf⟩ := Classical.not_forall.1 q
        have ⟨h1, h2⟩ := Classical.not_imp.1 hf
        exact ⟨f, h1, by simpa using h2⟩
      · rintro e w' ⟨rfl, hb⟩
        exact ⟨rfl, hsame (by unfold Dv.ok; rw [hc, ha]; rfl) w' hb⟩
    · have ho : d.ok = true := by unfold Dv.ok; rw [hc, ha]; rfl
      have hlen := edg_len h3
      rw [cst_app] at hs
      have q := rset_ok w R v P d.r d.c d.p d.n d.k d.l h1 h2 h3.1 hv hc (fun f hf => List.all_eq_true.1 ha f hf) (by omega)
      refine q.mono ?_
      rintro e w' ⟨rfl, P', ⟨⟨v', k1, k2, k3⟩, k4⟩, k5⟩
      refine ⟨rfl, ⟨v', P', k1, k2, ?_, h4, fun g hg q => ?_, ?_⟩, Mut.wide k4 (fun b q p => h4 (by rw [← q]; exact p))⟩
      · rw [hrun]
        exact Ins.last h3 k5 ho
      · rcases k3 g hg with p | p
        · exact h5 g p q
        · have := hF g q; omega
      · refine (Dw.fresh h6 (fun b q => ?_)).turn k4 (fun b q => .inr (.inl q))
        rcases q with q | q | q
        · exact .inl (.inl q)
        · exact .inl (.inr (.inl q))
        · exact (k3 b q).elim (fun p => .inl (.inr (.inr p))) .inr
theorem drr_dir (w : World) (F : Nat → Prop) (N R : Nat) (Da Db : List Dv) (x y : Int) (h : DR F w N Da R Db) (hs : cst Db ≤ 1048576) : Calls Tryz.prog 12 #[.pointer (some ⟨R, 0, none⟩), .agg #[.int .i64 x, .int .i64 y]] w fun e w' => ∃ u, e = .returned u ∧ ∃ k, RowG 32 2 Cl.cs w' w.heap.size u k ∧ IsWho (runE Db) x y k ∧ Below w.heap.size w w' := by
  obtain ⟨v, P, h1, h2, h3, h4, h5, h6⟩ := h
  have := edg_len h3
  exact rdir_any w R v P (runE Db) x y h1 h2 h3 (by omega)
/-- The document's list, as it lies. -/
theorem DR.lst {F : Nat → Prop} {w : World} {N R : Nat} {Da Db : List Dv} (h : DR F w N Da R Db) : ∃ q n c P, Own w R #[.slice q n c] ∧ VL 7 Ed.cs w (.slice q n c) P ∧ IsEdg (runE Db) P := by
  obtain ⟨v, P, h1, h2, h3, h4, h5, h6⟩ := h
  obtain ⟨q, n, c, rfl⟩ := RowG.sl h2
  exact ⟨q, n, c, P, h1, RowG.vl Ed.len h2, h3⟩
end Go.Proofs.YtcjanaldjokllaaGreat
