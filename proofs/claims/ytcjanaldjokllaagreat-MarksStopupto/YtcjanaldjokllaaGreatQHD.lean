/- The document's Set at references that may be. -/
import Derived.Test.YtcjanaldjokllaaGreatQHAHB
namespace Go.Proofs.YtcjanaldjokllaaGreat
open Go.RowKit Go.Shelf
set_option linter.all false
def sEd (x y : Ed) : Bool := decide (x.r = y.r ∧ x.c = y.c ∧ x.f.m = y.f.m ∧ x.f.t = y.f.t ∧ x.f.l = y.f.l ∧ x.f.b = y.f.b ∧ x.f.q = y.f.q)
theorem sEd_is {x y : Ed} : sEd x y = true ↔ x = y := by
  obtain ⟨a, b, m, t, l, bb, q⟩ := x
  obtain ⟨a', b', m', t', l', bb', q'⟩ := y
  simp [sEd]
set_option maxHeartbeats 2000000 in
theorem eqEdG (x y : Ed) (w : World) : (binOp .eql 55 (.agg #[.int .i64 x.r, .int .i64 x.c, .bool x.f.m, .int .i64 x.f.t, .int .i64 x.f.l, .int .i64 x.f.b, .int .i64 x.f.q]) (.agg #[.int .i64 y.r, .int .i64 y.c, .bool y.f.m, .int .i64 y.f.t, .int .i64 y.f.l, .int .i64 y.f.b, .int .i64 y.f.q])).run Tryz.prog w = .ok (.bool (sEd x y)) w := by
  rw [run_eql_struct, run_equalIn_agg w 9999 55 _ _ (by kernel_rfl) (by kernel_rfl)]
  unfold sEd
  by_cases h1 : x.r = y.r
  · by_cases h2 : x.c = y.c
    · by_cases h3 : x.f.m = y.f.m
      · by_cases h4 : x.f.t = y.f.t
        · by_cases h5 : x.f.l = y.f.l
          · by_cases h6 : x.f.b = y.f.b
            · by_cases h7 : x.f.q = y.f.q
              · first | (go_simp; done) | (go_simp; simp [h1, h2, h3, h4, h5, h6, h7])
              · first | (go_simp; done) | (go_simp; simp [h1, h2, h3, h4, h5, h6, h7])
            · first | (go_simp; done) | (go_simp; simp [h1, h2, h3, h4, h5, h6])
          · first | (go_simp; done) | (go_simp; simp [h1, h2, h3, h4, h5])
        · first | (go_simp; done) | (go_simp; simp [h1, h2, h3, h4])
      · first | (go_simp; done) | (go_simp; simp [h1, h2, h3])
    · first | (go_simp; done) | (go_simp; simp [h1, h2])
  · first | (go_simp; done) | (go_simp; simp [h1])
set_option maxRecDepth 100000 in
set_option maxHeartbeats 16000000 in
theorem rset_ok (w : World) (R : Nat) (v : Value) (P : List Ed) (r c : Int) (p : Option Addr) (n cp : Nat) (l : List Rf) (hR : Own w R #[v]) (hP : RowD w 0 v P) (hs : SrtE P) (hv : VF w (.slice p n cp) l) (hc : mayC r c = true) (hm : ∀ f ∈ l, mayF f = true) (hz : P.length + l.length ≤ 2500000) : Calls Tryz.prog 26 #[.pointer (some ⟨R, 0, none⟩), .agg #[.int .i64 r, .int .i64 c], .slice p n cp] w fun e w' => e = .returned (.int .i64 0) ∧ ∃ P', ROut w R v P' w' ∧ Ins P (⟨r, c, p, n, cp, l⟩ : Dv) l.length P' := by
  have mixed : Tryz.prog.follows .mixedOrders = true := by kernel_rfl
  have HPut : Hid (∀ W u P', Below w.heap.size w W → RowD W (w.heap.size + 1) u P' → ROut w R v P' (W.setCell ⟨R, 0, none⟩ u)) := (show _ from fun W u P' h1 h2 => ROut.put hR h1 (RowG.mono h2 (by omega)))
  obtain ⟨q0, cap0, e0, h1, h2, h3⟩ := RowG.view (sz := 7) (cs := Ed.cs) Ed.len hP
  obtain ⟨n0, hn0⟩ : ∃ n0, n0 = P.length := ⟨_, rfl⟩
  rw [← hn0] at e0 h1 h3
  have HN0 : Hid (n0 = P.length) := hn0
  have HP : Hid _ := h3
  have HRo : Hid (∀ W, Below w.heap.size w W → W.cell? ⟨R, 0, none⟩ = some (.slice q0 n0 cap0)) := (show _ from fun W hb => by rw [← e0]; exact (hR.keep hb).cell 0)
  have lR := hR.lt
  have HRl : Hid (∀ W, Below w.heap.size w W → Own W R #[v]) := (show _ from fun W hb => hR.keep hb)
  obtain ⟨p', n', cp', ev, hn, hcap, hmx, hp⟩ := hv
  injection ev with ev1 ev2 ev3
  subst ev1 ev2 ev3
  have HE : Hid (∀ i, i < n → ∃ b o x, p = some ⟨b, o, none⟩ ∧ b < w.heap.size ∧ l[i]? = some x ∧ mayF x = true ∧ ∀ j u, (Rf.cs x)[j]? = some u → w.cell? ⟨b, o + i * 5 + j, none⟩ = some u) := (show _ from fun i hi => by
    obtain ⟨b, o, rfl, hb, hcl⟩ := hp (by omega)
    obtain ⟨x, hx⟩ : ∃ x, l[i]? = some x := ⟨_, List.getElem?_eq_getElem (by omega)⟩
    exact ⟨b, o, x, rfl, hb, hx, hm x (List.mem_of_getElem? hx), hcl i x hx⟩)
  have HN : Hid (n = l.length) := hn
  have HC : Hid (∀ W, Calls Tryz.prog 48 #[.agg #[.int .i64 r, .int .i64 c]] W fun e w' => e = .returned (.bool true) ∧ Below W.heap.size W w') := (show _ from fun W => by rw [← hc]; exact rmay_any r c W)
  have HM : Hid (∀ f, mayF f = true → ∀ W, Calls Tryz.prog 49 #[.agg #[.bool f.m, .int .i64 f.t, .int .i64 f.l, .int .i64 f.b, .int .i64 f.q]] W fun e w' => e = .returned (.bool true) ∧ Below W.heap.size W w') := (show _ from fun f hf W => by rw [← hf]; exact rmayf_any f W)
  obtain ⟨i0, hi0, hz0, hzs, hzb⟩ := info_parts infoEd
  have HAP : Hid (∀ (W0 W : World) (u x : Value) (a kk : List Ed), RowD W W0.heap.size u a → VG 7 Ed.cs W x kk → Below W0.heap.size W0 W → a.length + kk.length ≤ 2513169434916 → ∀ ty, ∃ q' n' c' w', (Builtin.append_ #[47, 47] ty #[u, x]).run Tryz.prog W = .ok (.slice q' n' c') w' ∧ RowD w' W0.heap.size (.slice q' n' c') (a ++ kk) ∧ Below W0.heap.size W0 w') := (show _ from fun W0 W u x a kk k1 k2 k3 k4 ty => by
    obtain ⟨q', n', c', w', r1, r2, r3⟩ := app_piece Tryz.underlying47 hi0 hz0 hzs hzb rfl (by omega) Ed.len Ed.one k1 k2 k3.size (by omega) (by omega) ty
    exact ⟨q', n', c', w', r1, r2, k3.trans (r3.mono (Nat.le_refl _))⟩)
  have HA1 : Hid (∀ W (u : Value) (L : List Ed) vb (x : Ed), RowD W (w.heap.size + 1) u L → W.heap[vb]? = some (.cells x.cs.toArray 55 (0, 0)) → (w.heap.size + 1) ≤ W.heap.size → (L.length + 1) * 56 ≤ 140737488355328 → ∀ ty, ∃ v' w', (Builtin.append_ #[47, 47] ty #[u, .slice (some ⟨vb, 0, none⟩) 1 1]).run Tryz.prog W = .ok v' w' ∧ RowD w' (w.heap.size + 1) v' (L ++ [x]) ∧ Below (w.heap.size + 1) W w') := (show _ from fun W u L vb x r1 r2 r3 r4 ty => by
    obtain ⟨v', w', k1, k2, k3, _⟩ := app_one Tryz.underlying47 hi0 hz0 hzs hzb rfl (by omega) Ed.len Ed.one r1 r2 r3 r4 (by omega) ty
    exact ⟨v', w', k1, k2, k3⟩)
  have HS : Hid (SrtE P) := hs
  have Hz : Hid (n0 + n ≤ 2500000) := (show _ ≤ _ by omega)
  have hn0z : n0 ≤ 2500000 := by omega
  have hnz : n ≤ 2500000 := by omega
  clear hi0 hz0 hzs hzb i0 hR hP hs hc hm hz h3 e0 hn0 hn hp
  go_enter Tryz.func26, Tryz.ntmps26
  go_wp2_with (go_at_call 48; refine (HC.out _).mono ?_; rintro e w1 ⟨rfl, hb⟩; have hB1 : Below w.heap.size w w1 := bup zqb hb; have oC1 : Own w1 w.heap.size #[.int .i64 r, .int .i64 c] := Own.keep (by with_reducible (repeat' first | assumption | refine Own.drew ?_ | refine Own.drewN ?_ _ | (refine Own.at ?_; first | rfl | (simp; done)) | refine Own.past ?_ _)) hb; have lC1 := oC1.lt; clear hb)
  go_loopw [8] (fun u w' => ∃ i : Nat, u = .int .i64 i ∧ i ≤ n ∧ Below w.heap.size w w' ∧ Own w' w.heap.size #[.int .i64 r, .int .i64 c]) (fun u _ => n - (intOf u).toNat)
  case atStart => exact ⟨0, rfl, by omega, by with_reducible (repeat' first | assumption | exact Below.refl _ _ | refine Below.drew ?_ | refine bdrewN ?_ _ | refine Below.setCell ?_ (by first | exact Nat.le_refl _ | (simp; done) | (simp; omega) | omega) _ | refine Below.alloc ?_ (by first | exact Nat.le_refl _ | (simp; done) | (simp; omega) | omega) _), by with_reducible (repeat' first | assumption | refine Own.drew ?_ | refine Own.drewN ?_ _ | (refine Own.at ?_; first | rfl | (simp; done)) | refine Own.past ?_ _)⟩
  case round =>
    clear hB1 oC1 lC1
    obtain ⟨i, rfl, hi, hB, oC⟩ := hrel
    have zB := hB.size
    by_cases hlt : i < n
    · have hlt' : (i : Int) < n := by omega
      obtain ⟨b, o, f, rfl, hb, hf, hm, hcl⟩ := HE.out i hlt
      have y0 : wr.cell? ⟨b, o + i * 5, none⟩ = some (.bool f.m) := (hB.cell (p := ⟨b, o + i * 5, none⟩) hb).trans (hcl 0 _ rfl)
      have y1 : wr.cell? ⟨b, o + i * 5 + 1, none⟩ = some (.int .i64 f.t) := (hB.cell (p := ⟨b, o + i * 5 + 1, none⟩) hb).trans (hcl 1 _ rfl)
      have y2 : wr.cell? ⟨b, o + i * 5 + 2, none⟩ = some (.int .i64 f.l) := (hB.cell (p := ⟨b, o + i * 5 + 2, none⟩) hb).trans (hcl 2 _ rfl)
      have y3 : wr.cell? ⟨b, o + i * 5 + 3, none⟩ = some (.int .i64 f.b) := (hB.cell (p := ⟨b, o + i * 5 + 3, none⟩) hb).trans (hcl 3 _ rfl)
      have y4 : wr.cell? ⟨b, o + i * 5 + 4, none⟩ = some (.int .i64 f.q) := (hB.cell (p := ⟨b, o + i * 5 + 4, none⟩) hb).trans (hcl 4 _ rfl)
      have hbr : b < wr.heap.size := by omega
      have HMf := HM.out f hm
      have HMf : Hid (∀ W, Calls Tryz.prog 49 #[.agg #[.bool f.m, .int .i64 f.t, .int .i64 f.l, .int .i64 f.b, .int .i64 f.q]] W fun e w' => e = .returned (.bool true) ∧ Below W.heap.size W w') := HMf
      clear hf hm hcl
      go_wp2_with (go_at_call 49; refine (HMf.out _).mono ?_; rintro e wb ⟨rfl, hbb⟩; have hBb : Below w.heap.size w wb := bup zqb hbb; have oCb : Own wb w.heap.size #[.int .i64 r, .int .i64 c] := Own.keep (by with_reducible (repeat' first | assumption | refine Own.drew ?_ | refine Own.drewN ?_ _ | (refine Own.at ?_; first | rfl | (simp; done)) | refine Own.past ?_ _)) hbb; clear hbb)
      exact ⟨⟨i + 1, by go_num, by omega, by with_reducible (repeat' first | assumption | exact Below.refl _ _ | refine Below.drew ?_ | refine bdrewN ?_ _ | refine Below.setCell ?_ (by first | exact Nat.le_refl _ | (simp; done) | (simp; omega) | omega) _ | refine Below.alloc ?_ (by first | exact Nat.le_refl _ | (simp; done) | (simp; omega) | omega) _), by with_reducible (repeat' first | assumption | refine Own.drew ?_ | refine Own.drewN ?_ _ | (refine Own.at ?_; first | rfl | (simp; done)) | refine Own.past ?_ _)⟩, by simp [intOf] <;> omega⟩
    · have hlt' : ¬ (i : Int) < n := by omega
      have lC := oC.lt
      clear hlt hi
      go_wp2
      go_loopw [10, 11] (fun u10 u11 w' => ∃ i : Nat, u11 = .int .i64 i ∧ i ≤ n0 ∧ Hid (RowD w' (w.heap.size + 1) u10 ((P.take i).filter (fun e => !inC (⟨r, c, p, n, cp, l⟩ : Dv) e))) ∧ Below w.heap.size w w' ∧ Own w' w.heap.size #[.int .i64 r, .int .i64 c]) (fun _ u11 _ => n0 - (intOf u11).toNat)
      case atStart => exact ⟨0, rfl, by omega, (show RowD _ _ _ _ from RowG.nil _), by with_reducible (repeat' first | assumption | exact Below.refl _ _ | refine Below.drew ?_ | refine bdrewN ?_ _ | refine Below.setCell ?_ (by first | exact Nat.le_refl _ | (simp; done) | (simp; omega) | omega) _ | refine Below.alloc ?_ (by first | exact Nat.le_refl _ | (simp; done) | (simp; omega) | omega) _), by with_reducible (repeat' first | assumption | refine Own.drew ?_ | refine Own.drewN ?_ _ | (refine Own.at ?_; first | rfl | (simp; done)) | refine Own.past ?_ _)⟩
      case round =>
        clear hB oC zB lC hlt'
        obtain ⟨i, rfl, hi, HL, hB, oC⟩ := hrel
        have zB := hB.size
        have lC := oC.lt
        have c0 : wr.cell? ⟨w.heap.size, 0, none⟩ = some (.int .i64 r) := oC.cell 0
        have c1 : wr.cell? ⟨w.heap.size, 1, none⟩ = some (.int .i64 c) := oC.cell 1
        have cR := HRo.out wr hB
        have lRr : R < wr.heap.size := by omega
        by_cases hlt : i < n0
        · have hlt' : (i : Int) < n0 := by omega
          obtain ⟨g, rfl, hg, hcl⟩ := HP.out (by omega)
          obtain ⟨x, hx⟩ : ∃ x, P[i]? = some x := ⟨_, List.getElem?_eq_getElem (by rw [← HN0.out]; omega)⟩
          have y0 : wr.cell? ⟨g, i * 7, none⟩ = some (.int .i64 x.r) := (hB.cell (p := ⟨g, i * 7, none⟩) hg).trans (hcl i x hx 0 _ rfl)
          have y1 : wr.cell? ⟨g, i * 7 + 1, none⟩ = some (.int .i64 x.c) := (hB.cell (p := ⟨g, i * 7 + 1, none⟩) hg).trans (hcl i x hx 1 _ rfl)
          have y2 : wr.cell? ⟨g, i * 7 + 2, none⟩ = some (.bool x.f.m) := (hB.cell (p := ⟨g, i * 7 + 2, none⟩) hg).trans (hcl i x hx 2 _ rfl)
          have y3 : wr.cell? ⟨g, i * 7 + 3, none⟩ = some (.int .i64 x.f.t) := (hB.cell (p := ⟨g, i * 7 + 3, none⟩) hg).trans (hcl i x hx 3 _ rfl)
          have y4 : wr.cell? ⟨g, i * 7 + 4, none⟩ = some (.int .i64 x.f.l) := (hB.cell (p := ⟨g, i * 7 + 4, none⟩) hg).trans (hcl i x hx 4 _ rfl)
          have y5 : wr.cell? ⟨g, i * 7 + 5, none⟩ = some (.int .i64 x.f.b) := (hB.cell (p := ⟨g, i * 7 + 5, none⟩) hg).trans (hcl i x hx 5 _ rfl)
          have y6 : wr.cell? ⟨g, i * 7 + 6, none⟩ = some (.int .i64 x.f.q) := (hB.cell (p := ⟨g, i * 7 + 6, none⟩) hg).trans (hcl i x hx 6 _ rfl)
          have hgr : g < wr.heap.size := by omega
          have hne := neC x.r x.c r c
          have HLl : Hid ((((P.take i).filter (fun e => !inC (⟨r, c, p, n, cp, l⟩ : Dv) e)).length + 1) * 56 ≤ 140737488355328) := (show _ ≤ _ by
            have a1 := List.length_filter_le (fun e => !inC (⟨r, c, p, n, cp, l⟩ : Dv) e) (P.take i)
            rw [List.length_take] at a1
            have a2 := Nat.min_le_left i P.length
            omega)
          cases hsm : sameC x.r x.c r c
          · rw [hsm] at hne
            have HX : Hid ((P.take (i + 1)).filter (fun e => !inC (⟨r, c, p, n, cp, l⟩ : Dv) e) = (P.take i).filter (fun e => !inC (⟨r, c, p, n, cp, l⟩ : Dv) e) ++ [x]) := (show _ = _ by rw [List.take_succ, hx, List.filter_append]; simp [inC, hsm])
            clear hsm hx hcl
            go_wp2
            go_quiet (fail)
            go_wp2_with (at_builtin; go_loud (refine wpList_appx rfl _ _ _ _ rfl _ (.slice (some ⟨wr.heap.size, 0, none⟩) 1 1) rfl rfl (HA1.out _ _ _ wr.heap.size x (RowG.keep HL.out zqb) (heap_at (by simp)) (by simp; omega) HLl.out) (fun v' w3 hq => ?_); obtain ⟨r1, r2⟩ := hq; have R1 : Hid (RowD w3 (w.heap.size + 1) v' ((P.take i).filter (fun e => !inC (⟨r, c, p, n, cp, l⟩ : Dv) e) ++ [x])) := r1; have R2 : Below w.heap.size w w3 := (show Below w.heap.size w _ from by with_reducible (repeat' first | assumption | exact Below.refl _ _ | refine Below.drew ?_ | refine bdrewN ?_ _ | refine Below.setCell ?_ (by first | exact Nat.le_refl _ | (simp; done) | (simp; omega) | omega) _ | refine Below.alloc ?_ (by first | exact Nat.le_refl _ | (simp; done) | (simp; omega) | omega) _)).trans (r2.mono (by omega)); have oC3 : Own w3 w.heap.size #[.int .i64 r, .int .i64 c] := Own.low (by with_reducible (repeat' first | assumption | refine Own.drew ?_ | refine Own.drewN ?_ _ | (refine Own.at ?_; first | rfl | (simp; done)) | refine Own.past ?_ _)) r2 (by omega); clear r1 r2))
            all_goals exact ⟨⟨i + 1, by go_num, by omega, (show RowD _ _ _ _ from by rw [HX.out]; exact R1.out.keep zqb), by with_reducible (repeat' first | assumption | exact Below.refl _ _ | refine Below.drew ?_ | refine bdrewN ?_ _ | refine Below.setCell ?_ (by first | exact Nat.le_refl _ | (simp; done) | (simp; omega) | omega) _ | refine Below.alloc ?_ (by first | exact Nat.le_refl _ | (simp; done) | (simp; omega) | omega) _), by with_reducible (repeat' first | assumption | refine Own.drew ?_ | refine Own.drewN ?_ _ | (refine Own.at ?_; first | rfl | (simp; done)) | refine Own.past ?_ _)⟩, by simp [intOf] <;> omega⟩
          · rw [hsm] at hne
            have HX : Hid ((P.take (i + 1)).filter (fun e => !inC (⟨r, c, p, n, cp, l⟩ : Dv) e) = (P.take i).filter (fun e => !inC (⟨r, c, p, n, cp, l⟩ : Dv) e)) := (show _ = _ by rw [List.take_succ, hx, List.filter_append]; simp [inC, hsm])
            clear hsm hx hcl
            go_wp2
            go_quiet (fail)
            go_wp2
            exact ⟨⟨i + 1, by go_num, by omega, (show RowD _ _ _ _ from by rw [HX.out]; exact HL.out.keep zqb), by with_reducible (repeat' first | assumption | exact Below.refl _ _ | refine Below.drew ?_ | refine bdrewN ?_ _ | refine Below.setCell ?_ (by first | exact Nat.le_refl _ | (simp; done) | (simp; omega) | omega) _ | refine Below.alloc ?_ (by first | exact Nat.le_refl _ | (simp; done) | (simp; omega) | omega) _), by with_reducible (repeat' first | assumption | refine Own.drew ?_ | refine Own.drewN ?_ _ | (refine Own.at ?_; first | rfl | (simp; done)) | refine Own.past ?_ _)⟩, by simp [intOf] <;> omega⟩
        · have hlt' : ¬ (i : Int) < n0 := by omega
          have HI0 : Hid (Ins P (⟨r, c, p, n, cp, l⟩ : Dv) 0 (P.filter (fun e => !inC (⟨r, c, p, n, cp, l⟩ : Dv) e))) := Ins.first HS.out
          have HL0 : Hid (RowD wr (w.heap.size + 1) u10 (P.filter (fun e => !inC (⟨r, c, p, n, cp, l⟩ : Dv) e))) := (show RowD _ _ _ _ from by
            have q := HL.out
            rwa [List.take_of_length_le (by rw [← HN0.out]; omega)] at q)
          clear HL hi hlt
          go_wp2
          go_loopw [10, 12] (fun u10 u12 w' => ∃ (k : Nat) (L : List Ed), u12 = .int .i64 k ∧ k ≤ n ∧ Hid (RowD w' (w.heap.size + 1) u10 L) ∧ Hid (Ins P (⟨r, c, p, n, cp, l⟩ : Dv) k L) ∧ Below w.heap.size w w' ∧ Own w' w.heap.size #[.int .i64 r, .int .i64 c]) (fun _ u12 _ => n - (intOf u12).toNat)
          case atStart => exact ⟨0, _, rfl, by omega, (show RowD _ _ _ _ from HL0.out.keep zqb), HI0, by with_reducible (repeat' first | assumption | exact Below.refl _ _ | refine Below.drew ?_ | refine bdrewN ?_ _ | refine Below.setCell ?_ (by first | exact Nat.le_refl _ | (simp; done) | (simp; omega) | omega) _ | refine Below.alloc ?_ (by first | exact Nat.le_refl _ | (simp; done) | (simp; omega) | omega) _), by with_reducible (repeat' first | assumption | refine Own.drew ?_ | refine Own.drewN ?_ _ | (refine Own.at ?_; first | rfl | (simp; done)) | refine Own.past ?_ _)⟩
          case round =>
            clear hB oC zB lC c0 c1 cR lRr HL0 HI0 hlt'
            obtain ⟨k, L, rfl, hk, HL, HI, hB, oC⟩ := hrel
            have zB := hB.size
            have lC := oC.lt
            obtain ⟨qL, cL, rfl, hL1, hL2, hLv⟩ := RowG.view (sz := 7) (cs := Ed.cs) Ed.len HL.out
            obtain ⟨nL, hnL⟩ : ∃ nL, nL = L.length := ⟨_, rfl⟩
            have HnL : Hid (nL = L.length) := hnL
            have HLl : Hid (L.length ≤ 2500000) := (show _ ≤ _ by have h1 := HI.out.len; have h2 := Hz.out; have h3 := HN0.out; omega)
            have hnl : nL ≤ 2500000 := by rw [hnL]; exact HLl.out
            rw [← hnL] at hL1 hLv HL
            rw [← hnL]
            clear hnL
            by_cases hlk : k < n
            · have hlk' : (k : Int) < n := by omega
              obtain ⟨b, o, f, rfl, hb, hf, hm, hcl⟩ := HE.out k hlk
              have Hf : Hid (l[k]? = some f) := hf
              have y0 : wr.cell? ⟨b, o + k * 5, none⟩ = some (.bool f.m) := (hB.cell (p := ⟨b, o + k * 5, none⟩) hb).trans (hcl 0 _ rfl)
              have y1 : wr.cell? ⟨b, o + k * 5 + 1, none⟩ = some (.int .i64 f.t) := (hB.cell (p := ⟨b, o + k * 5 + 1, none⟩) hb).trans (hcl 1 _ rfl)
              have y2 : wr.cell? ⟨b, o + k * 5 + 2, none⟩ = some (.int .i64 f.l) := (hB.cell (p := ⟨b, o + k * 5 + 2, none⟩) hb).trans (hcl 2 _ rfl)
              have y3 : wr.cell? ⟨b, o + k * 5 + 3, none⟩ = some (.int .i64 f.b) := (hB.cell (p := ⟨b, o + k * 5 + 3, none⟩) hb).trans (hcl 3 _ rfl)
              have y4 : wr.cell? ⟨b, o + k * 5 + 4, none⟩ = some (.int .i64 f.q) := (hB.cell (p := ⟨b, o + k * 5 + 4, none⟩) hb).trans (hcl 4 _ rfl)
              have hbr : b < wr.heap.size := by omega
              have c0 : wr.cell? ⟨w.heap.size, 0, none⟩ = some (.int .i64 r) := oC.cell 0
              have c1 : wr.cell? ⟨w.heap.size, 1, none⟩ = some (.int .i64 c) := oC.cell 1
              clear hf hm hcl
              go_wp2
              go_region_held3 (fun w' => w'.cell? ⟨w.heap.size, 0, none⟩ = some (.int .i64 r) ∧ w'.cell? ⟨w.heap.size, 1, none⟩ = some (.int .i64 c) ∧ w'.cell? ⟨b, o + k * 5, none⟩ = some (.bool f.m) ∧ w'.cell? ⟨b, o + k * 5 + 1, none⟩ = some (.int .i64 f.t) ∧ w'.cell? ⟨b, o + k * 5 + 2, none⟩ = some (.int .i64 f.l) ∧ w'.cell? ⟨b, o + k * 5 + 3, none⟩ = some (.int .i64 f.b) ∧ w'.cell? ⟨b, o + k * 5 + 4, none⟩ = some (.int .i64 f.q)) ((repeat' apply And.intro) <;> (first | (go_keep; done) | (go_simp; done))) (fail)
              obtain ⟨W5, e5⟩ : ∃ W5 : World, W5 = (wr.alloc (.cells #[.int .i64 r, .int .i64 c, .bool f.m, .int .i64 f.t, .int .i64 f.l, .int .i64 f.b, .int .i64 f.q] 55)).drew := ⟨_, rfl⟩
              obtain ⟨xb, hxb⟩ : ∃ xb, xb = wr.heap.size := ⟨_, rfl⟩
              have oX5 : Own W5 xb #[.int .i64 r, .int .i64 c, .bool f.m, .int .i64 f.t, .int .i64 f.l, .int .i64 f.b, .int .i64 f.q] := (by rw [e5, hxb]; with_reducible (repeat' first | assumption | refine Own.drew ?_ | refine Own.drewN ?_ _ | (refine Own.at ?_; first | rfl | (simp; done)) | refine Own.past ?_ _))
              have oC5 : Own W5 w.heap.size #[.int .i64 r, .int .i64 c] := (by rw [e5]; with_reducible (repeat' first | assumption | refine Own.drew ?_ | refine Own.drewN ?_ _ | (refine Own.at ?_; first | rfl | (simp; done)) | refine Own.past ?_ _))
              have hB5 : Below w.heap.size w W5 := (by rw [e5]; with_reducible (repeat' first | assumption | exact Below.refl _ _ | refine Below.drew ?_ | refine bdrewN ?_ _ | refine Below.setCell ?_ (by first | exact Nat.le_refl _ | (simp; done) | (simp; omega) | omega) _ | refine Below.alloc ?_ (by first | exact Nat.le_refl _ | (simp; done) | (simp; omega) | omega) _))
              have hB05 : Below wr.heap.size wr W5 := (by rw [e5]; with_reducible (repeat' first | assumption | exact Below.refl _ _ | refine Below.drew ?_ | refine bdrewN ?_ _ | refine Below.setCell ?_ (by first | exact Nat.le_refl _ | (simp; done) | (simp; omega) | omega) _ | refine Below.alloc ?_ (by first | exact Nat.le_refl _ | (simp; done) | (simp; omega) | omega) _))
              have HL5 : Hid (RowD W5 (w.heap.size + 1) (.slice qL nL cL) L) := (show RowD _ _ _ _ from HL.out.keep hB05)
              have HLv : Hid (0 < nL → ∃ g, qL = some ⟨g, 0, none⟩ ∧ g < W5.heap.size ∧ ∀ i x, L[i]? = some x → ∀ j u, (Ed.cs x)[j]? = some u → W5.cell? ⟨g, i * 7 + j, none⟩ = some u) := (show _ → _ from fun h0 => by
                obtain ⟨g, k1, k2, k3⟩ := hLv h0
                exact ⟨g, k1, Nat.lt_of_lt_of_le k2 hB05.size, fun i x hi j u hu => (hB05.cell (p := ⟨g, i * 7 + j, none⟩) k2).trans (k3 i x hi j u hu)⟩)
              have HnilL : Hid (qL = none → (nL = 0 ∧ cL = 0)) := (show _ → _ from fun q => by
                rcases RowG.two HL.out with ⟨e1, _⟩ | ⟨g, cap', cur, e1, _⟩
                · injection e1 with _ e2 e3
                  exact ⟨e2, e3⟩
                · injection e1 with e2 _ _
                  rw [q] at e2
                  cases e2)
              have hqL : qL = none ∨ ∃ g, qL = some ⟨g, 0, none⟩ := by
                rcases RowG.two HL.out with ⟨e1, _⟩ | ⟨g, cap', cur, e1, _⟩
                · injection e1 with e2 _ _
                  exact .inl e2
                · injection e1 with e2 _ _
                  exact .inr ⟨g, e2⟩
              have z5 := hB5.size
              have lX5 := oX5.lt
              rw [← e5, ← hxb]
              clear e5 hxb hB05 HL hLv hB oC c0 c1 y0 y1 y2 y3 y4 zB lC hbr
              go_wp2
              go_loopw [14] (fun u14 w' => ∃ a : Nat, u14 = .int .i64 a ∧ a ≤ nL ∧ Hid (∀ j y, j < a → L[j]? = some y → cmpD y (⟨r, c, f⟩ : Ed) < 0) ∧ Below W5.heap.size W5 w') (fun u14 _ => nL - (intOf u14).toNat)
              case atStart => exact ⟨0, rfl, by omega, (show Hid _ from fun j y hj => absurd hj (Nat.not_lt_zero _)), by with_reducible (repeat' first | assumption | exact Below.refl _ _ | refine Below.drew ?_ | refine bdrewN ?_ _ | refine Below.setCell ?_ (by first | exact Nat.le_refl _ | (simp; done) | (simp; omega) | omega) _ | refine Below.alloc ?_ (by first | exact Nat.le_refl _ | (simp; done) | (simp; omega) | omega) _)⟩
              case round =>
                obtain ⟨a, rfl, ha, HLo, hBr⟩ := hrel
                have oXr := oX5.keep hBr
                have lXr := oXr.lt
                have rx0 : wr.cell? ⟨xb, 0, none⟩ = some (.int .i64 r) := oXr.cell 0
                have rx1 : wr.cell? ⟨xb, 1, none⟩ = some (.int .i64 c) := oXr.cell 1
                have rx2 : wr.cell? ⟨xb, 2, none⟩ = some (.bool f.m) := oXr.cell 2
                have rx3 : wr.cell? ⟨xb, 3, none⟩ = some (.int .i64 f.t) := oXr.cell 3
                have rx4 : wr.cell? ⟨xb, 4, none⟩ = some (.int .i64 f.l) := oXr.cell 4
                have rx5 : wr.cell? ⟨xb, 5, none⟩ = some (.int .i64 f.b) := oXr.cell 5
                have rx6 : wr.cell? ⟨xb, 6, none⟩ = some (.int .i64 f.q) := oXr.cell 6
                by_cases hla : a < nL
                · have hla' : (a : Int) < nL := by omega
                  have hltd : decide ((a : Int) < (nL : Int)) = true := by simpa using hla
                  obtain ⟨gl, rfl, hgl, hLc⟩ := HLv.out (by omega)
                  obtain ⟨y, hy⟩ : ∃ y, L[a]? = some y := ⟨_, List.getElem?_eq_getElem (by rw [← HnL.out]; omega)⟩
                  have Hy : Hid (L[a]? = some y) := hy
                  have HLc : Hid _ := hLc
                  have yw0 : W5.cell? ⟨gl, a * 7, none⟩ = some (.int .i64 y.r) := hLc a y hy 0 _ rfl
                  have yr0 : wr.cell? ⟨gl, a * 7, none⟩ = some (.int .i64 y.r) := (hBr.cell (p := ⟨gl, a * 7, none⟩) hgl).trans yw0
                  have yw1 : W5.cell? ⟨gl, a * 7 + 1, none⟩ = some (.int .i64 y.c) := hLc a y hy 1 _ rfl
                  have yr1 : wr.cell? ⟨gl, a * 7 + 1, none⟩ = some (.int .i64 y.c) := (hBr.cell (p := ⟨gl, a * 7 + 1, none⟩) hgl).trans yw1
                  have yw2 : W5.cell? ⟨gl, a * 7 + 2, none⟩ = some (.bool y.f.m) := hLc a y hy 2 _ rfl
                  have yr2 : wr.cell? ⟨gl, a * 7 + 2, none⟩ = some (.bool y.f.m) := (hBr.cell (p := ⟨gl, a * 7 + 2, none⟩) hgl).trans yw2
                  have yw3 : W5.cell? ⟨gl, a * 7 + 3, none⟩ = some (.int .i64 y.f.t) := hLc a y hy 3 _ rfl
                  have yr3 : wr.cell? ⟨gl, a * 7 + 3, none⟩ = some (.int .i64 y.f.t) := (hBr.cell (p := ⟨gl, a * 7 + 3, none⟩) hgl).trans yw3
                  have yw4 : W5.cell? ⟨gl, a * 7 + 4, none⟩ = some (.int .i64 y.f.l) := hLc a y hy 4 _ rfl
                  have yr4 : wr.cell? ⟨gl, a * 7 + 4, none⟩ = some (.int .i64 y.f.l) := (hBr.cell (p := ⟨gl, a * 7 + 4, none⟩) hgl).trans yw4
                  have yw5 : W5.cell? ⟨gl, a * 7 + 5, none⟩ = some (.int .i64 y.f.b) := hLc a y hy 5 _ rfl
                  have yr5 : wr.cell? ⟨gl, a * 7 + 5, none⟩ = some (.int .i64 y.f.b) := (hBr.cell (p := ⟨gl, a * 7 + 5, none⟩) hgl).trans yw5
                  have yw6 : W5.cell? ⟨gl, a * 7 + 6, none⟩ = some (.int .i64 y.f.q) := hLc a y hy 6 _ rfl
                  have yr6 : wr.cell? ⟨gl, a * 7 + 6, none⟩ = some (.int .i64 y.f.q) := (hBr.cell (p := ⟨gl, a * 7 + 6, none⟩) hgl).trans yw6
                  have hglr : gl < wr.heap.size := Nat.lt_of_lt_of_le hgl hBr.size
                  have hah := ahead_any y (⟨r, c, f⟩ : Ed)
                  have heq := eqEdG y (⟨r, c, f⟩ : Ed)
                  clear hy hLc
                  cases hd : decide (cmpD y (⟨r, c, f⟩ : Ed) < 0)
                  · have HAh : Hid (∀ W, Calls Tryz.prog 50 #[.agg #[.int .i64 y.r, .int .i64 y.c, .bool y.f.m, .int .i64 y.f.t, .int .i64 y.f.l, .int .i64 y.f.b, .int .i64 y.f.q], .agg #[.int .i64 r, .int .i64 c, .bool f.m, .int .i64 f.t, .int .i64 f.l, .int .i64 f.b, .int .i64 f.q]] W fun e w' => e = .returned (.bool false) ∧ Below W.heap.size W w') := (show _ from fun W => by have h := hah W; rw [hd] at h; exact h)
                    have Hd : Hid (0 ≤ cmpD y (⟨r, c, f⟩ : Ed)) := (show _ ≤ _ from by have h := of_decide_eq_false hd; exact Int.not_lt.1 h)
                    clear hd hah
                    go_wp2
                    go_region_held3 (fun w' => w'.cell? ⟨gl, a * 7, none⟩ = some (.int .i64 y.r) ∧ w'.cell? ⟨gl, a * 7 + 1, none⟩ = some (.int .i64 y.c) ∧ w'.cell? ⟨gl, a * 7 + 2, none⟩ = some (.bool y.f.m) ∧ w'.cell? ⟨gl, a * 7 + 3, none⟩ = some (.int .i64 y.f.t) ∧ w'.cell? ⟨gl, a * 7 + 4, none⟩ = some (.int .i64 y.f.l) ∧ w'.cell? ⟨gl, a * 7 + 5, none⟩ = some (.int .i64 y.f.b) ∧ w'.cell? ⟨gl, a * 7 + 6, none⟩ = some (.int .i64 y.f.q) ∧ w'.cell? ⟨xb, 0, none⟩ = some (.int .i64 r) ∧ w'.cell? ⟨xb, 1, none⟩ = some (.int .i64 c) ∧ w'.cell? ⟨xb, 2, none⟩ = some (.bool f.m) ∧ w'.cell? ⟨xb, 3, none⟩ = some (.int .i64 f.t) ∧ w'.cell? ⟨xb, 4, none⟩ = some (.int .i64 f.l) ∧ w'.cell? ⟨xb, 5, none⟩ = some (.int .i64 f.b) ∧ w'.cell? ⟨xb, 6, none⟩ = some (.int .i64 f.q)) ((repeat' apply And.intro) <;> (first | (go_keep; done) | (go_simp; done))) ((go_at_call 50; refine (HAh.out _).mono ?_; rintro e wa ⟨rfl, hba⟩; have hBa : Below W5.heap.size W5 wa := bup zqb hba; have oXa := oX5.keep hBa; have ay0 : wa.cell? ⟨gl, a * 7, none⟩ = some (.int .i64 y.r) := (hBa.cell (p := ⟨gl, a * 7, none⟩) hgl).trans yw0; have ay1 : wa.cell? ⟨gl, a * 7 + 1, none⟩ = some (.int .i64 y.c) := (hBa.cell (p := ⟨gl, a * 7 + 1, none⟩) hgl).trans yw1; have ay2 : wa.cell? ⟨gl, a * 7 + 2, none⟩ = some (.bool y.f.m) := (hBa.cell (p := ⟨gl, a * 7 + 2, none⟩) hgl).trans yw2; have ay3 : wa.cell? ⟨gl, a * 7 + 3, none⟩ = some (.int .i64 y.f.t) := (hBa.cell (p := ⟨gl, a * 7 + 3, none⟩) hgl).trans yw3; have ay4 : wa.cell? ⟨gl, a * 7 + 4, none⟩ = some (.int .i64 y.f.l) := (hBa.cell (p := ⟨gl, a * 7 + 4, none⟩) hgl).trans yw4; have ay5 : wa.cell? ⟨gl, a * 7 + 5, none⟩ = some (.int .i64 y.f.b) := (hBa.cell (p := ⟨gl, a * 7 + 5, none⟩) hgl).trans yw5; have ay6 : wa.cell? ⟨gl, a * 7 + 6, none⟩ = some (.int .i64 y.f.q) := (hBa.cell (p := ⟨gl, a * 7 + 6, none⟩) hgl).trans yw6; have ax0 : wa.cell? ⟨xb, 0, none⟩ = some (.int .i64 r) := oXa.cell 0; have ax1 : wa.cell? ⟨xb, 1, none⟩ = some (.int .i64 c) := oXa.cell 1; have ax2 : wa.cell? ⟨xb, 2, none⟩ = some (.bool f.m) := oXa.cell 2; have ax3 : wa.cell? ⟨xb, 3, none⟩ = some (.int .i64 f.t) := oXa.cell 3; have ax4 : wa.cell? ⟨xb, 4, none⟩ = some (.int .i64 f.l) := oXa.cell 4; have ax5 : wa.cell? ⟨xb, 5, none⟩ = some (.int .i64 f.b) := oXa.cell 5; have ax6 : wa.cell? ⟨xb, 6, none⟩ = some (.int .i64 f.q) := oXa.cell 6; have lXa := oXa.lt; have hgla : gl < wa.heap.size := Nat.lt_of_lt_of_le hgl hBa.size; clear hba))
                    cases hsm : sEd y (⟨r, c, f⟩ : Ed)
                    · rw [hsm] at heq
                      have heq : ∀ w : World, (binOp .eql 55 (.agg #[.int .i64 y.r, .int .i64 y.c, .bool y.f.m, .int .i64 y.f.t, .int .i64 y.f.l, .int .i64 y.f.b, .int .i64 y.f.q]) (.agg #[.int .i64 r, .int .i64 c, .bool f.m, .int .i64 f.t, .int .i64 f.l, .int .i64 f.b, .int .i64 f.q])).run Tryz.prog w = .ok (.bool false) w := heq
                      have HIm : Hid (Ins P (⟨r, c, some ⟨b, o, none⟩, n, cp, l⟩ : Dv) (k + 1) (L.take a ++ [(⟨r, c, f⟩ : Ed)] ++ L.drop a)) := (show Ins _ _ _ _ from HI.out.more Hf.out (by rw [← HnL.out]; omega) HLo.out (fun z hz => by rw [Hy.out] at hz; injection hz with hz; subst hz; exact ⟨Hd.out, fun q => by rw [sEd_is.2 q] at hsm; cases hsm⟩))
                      clear hsm
                      have hci : ¬ cL = a := by omega
                      have hk2 : (a : Int) ≤ cL := by omega
                      have hk3 : (a : Int) ≤ nL := by omega
                      go_wp2
                      go_quiet (fail)
                      obtain ⟨W0, e0⟩ : ∃ W0 : World, W0 = wa.drewN nq := ⟨_, rfl⟩
                      have hBW0 : Below w.heap.size w W0 := (by rw [e0]; exact bdrewN (hB5.trans (hBa.mono hB5.size)) _)
                      have hB5W : Below W5.heap.size W5 W0 := (by rw [e0]; exact bdrewN hBa _)
                      rw [← e0]
                      clear e0
                      have oX0 : Own W0 xb #[.int .i64 r, .int .i64 c, .bool f.m, .int .i64 f.t, .int .i64 f.l, .int .i64 f.b, .int .i64 f.q] := oX5.keep hB5W
                      have oCW0 : Own W0 w.heap.size #[.int .i64 r, .int .i64 c] := oC5.keep hB5W
                      have zW0 := hBW0.size
                      have z5W := hB5W.size
                      have a0x0 : W0.cell? ⟨xb, 0, none⟩ = some (.int .i64 r) := oX0.cell 0; have a0x1 : W0.cell? ⟨xb, 1, none⟩ = some (.int .i64 c) := oX0.cell 1; have a0x2 : W0.cell? ⟨xb, 2, none⟩ = some (.bool f.m) := oX0.cell 2; have a0x3 : W0.cell? ⟨xb, 3, none⟩ = some (.int .i64 f.t) := oX0.cell 3; have a0x4 : W0.cell? ⟨xb, 4, none⟩ = some (.int .i64 f.l) := oX0.cell 4; have a0x5 : W0.cell? ⟨xb, 5, none⟩ = some (.int .i64 f.b) := oX0.cell 5; have a0x6 : W0.cell? ⟨xb, 6, none⟩ = some (.int .i64 f.q) := oX0.cell 6
                      have lX0 := oX0.lt
                      have lCW := oCW0.lt
                      have t1 : True := trivial
                      have t2 : True := trivial
                      have t3 : True := trivial
                      have HT : Hid (VG 7 Ed.cs W0 (.slice (some ⟨gl, 0, none⟩) a cL) (L.take a)) := (show VG _ _ _ _ _ from by
                        have := VG.cut (w := W0) (cap := cL) Ed.len (fun i x hi j u hu => (hB5W.cell (p := ⟨gl, i * 7 + j, none⟩) hgl).trans (HLc.out i x hi j u hu)) 0 a (by rw [← HnL.out]; omega)
                        rwa [Nat.zero_mul, List.drop_zero] at this)
                      have HE2 : Hid (∀ W, Below W0.heap.size W0 W → VG 7 Ed.cs W (.slice (some ⟨gl, a * 7, none⟩) (nL - a) (cL - a)) (L.drop a)) := (show _ from fun W hb => by
                        have := VG.cut (w := W) (cap := cL - a) Ed.len (fun i x hi j u hu => ((Below.trans hB5W (hb.mono z5W)).cell (p := ⟨gl, i * 7 + j, none⟩) hgl).trans (HLc.out i x hi j u hu)) a (nL - a) (by rw [← HnL.out]; omega)
                        rwa [List.take_of_length_le (by rw [List.length_drop, ← HnL.out]; exact Nat.le_refl _)] at this)
                      go_wp2_with (first
                        | (at_builtin; clear t1; obtain ⟨q2, n2, c2, w2, hr, r2, b2⟩ := HAP.out W0 _ (.slice none 0 0) _ ([]) (L.take a) (RowG.nil _) (HT.out) (Below.refl _ _) (by have := HLl.out; have := HnL.out; simp only [List.length_append, List.length_cons, List.length_nil, List.length_take, List.length_drop]; omega) _; refine wpList_app3 rfl _ _ _ _ rfl _ _ rfl rfl _ w2 hr ?_; have R2 : Hid (RowD w2 W0.heap.size (.slice q2 n2 c2) ([] ++ L.take a)) := r2; have zz2 := b2.size; have oX2 := oX0.keep b2; have b2x0 : w2.cell? ⟨xb, 0, none⟩ = some (.int .i64 r) := oX2.cell 0; have b2x1 : w2.cell? ⟨xb, 1, none⟩ = some (.int .i64 c) := oX2.cell 1; have b2x2 : w2.cell? ⟨xb, 2, none⟩ = some (.bool f.m) := oX2.cell 2; have b2x3 : w2.cell? ⟨xb, 3, none⟩ = some (.int .i64 f.t) := oX2.cell 3; have b2x4 : w2.cell? ⟨xb, 4, none⟩ = some (.int .i64 f.l) := oX2.cell 4; have b2x5 : w2.cell? ⟨xb, 5, none⟩ = some (.int .i64 f.b) := oX2.cell 5; have b2x6 : w2.cell? ⟨xb, 6, none⟩ = some (.int .i64 f.q) := oX2.cell 6; have lX2 := oX2.lt; clear hr r2)
                        | (at_builtin; clear t2; obtain ⟨q3, n3, c3, w3, hr, r3, b3⟩ := HAP.out W0 _ (.slice q2 n2 c2) _ ([] ++ L.take a) ([(⟨r, c, f⟩ : Ed)]) (RowG.keep R2.out zqb) (VG.one (heap_at rfl)) zqb (by have := HLl.out; have := HnL.out; simp only [List.length_append, List.length_cons, List.length_nil, List.length_take, List.length_drop]; omega) _; refine wpList_app3 rfl _ _ _ _ rfl _ _ rfl rfl _ w3 hr ?_; have R3 : Hid (RowD w3 W0.heap.size (.slice q3 n3 c3) ([] ++ L.take a ++ [(⟨r, c, f⟩ : Ed)])) := r3; have zz3 := b3.size; clear hr r3)
                        | (at_builtin; clear t3; obtain ⟨q4, n4, c4, w4, hr, r4, b4⟩ := HAP.out W0 _ (.slice q3 n3 c3) _ ([] ++ L.take a ++ [(⟨r, c, f⟩ : Ed)]) (L.drop a) R3.out (HE2.out _ b3) b3 (by have := HLl.out; have := HnL.out; simp only [List.length_append, List.length_cons, List.length_nil, List.length_take, List.length_drop]; omega) _; refine wpList_app3 rfl _ _ _ _ rfl _ _ rfl rfl _ w4 hr ?_; have R4 : Hid (RowD w4 W0.heap.size (.slice q4 n4 c4) ([] ++ L.take a ++ [(⟨r, c, f⟩ : Ed)] ++ L.drop a)) := r4; have zz4 := b4.size; have hB4 : Below w.heap.size w w4 := bup hBW0 b4; have oC4 := oCW0.keep b4; clear hr r4))
                      exact ⟨⟨k + 1, L.take a ++ [(⟨r, c, f⟩ : Ed)] ++ L.drop a, by go_num, by omega, (show RowD _ _ _ _ from by have q := R4.out; rw [List.nil_append] at q; exact RowG.mono (q.keep zqb) (by omega)), HIm, by with_reducible (repeat' first | assumption | exact Below.refl _ _ | refine Below.drew ?_ | refine bdrewN ?_ _ | refine Below.setCell ?_ (by first | exact Nat.le_refl _ | (simp; done) | (simp; omega) | omega) _ | refine Below.alloc ?_ (by first | exact Nat.le_refl _ | (simp; done) | (simp; omega) | omega) _), by with_reducible (repeat' first | assumption | refine Own.drew ?_ | refine Own.drewN ?_ _ | (refine Own.at ?_; first | rfl | (simp; done)) | refine Own.past ?_ _)⟩, by simp [intOf] <;> omega⟩
                    · have hxy := sEd_is.1 hsm
                      rw [hsm] at heq
                      have heq : ∀ w : World, (binOp .eql 55 (.agg #[.int .i64 y.r, .int .i64 y.c, .bool y.f.m, .int .i64 y.f.t, .int .i64 y.f.l, .int .i64 y.f.b, .int .i64 y.f.q]) (.agg #[.int .i64 r, .int .i64 c, .bool f.m, .int .i64 f.t, .int .i64 f.l, .int .i64 f.b, .int .i64 f.q])).run Tryz.prog w = .ok (.bool true) w := heq
                      have HIs : Hid (Ins P (⟨r, c, some ⟨b, o, none⟩, n, cp, l⟩ : Dv) (k + 1) L) := (show Ins _ _ _ _ from HI.out.same Hf.out (by have := List.mem_of_getElem? Hy.out; rwa [hxy] at this))
                      have oCa := oC5.keep hBa
                      have hBwa : Below w.heap.size w wa := hB5.trans (hBa.mono hB5.size)
                      clear hsm hxy
                      go_wp2
                      go_quiet (fail)
                      go_wp2
                      exact ⟨⟨k + 1, L, by go_num, by omega, (show RowD _ _ _ _ from (HL5.out.keep hBa).keep zqb), HIs, by with_reducible (repeat' first | assumption | exact Below.refl _ _ | refine Below.drew ?_ | refine bdrewN ?_ _ | refine Below.setCell ?_ (by first | exact Nat.le_refl _ | (simp; done) | (simp; omega) | omega) _ | refine Below.alloc ?_ (by first | exact Nat.le_refl _ | (simp; done) | (simp; omega) | omega) _), by with_reducible (repeat' first | assumption | refine Own.drew ?_ | refine Own.drewN ?_ _ | (refine Own.at ?_; first | rfl | (simp; done)) | refine Own.past ?_ _)⟩, by simp [intOf] <;> omega⟩
                  · have HAh : Hid (∀ W, Calls Tryz.prog 50 #[.agg #[.int .i64 y.r, .int .i64 y.c, .bool y.f.m, .int .i64 y.f.t, .int .i64 y.f.l, .int .i64 y.f.b, .int .i64 y.f.q], .agg #[.int .i64 r, .int .i64 c, .bool f.m, .int .i64 f.t, .int .i64 f.l, .int .i64 f.b, .int .i64 f.q]] W fun e w' => e = .returned (.bool true) ∧ Below W.heap.size W w') := (show _ from fun W => by have h := hah W; rw [hd] at h; exact h)
                    have HL2 : Hid (∀ j y, j < a + 1 → L[j]? = some y → cmpD y (⟨r, c, f⟩ : Ed) < 0) := (show _ from fun j z hj hz => by
                      by_cases e : j = a
                      · subst e; rw [Hy.out] at hz; injection hz with hz; subst hz; exact of_decide_eq_true hd
                      · exact HLo.out j z (by omega) hz)
                    clear hd hah heq
                    go_wp2
                    go_region_held3 (fun w' => w'.cell? ⟨gl, a * 7, none⟩ = some (.int .i64 y.r) ∧ w'.cell? ⟨gl, a * 7 + 1, none⟩ = some (.int .i64 y.c) ∧ w'.cell? ⟨gl, a * 7 + 2, none⟩ = some (.bool y.f.m) ∧ w'.cell? ⟨gl, a * 7 + 3, none⟩ = some (.int .i64 y.f.t) ∧ w'.cell? ⟨gl, a * 7 + 4, none⟩ = some (.int .i64 y.f.l) ∧ w'.cell? ⟨gl, a * 7 + 5, none⟩ = some (.int .i64 y.f.b) ∧ w'.cell? ⟨gl, a * 7 + 6, none⟩ = some (.int .i64 y.f.q) ∧ w'.cell? ⟨xb, 0, none⟩ = some (.int .i64 r) ∧ w'.cell? ⟨xb, 1, none⟩ = some (.int .i64 c) ∧ w'.cell? ⟨xb, 2, none⟩ = some (.bool f.m) ∧ w'.cell? ⟨xb, 3, none⟩ = some (.int .i64 f.t) ∧ w'.cell? ⟨xb, 4, none⟩ = some (.int .i64 f.l) ∧ w'.cell? ⟨xb, 5, none⟩ = some (.int .i64 f.b) ∧ w'.cell? ⟨xb, 6, none⟩ = some (.int .i64 f.q)) ((repeat' apply And.intro) <;> (first | (go_keep; done) | (go_simp; done))) ((go_at_call 50; refine (HAh.out _).mono ?_; rintro e wa ⟨rfl, hba⟩; have hBa : Below W5.heap.size W5 wa := bup zqb hba; have oXa := oX5.keep hBa; have ay0 : wa.cell? ⟨gl, a * 7, none⟩ = some (.int .i64 y.r) := (hBa.cell (p := ⟨gl, a * 7, none⟩) hgl).trans yw0; have ay1 : wa.cell? ⟨gl, a * 7 + 1, none⟩ = some (.int .i64 y.c) := (hBa.cell (p := ⟨gl, a * 7 + 1, none⟩) hgl).trans yw1; have ay2 : wa.cell? ⟨gl, a * 7 + 2, none⟩ = some (.bool y.f.m) := (hBa.cell (p := ⟨gl, a * 7 + 2, none⟩) hgl).trans yw2; have ay3 : wa.cell? ⟨gl, a * 7 + 3, none⟩ = some (.int .i64 y.f.t) := (hBa.cell (p := ⟨gl, a * 7 + 3, none⟩) hgl).trans yw3; have ay4 : wa.cell? ⟨gl, a * 7 + 4, none⟩ = some (.int .i64 y.f.l) := (hBa.cell (p := ⟨gl, a * 7 + 4, none⟩) hgl).trans yw4; have ay5 : wa.cell? ⟨gl, a * 7 + 5, none⟩ = some (.int .i64 y.f.b) := (hBa.cell (p := ⟨gl, a * 7 + 5, none⟩) hgl).trans yw5; have ay6 : wa.cell? ⟨gl, a * 7 + 6, none⟩ = some (.int .i64 y.f.q) := (hBa.cell (p := ⟨gl, a * 7 + 6, none⟩) hgl).trans yw6; have ax0 : wa.cell? ⟨xb, 0, none⟩ = some (.int .i64 r) := oXa.cell 0; have ax1 : wa.cell? ⟨xb, 1, none⟩ = some (.int .i64 c) := oXa.cell 1; have ax2 : wa.cell? ⟨xb, 2, none⟩ = some (.bool f.m) := oXa.cell 2; have ax3 : wa.cell? ⟨xb, 3, none⟩ = some (.int .i64 f.t) := oXa.cell 3; have ax4 : wa.cell? ⟨xb, 4, none⟩ = some (.int .i64 f.l) := oXa.cell 4; have ax5 : wa.cell? ⟨xb, 5, none⟩ = some (.int .i64 f.b) := oXa.cell 5; have ax6 : wa.cell? ⟨xb, 6, none⟩ = some (.int .i64 f.q) := oXa.cell 6; clear hba))
                    go_wp2
                    exact ⟨⟨a + 1, by go_num, by omega, HL2, by with_reducible (repeat' first | assumption | exact Below.refl _ _ | refine Below.drew ?_ | refine bdrewN ?_ _ | refine Below.setCell ?_ (by first | exact Nat.le_refl _ | (simp; done) | (simp; omega) | omega) _ | refine Below.alloc ?_ (by first | exact Nat.le_refl _ | (simp; done) | (simp; omega) | omega) _)⟩, by simp [intOf] <;> omega⟩
                · have hla' : ¬ (a : Int) < nL := by omega
                  have han : a = nL := by omega
                  have HIm : Hid (Ins P (⟨r, c, some ⟨b, o, none⟩, n, cp, l⟩ : Dv) (k + 1) (L.take a ++ [(⟨r, c, f⟩ : Ed)] ++ L.drop a)) := (show Ins _ _ _ _ from HI.out.more Hf.out (by rw [← HnL.out]; omega) HLo.out (fun z hz => by have := (List.getElem?_eq_some_iff.1 hz).1; have := HnL.out; omega))
                  have HD0 : Hid (L.drop a = []) := List.drop_of_length_le (by rw [← HnL.out]; omega)
                  clear hla
                  go_wp2
                  go_quiet (fail)
                  obtain ⟨Wq, eq0⟩ : ∃ Wq : World, Wq = wr.drewN nq := ⟨_, rfl⟩
                  have hBq : Below W5.heap.size W5 Wq := (by rw [eq0]; exact bdrewN hBr _)
                  rw [← eq0]
                  clear eq0
                  go_wp2
                  go_quiet (fail)
                  obtain ⟨W0, e0⟩ : ∃ W0 : World, W0 = Wq.drewN nq := ⟨_, rfl⟩
                  have hBW0 : Below w.heap.size w W0 := (by rw [e0]; exact bdrewN (hB5.trans (hBq.mono hB5.size)) _)
                  have hB5W : Below W5.heap.size W5 W0 := (by rw [e0]; exact bdrewN hBq _)
                  rw [← e0]
                  clear e0
                  have oX0 : Own W0 xb #[.int .i64 r, .int .i64 c, .bool f.m, .int .i64 f.t, .int .i64 f.l, .int .i64 f.b, .int .i64 f.q] := oX5.keep hB5W
                  have oCW0 : Own W0 w.heap.size #[.int .i64 r, .int .i64 c] := oC5.keep hB5W
                  have zW0 := hBW0.size
                  have z5W := hB5W.size
                  have a0x0 : W0.cell? ⟨xb, 0, none⟩ = some (.int .i64 r) := oX0.cell 0; have a0x1 : W0.cell? ⟨xb, 1, none⟩ = some (.int .i64 c) := oX0.cell 1; have a0x2 : W0.cell? ⟨xb, 2, none⟩ = some (.bool f.m) := oX0.cell 2; have a0x3 : W0.cell? ⟨xb, 3, none⟩ = some (.int .i64 f.t) := oX0.cell 3; have a0x4 : W0.cell? ⟨xb, 4, none⟩ = some (.int .i64 f.l) := oX0.cell 4; have a0x5 : W0.cell? ⟨xb, 5, none⟩ = some (.int .i64 f.b) := oX0.cell 5; have a0x6 : W0.cell? ⟨xb, 6, none⟩ = some (.int .i64 f.q) := oX0.cell 6
                  have lX0 := oX0.lt
                  have lCW := oCW0.lt
                  have t1 : True := trivial
                  have t2 : True := trivial
                  have t3 : True := trivial
                  have hk2 : (a : Int) ≤ cL := by omega
                  have hk3 : (a : Int) ≤ nL := by omega
                  rcases hqL with hq | ⟨gl, hq⟩
                  · obtain ⟨e1, e2⟩ := HnilL.out hq
                    subst hq
                    have ha0 : a = 0 := by omega
                    clear HnilL
                    subst e1 e2 ha0
                    go_wp2_with (first
                      | (at_builtin; clear t1; obtain ⟨q2, n2, c2, w2, hr, r2, b2⟩ := HAP.out W0 _ (.slice none 0 0) _ ([]) (L.take 0) (RowG.nil _) (.inl ⟨rfl, by simp⟩) (Below.refl _ _) (by have := HLl.out; have := HnL.out; simp only [List.length_append, List.length_cons, List.length_nil, List.length_take, List.length_drop]; omega) _; refine wpList_app3 rfl _ _ _ _ rfl _ _ rfl rfl _ w2 hr ?_; have R2 : Hid (RowD w2 W0.heap.size (.slice q2 n2 c2) ([] ++ L.take 0)) := r2; have zz2 := b2.size; have oX2 := oX0.keep b2; have b2x0 : w2.cell? ⟨xb, 0, none⟩ = some (.int .i64 r) := oX2.cell 0; have b2x1 : w2.cell? ⟨xb, 1, none⟩ = some (.int .i64 c) := oX2.cell 1; have b2x2 : w2.cell? ⟨xb, 2, none⟩ = some (.bool f.m) := oX2.cell 2; have b2x3 : w2.cell? ⟨xb, 3, none⟩ = some (.int .i64 f.t) := oX2.cell 3; have b2x4 : w2.cell? ⟨xb, 4, none⟩ = some (.int .i64 f.l) := oX2.cell 4; have b2x5 : w2.cell? ⟨xb, 5, none⟩ = some (.int .i64 f.b) := oX2.cell 5; have b2x6 : w2.cell? ⟨xb, 6, none⟩ = some (.int .i64 f.q) := oX2.cell 6; have lX2 := oX2.lt; clear hr r2)
                      | (at_builtin; clear t2; obtain ⟨q3, n3, c3, w3, hr, r3, b3⟩ := HAP.out W0 _ (.slice q2 n2 c2) _ ([] ++ L.take 0) ([(⟨r, c, f⟩ : Ed)]) (RowG.keep R2.out zqb) (VG.one (heap_at rfl)) zqb (by have := HLl.out; have := HnL.out; simp only [List.length_append, List.length_cons, List.length_nil, List.length_take, List.length_drop]; omega) _; refine wpList_app3 rfl _ _ _ _ rfl _ _ rfl rfl _ w3 hr ?_; have R3 : Hid (RowD w3 W0.heap.size (.slice q3 n3 c3) ([] ++ L.take 0 ++ [(⟨r, c, f⟩ : Ed)])) := r3; have zz3 := b3.size; clear hr r3)
                      | (at_builtin; clear t3; obtain ⟨q4, n4, c4, w4, hr, r4, b4⟩ := HAP.out W0 _ (.slice q3 n3 c3) _ ([] ++ L.take 0 ++ [(⟨r, c, f⟩ : Ed)]) (L.drop 0) R3.out (.inl ⟨rfl, HD0.out⟩) b3 (by have := HLl.out; have := HnL.out; simp only [List.length_append, List.length_cons, List.length_nil, List.length_take, List.length_drop]; omega) _; refine wpList_app3 rfl _ _ _ _ rfl _ _ rfl rfl _ w4 hr ?_; have R4 : Hid (RowD w4 W0.heap.size (.slice q4 n4 c4) ([] ++ L.take 0 ++ [(⟨r, c, f⟩ : Ed)] ++ L.drop 0)) := r4; have zz4 := b4.size; have hB4 : Below w.heap.size w w4 := bup hBW0 b4; have oC4 := oCW0.keep b4; clear hr r4))
                    exact ⟨⟨k + 1, L.take 0 ++ [(⟨r, c, f⟩ : Ed)] ++ L.drop 0, by go_num, by omega, (show RowD _ _ _ _ from by have q := R4.out; rw [List.nil_append] at q; exact RowG.mono (q.keep zqb) (by omega)), HIm, by with_reducible (repeat' first | assumption | exact Below.refl _ _ | refine Below.drew ?_ | refine bdrewN ?_ _ | refine Below.setCell ?_ (by first | exact Nat.le_refl _ | (simp; done) | (simp; omega) | omega) _ | refine Below.alloc ?_ (by first | exact Nat.le_refl _ | (simp; done) | (simp; omega) | omega) _), by with_reducible (repeat' first | assumption | refine Own.drew ?_ | refine Own.drewN ?_ _ | (refine Own.at ?_; first | rfl | (simp; done)) | refine Own.past ?_ _)⟩, by simp [intOf] <;> omega⟩
                  · subst hq
                    have HLcE : Hid (nL = 0 ∨ (gl < W5.heap.size ∧ ∀ i x, L[i]? = some x → ∀ j u, (Ed.cs x)[j]? = some u → W5.cell? ⟨gl, i * 7 + j, none⟩ = some u)) := (show _ ∨ _ from by
                      by_cases h0 : 0 < nL
                      · obtain ⟨g2, k1, k2, k3⟩ := HLv.out h0
                        injection k1 with k1
                        injection k1 with k1
                        subst k1
                        exact .inr ⟨k2, k3⟩
                      · exact .inl (by omega))
                    have HT : Hid (VG 7 Ed.cs W0 (.slice (some ⟨gl, 0, none⟩) a cL) (L.take a)) := (show VG _ _ _ _ _ from by
                      rcases HLcE.out with e | ⟨e1, e2⟩
                      · have e3 : L = [] := List.length_eq_zero_iff.1 (HnL.out.symm.trans e)
                        refine .inr ⟨_, cL, by rw [e3, han, e]; rfl, fun j u hu => ?_⟩
                        rw [e3] at hu
                        simp [flatG] at hu
                      · have := VG.cut (w := W0) (cap := cL) Ed.len (fun i x hi j u hu => (hB5W.cell (p := ⟨gl, i * 7 + j, none⟩) e1).trans (e2 i x hi j u hu)) 0 a (by rw [← HnL.out]; omega)
                        rwa [Nat.zero_mul, List.drop_zero] at this)
                    by_cases hci : cL = a
                    · have HE2 : Hid (∀ W, VG 7 Ed.cs W (.slice (some ⟨gl, 0, none⟩) 0 0) (L.drop a)) := (show _ from fun W => by
                        rw [HD0.out]
                        exact .inr ⟨_, 0, rfl, fun j u hu => by simp [flatG] at hu⟩)
                      subst hci
                      subst han
                      go_wp2_with (first
                        | (at_builtin; clear t1; obtain ⟨q2, n2, c2, w2, hr, r2, b2⟩ := HAP.out W0 _ (.slice none 0 0) _ ([]) (L.take cL) (RowG.nil _) (HT.out) (Below.refl _ _) (by have := HLl.out; have := HnL.out; simp only [List.length_append, List.length_cons, List.length_nil, List.length_take, List.length_drop]; omega) _; refine wpList_app3 rfl _ _ _ _ rfl _ _ rfl rfl _ w2 hr ?_; have R2 : Hid (RowD w2 W0.heap.size (.slice q2 n2 c2) ([] ++ L.take cL)) := r2; have zz2 := b2.size; have oX2 := oX0.keep b2; have b2x0 : w2.cell? ⟨xb, 0, none⟩ = some (.int .i64 r) := oX2.cell 0; have b2x1 : w2.cell? ⟨xb, 1, none⟩ = some (.int .i64 c) := oX2.cell 1; have b2x2 : w2.cell? ⟨xb, 2, none⟩ = some (.bool f.m) := oX2.cell 2; have b2x3 : w2.cell? ⟨xb, 3, none⟩ = some (.int .i64 f.t) := oX2.cell 3; have b2x4 : w2.cell? ⟨xb, 4, none⟩ = some (.int .i64 f.l) := oX2.cell 4; have b2x5 : w2.cell? ⟨xb, 5, none⟩ = some (.int .i64 f.b) := oX2.cell 5; have b2x6 : w2.cell? ⟨xb, 6, none⟩ = some (.int .i64 f.q) := oX2.cell 6; have lX2 := oX2.lt; clear hr r2)
                        | (at_builtin; clear t2; obtain ⟨q3, n3, c3, w3, hr, r3, b3⟩ := HAP.out W0 _ (.slice q2 n2 c2) _ ([] ++ L.take cL) ([(⟨r, c, f⟩ : Ed)]) (RowG.keep R2.out zqb) (VG.one (heap_at rfl)) zqb (by have := HLl.out; have := HnL.out; simp only [List.length_append, List.length_cons, List.length_nil, List.length_take, List.length_drop]; omega) _; refine wpList_app3 rfl _ _ _ _ rfl _ _ rfl rfl _ w3 hr ?_; have R3 : Hid (RowD w3 W0.heap.size (.slice q3 n3 c3) ([] ++ L.take cL ++ [(⟨r, c, f⟩ : Ed)])) := r3; have zz3 := b3.size; clear hr r3)
                        | (at_builtin; clear t3; obtain ⟨q4, n4, c4, w4, hr, r4, b4⟩ := HAP.out W0 _ (.slice q3 n3 c3) _ ([] ++ L.take cL ++ [(⟨r, c, f⟩ : Ed)]) (L.drop cL) R3.out (HE2.out _) b3 (by have := HLl.out; have := HnL.out; simp only [List.length_append, List.length_cons, List.length_nil, List.length_take, List.length_drop]; omega) _; refine wpList_app3 rfl _ _ _ _ rfl _ _ rfl rfl _ w4 hr ?_; have R4 : Hid (RowD w4 W0.heap.size (.slice q4 n4 c4) ([] ++ L.take cL ++ [(⟨r, c, f⟩ : Ed)] ++ L.drop cL)) := r4; have zz4 := b4.size; have hB4 : Below w.heap.size w w4 := bup hBW0 b4; have oC4 := oCW0.keep b4; clear hr r4))
                      exact ⟨⟨k + 1, L.take cL ++ [(⟨r, c, f⟩ : Ed)] ++ L.drop cL, by go_num, by omega, (show RowD _ _ _ _ from by have q := R4.out; rw [List.nil_append] at q; exact RowG.mono (q.keep zqb) (by omega)), HIm, by with_reducible (repeat' first | assumption | exact Below.refl _ _ | refine Below.drew ?_ | refine bdrewN ?_ _ | refine Below.setCell ?_ (by first | exact Nat.le_refl _ | (simp; done) | (simp; omega) | omega) _ | refine Below.alloc ?_ (by first | exact Nat.le_refl _ | (simp; done) | (simp; omega) | omega) _), by with_reducible (repeat' first | assumption | refine Own.drew ?_ | refine Own.drewN ?_ _ | (refine Own.at ?_; first | rfl | (simp; done)) | refine Own.past ?_ _)⟩, by simp [intOf] <;> omega⟩
                    · have HE2 : Hid (∀ W, VG 7 Ed.cs W (.slice (some ⟨gl, a * 7, none⟩) 0 (cL - a)) (L.drop a)) := (show _ from fun W => by
                        rw [HD0.out]
                        exact .inr ⟨_, cL - a, rfl, fun j u hu => by simp [flatG] at hu⟩)
                      subst han
                      go_wp2_with (first
                        | (at_builtin; clear t1; obtain ⟨q2, n2, c2, w2, hr, r2, b2⟩ := HAP.out W0 _ (.slice none 0 0) _ ([]) (L.take a) (RowG.nil _) (HT.out) (Below.refl _ _) (by have := HLl.out; have := HnL.out; simp only [List.length_append, List.length_cons, List.length_nil, List.length_take, List.length_drop]; omega) _; refine wpList_app3 rfl _ _ _ _ rfl _ _ rfl rfl _ w2 hr ?_; have R2 : Hid (RowD w2 W0.heap.size (.slice q2 n2 c2) ([] ++ L.take a)) := r2; have zz2 := b2.size; have oX2 := oX0.keep b2; have b2x0 : w2.cell? ⟨xb, 0, none⟩ = some (.int .i64 r) := oX2.cell 0; have b2x1 : w2.cell? ⟨xb, 1, none⟩ = some (.int .i64 c) := oX2.cell 1; have b2x2 : w2.cell? ⟨xb, 2, none⟩ = some (.bool f.m) := oX2.cell 2; have b2x3 : w2.cell? ⟨xb, 3, none⟩ = some (.int .i64 f.t) := oX2.cell 3; have b2x4 : w2.cell? ⟨xb, 4, none⟩ = some (.int .i64 f.l) := oX2.cell 4; have b2x5 : w2.cell? ⟨xb, 5, none⟩ = some (.int .i64 f.b) := oX2.cell 5; have b2x6 : w2.cell? ⟨xb, 6, none⟩ = some (.int .i64 f.q) := oX2.cell 6; have lX2 := oX2.lt; clear hr r2)
                        | (at_builtin; clear t2; obtain ⟨q3, n3, c3, w3, hr, r3, b3⟩ := HAP.out W0 _ (.slice q2 n2 c2) _ ([] ++ L.take a) ([(⟨r, c, f⟩ : Ed)]) (RowG.keep R2.out zqb) (VG.one (heap_at rfl)) zqb (by have := HLl.out; have := HnL.out; simp only [List.length_append, List.length_cons, List.length_nil, List.length_take, List.length_drop]; omega) _; refine wpList_app3 rfl _ _ _ _ rfl _ _ rfl rfl _ w3 hr ?_; have R3 : Hid (RowD w3 W0.heap.size (.slice q3 n3 c3) ([] ++ L.take a ++ [(⟨r, c, f⟩ : Ed)])) := r3; have zz3 := b3.size; clear hr r3)
                        | (at_builtin; clear t3; obtain ⟨q4, n4, c4, w4, hr, r4, b4⟩ := HAP.out W0 _ (.slice q3 n3 c3) _ ([] ++ L.take a ++ [(⟨r, c, f⟩ : Ed)]) (L.drop a) R3.out (HE2.out _) b3 (by have := HLl.out; have := HnL.out; simp only [List.length_append, List.length_cons, List.length_nil, List.length_take, List.length_drop]; omega) _; refine wpList_app3 rfl _ _ _ _ rfl _ _ rfl rfl _ w4 hr ?_; have R4 : Hid (RowD w4 W0.heap.size (.slice q4 n4 c4) ([] ++ L.take a ++ [(⟨r, c, f⟩ : Ed)] ++ L.drop a)) := r4; have zz4 := b4.size; have hB4 : Below w.heap.size w w4 := bup hBW0 b4; have oC4 := oCW0.keep b4; clear hr r4))
                      exact ⟨⟨k + 1, L.take a ++ [(⟨r, c, f⟩ : Ed)] ++ L.drop a, by go_num, by omega, (show RowD _ _ _ _ from by have q := R4.out; rw [List.nil_append] at q; exact RowG.mono (q.keep zqb) (by omega)), HIm, by with_reducible (repeat' first | assumption | exact Below.refl _ _ | refine Below.drew ?_ | refine bdrewN ?_ _ | refine Below.setCell ?_ (by first | exact Nat.le_refl _ | (simp; done) | (simp; omega) | omega) _ | refine Below.alloc ?_ (by first | exact Nat.le_refl _ | (simp; done) | (simp; omega) | omega) _), by with_reducible (repeat' first | assumption | refine Own.drew ?_ | refine Own.drewN ?_ _ | (refine Own.at ?_; first | rfl | (simp; done)) | refine Own.past ?_ _)⟩, by simp [intOf] <;> omega⟩
            · have hlk' : ¬ (k : Int) < n := by omega
              have hkn : k = n := by omega
              have HI2 : Hid (Ins P (⟨r, c, p, n, cp, l⟩ : Dv) l.length L) := (show Ins _ _ _ _ from by have q := HI.out; rw [show k = l.length from hkn.trans HN.out] at q; exact q)
              have oR := HRl.out wr hB
              have f0 := oR.fro 0
              have cR := HRo.out wr hB
              have lRr : R < wr.heap.size := by omega
              clear HI
              go_wp2
              go_ret
              exact ⟨rfl, L, HPut.out _ _ _ zqb (HL.out.keep zqb), HI2.out⟩
end Go.Proofs.YtcjanaldjokllaaGreat
