/- The document's Add: of every list of pairs the plain one. Its own cell is turned, and new memory. -/
import Derived.Test.YtpblkidbaheboaaDR
namespace Go.Proofs.Ytpblkidbaheboaa
open Go.RowKit
set_option linter.all false
theorem hi0A : True := trivial
set_option maxRecDepth 100000 in
set_option maxHeartbeats 8000000 in
theorem dadd_any (w : World) (N : Nat) (v : Value) (P : List Pr) (p : Pr) (hN : Own w N #[v]) (hR : RowE w 0 v P) (hs : SrtP P) (hb : P.length ≤ 2513169434915) : Calls Try.prog 9 #[.pointer (some ⟨N, 0, none⟩), .agg #[.int .i64 p.t, .int .i64 p.l, .int .i64 p.b, .int .i64 p.q], .agg #[.int .i64 p.r, .int .i64 p.c]] w fun e w' => e = .returned (.bool (addB P p)) ∧ DOut w N v (addR P p) w' := by
  have mixed : Try.prog.follows .mixedOrders = true := by kernel_rfl
  have hv := (RowG.view (sz := 7) (cs := Pr.cs) (fun _ => rfl) hR : VL 7 Pr.cs w v P)
  have hDS : ∀ W, Below w.heap.size w W → DOut w N v P W := fun W hb => DOut.same hN hR hb
  have hDP : ∀ W u P', Below w.heap.size w W → RowE W w.heap.size u P' → DOut w N v P' (W.setCell ⟨N, 0, none⟩ u) := fun W u P' h1 h2 => DOut.put hN h1 h2
  have HDS : Hid (∀ W, Below w.heap.size w W → DOut w N v P W) := hDS
  have HDP : Hid (∀ W u P', Below w.heap.size w W → RowE W w.heap.size u P' → DOut w N v P' (W.setCell ⟨N, 0, none⟩ u)) := hDP
  clear hDS hDP
  obtain ⟨q, cap, rfl, h1, h2, h3⟩ := hv
  obtain ⟨n, hn⟩ : ∃ n, n = P.length := ⟨_, rfl⟩
  have HN : Hid (n = P.length) := hn
  have HSrt : Hid (SrtP P) := hs
  rw [← hn] at h1 h3 hb hN HDS HDP ⊢
  have HON : Hid (∀ W, Below w.heap.size w W → Own W N #[.slice q n cap]) := (show _ from fun W h => hN.keep h)
  have hNl := hN.lt
  have hN0 : w.cell? ⟨N, 0, none⟩ = some (.slice q n cap) := hN.cell 0
  have HV : Hid (0 < n → ∃ g, q = some ⟨g, 0, none⟩ ∧ g < w.heap.size ∧ ∀ i x, P[i]? = some x → ∀ j u, (Pr.cs x)[j]? = some u → w.cell? ⟨g, i * 7 + j, none⟩ = some u) := h3
  obtain ⟨i0, hi0, hz0, hzs, hzb⟩ := info_parts infoEdge
  have HAP : Hid (∀ (W0 W : World) (u x : Value) (a kk : List Pr), RowE W W0.heap.size u a → VG 7 Pr.cs W x kk → Below W0.heap.size W0 W → a.length + kk.length ≤ 2513169434916 → ∀ ty, ∃ q' n' c' w', (Builtin.append_ #[26, 26] ty #[u, x]).run Try.prog W = .ok (.slice q' n' c') w' ∧ RowE w' W0.heap.size (.slice q' n' c') (a ++ kk) ∧ Below W0.heap.size W0 w') := (show _ from fun W0 W u x a kk k1 k2 k3 k4 ty => by
    obtain ⟨q', n', c', w', r1, r2, r3⟩ := app_piece Try.underlying26 hi0 hz0 hzs hzb rfl (by omega) Pr.len Pr.one k1 k2 k3.size (by omega) (by omega) ty
    exact ⟨q', n', c', w', r1, r2, k3.trans (r3.mono (Nat.le_refl _))⟩)
  have HPa : Hid (∀ W, Calls Try.prog 27 #[.agg #[.int .i64 p.t, .int .i64 p.l, .int .i64 p.b, .int .i64 p.q], .agg #[.int .i64 p.r, .int .i64 p.c]] W fun e w' => e = .returned (.agg #[.int .i64 p.r, .int .i64 p.c, .bool true, .int .i64 p.t, .int .i64 p.l, .int .i64 p.b, .int .i64 p.q]) ∧ Below W.heap.size W w') := pair_any p.t p.l p.b p.q p.r p.c
  have HV2 : Hid ((q = none ∧ n = 0 ∧ cap = 0) ∨ ∃ g, q = some ⟨g, 0, none⟩ ∧ g < w.heap.size ∧ ∀ i x, P[i]? = some x → ∀ j u, (Pr.cs x)[j]? = some u → w.cell? ⟨g, i * 7 + j, none⟩ = some u) := (show _ from by
    rcases RowG.two hR with ⟨e1, e2⟩ | ⟨g, cap', cur, e1, _, hg, hgc, _, _, _, ht⟩
    · injection e1 with e3 e4 e5
      exact .inl ⟨e3, hn.trans e4, e5⟩
    · injection e1 with e3 e4 e5
      exact .inr ⟨g, e3, hg, fun i x hi j u hu => row_cellsG Pr.len hgc ht i x j u hi hu⟩)
  have HR1 : Hid (∀ W, Calls Try.prog 25 #[.agg #[.int .i64 p.t, .int .i64 p.l, .int .i64 p.b, .int .i64 p.q]] W fun e w' => e = .returned (.bool (mayR p.t p.l p.b p.q)) ∧ Below W.heap.size W w') := rmayR_any p.t p.l p.b p.q
  have HC1 : Hid (∀ W, Calls Try.prog 26 #[.agg #[.int .i64 p.r, .int .i64 p.c]] W fun e w' => e = .returned (.bool (mayC p.r p.c)) ∧ Below W.heap.size W w') := rmay_any p.r p.c
  clear hi0 hz0 hzs hzb i0 hN hR h3 hs hn
  have hno : ∀ W, Below w.heap.size w W → addB P p = false → DOut w N (.slice q n cap) (addR P p) W := fun W hb e => by
    have e2 : addR P p = P := by unfold addR; rw [e]; rfl
    rw [e2]
    exact HDS.out W hb
  have HNo : Hid (∀ W, Below w.heap.size w W → addB P p = false → DOut w N (.slice q n cap) (addR P p) W) := hno
  clear hno
  cases hm1 : mayR p.t p.l p.b p.q
  · rw [hm1] at HR1
    have HAB : Hid (addB P p = false) := (show _ = _ by unfold addB; rw [hm1]; rfl)
    clear hm1
    go_enter Try.func9, Try.ntmps9
    go_wp2_with (go_at_call 25; refine (HR1.out _).mono ?_; rintro e w1 ⟨rfl, hb1⟩; have hB1 : Below w.heap.size w w1 := bup (by with_reducible (repeat' first | assumption | exact Below.refl _ _ | refine Below.drew ?_ | refine bdrewN ?_ _ | refine Below.setCell ?_ (by first | exact Nat.le_refl _ | (simp; done) | (simp; omega) | omega) _ | refine Below.alloc ?_ (by first | exact Nat.le_refl _ | (simp; done) | (simp; omega) | omega) _)) hb1; have oA1 : Own w1 w.heap.size #[.int .i64 p.t, .int .i64 p.l, .int .i64 p.b, .int .i64 p.q] := Own.keep (by with_reducible (repeat' first | assumption | refine Own.drew ?_ | refine Own.drewN ?_ _ | (refine Own.at ?_; first | rfl | (simp; done)) | refine Own.past ?_ _)) hb1; have oB1 : Own w1 (w.heap.size + 1) #[.int .i64 p.r, .int .i64 p.c] := Own.keep (by with_reducible (repeat' first | assumption | refine Own.drew ?_ | refine Own.drewN ?_ _ | (refine Own.at ?_; first | rfl | (simp; done)) | refine Own.past ?_ _)) hb1; have cA1 := oA1.cell; have cB1 := oB1.cell; have lA1 := oA1.lt; have lB1 := oB1.lt; have z1 := hB1.size; clear hb1)
    go_ret
    exact ⟨by rw [HAB.out]; rfl, HNo.out _ (by with_reducible (repeat' first | assumption | exact Below.refl _ _ | refine Below.drew ?_ | refine bdrewN ?_ _ | refine Below.setCell ?_ (by first | exact Nat.le_refl _ | (simp; done) | (simp; omega) | omega) _ | refine Below.alloc ?_ (by first | exact Nat.le_refl _ | (simp; done) | (simp; omega) | omega) _)) HAB.out⟩
  · cases hm2 : mayC p.r p.c
    · rw [hm1] at HR1
      rw [hm2] at HC1
      have HAB : Hid (addB P p = false) := (show _ = _ by unfold addB; rw [hm1, hm2]; rfl)
      clear hm1 hm2
      go_enter Try.func9, Try.ntmps9
      go_wp2_with (first | (go_at_call 25; refine (HR1.out _).mono ?_; rintro e w1 ⟨rfl, hb1⟩; have hB1 : Below w.heap.size w w1 := bup (by with_reducible (repeat' first | assumption | exact Below.refl _ _ | refine Below.drew ?_ | refine bdrewN ?_ _ | refine Below.setCell ?_ (by first | exact Nat.le_refl _ | (simp; done) | (simp; omega) | omega) _ | refine Below.alloc ?_ (by first | exact Nat.le_refl _ | (simp; done) | (simp; omega) | omega) _)) hb1; have oA1 : Own w1 w.heap.size #[.int .i64 p.t, .int .i64 p.l, .int .i64 p.b, .int .i64 p.q] := Own.keep (by with_reducible (repeat' first | assumption | refine Own.drew ?_ | refine Own.drewN ?_ _ | (refine Own.at ?_; first | rfl | (simp; done)) | refine Own.past ?_ _)) hb1; have oB1 : Own w1 (w.heap.size + 1) #[.int .i64 p.r, .int .i64 p.c] := Own.keep (by with_reducible (repeat' first | assumption | refine Own.drew ?_ | refine Own.drewN ?_ _ | (refine Own.at ?_; first | rfl | (simp; done)) | refine Own.past ?_ _)) hb1; have cA1 := oA1.cell; have cB1 := oB1.cell; have lA1 := oA1.lt; have lB1 := oB1.lt; have z1 := hB1.size; clear hb1) | (go_at_call 26; refine (HC1.out _).mono ?_; rintro e w2 ⟨rfl, hb2⟩; have hB2 : Below w.heap.size w w2 := bup (by with_reducible (repeat' first | assumption | exact Below.refl _ _ | refine Below.drew ?_ | refine bdrewN ?_ _ | refine Below.setCell ?_ (by first | exact Nat.le_refl _ | (simp; done) | (simp; omega) | omega) _ | refine Below.alloc ?_ (by first | exact Nat.le_refl _ | (simp; done) | (simp; omega) | omega) _)) hb2; have oA2 : Own w2 w.heap.size #[.int .i64 p.t, .int .i64 p.l, .int .i64 p.b, .int .i64 p.q] := Own.keep (by with_reducible (repeat' first | assumption | refine Own.drew ?_ | refine Own.drewN ?_ _ | (refine Own.at ?_; first | rfl | (simp; done)) | refine Own.past ?_ _)) hb2; have oB2 : Own w2 (w.heap.size + 1) #[.int .i64 p.r, .int .i64 p.c] := Own.keep (by with_reducible (repeat' first | assumption | refine Own.drew ?_ | refine Own.drewN ?_ _ | (refine Own.at ?_; first | rfl | (simp; done)) | refine Own.past ?_ _)) hb2; have cA2 := oA2.cell; have cB2 := oB2.cell; have lA2 := oA2.lt; have lB2 := oB2.lt; have z2 := hB2.size; clear hb2))
      go_ret
      exact ⟨by rw [HAB.out]; rfl, HNo.out _ (by with_reducible (repeat' first | assumption | exact Below.refl _ _ | refine Below.drew ?_ | refine bdrewN ?_ _ | refine Below.setCell ?_ (by first | exact Nat.le_refl _ | (simp; done) | (simp; omega) | omega) _ | refine Below.alloc ?_ (by first | exact Nat.le_refl _ | (simp; done) | (simp; omega) | omega) _)) HAB.out⟩
    · rw [hm1] at HR1
      rw [hm2] at HC1
      have HAH : Hid (∀ b, hasF (fP p) P = b → addB P p = !b) := (show _ from fun b e => by unfold addB; rw [hm1, hm2, e]; rfl)
      clear hm1 hm2
      go_enter Try.func9, Try.ntmps9
      go_wp2_with (first | (go_at_call 25; refine (HR1.out _).mono ?_; rintro e w1 ⟨rfl, hb1⟩; have hB1 : Below w.heap.size w w1 := bup (by with_reducible (repeat' first | assumption | exact Below.refl _ _ | refine Below.drew ?_ | refine bdrewN ?_ _ | refine Below.setCell ?_ (by first | exact Nat.le_refl _ | (simp; done) | (simp; omega) | omega) _ | refine Below.alloc ?_ (by first | exact Nat.le_refl _ | (simp; done) | (simp; omega) | omega) _)) hb1; have oA1 : Own w1 w.heap.size #[.int .i64 p.t, .int .i64 p.l, .int .i64 p.b, .int .i64 p.q] := Own.keep (by with_reducible (repeat' first | assumption | refine Own.drew ?_ | refine Own.drewN ?_ _ | (refine Own.at ?_; first | rfl | (simp; done)) | refine Own.past ?_ _)) hb1; have oB1 : Own w1 (w.heap.size + 1) #[.int .i64 p.r, .int .i64 p.c] := Own.keep (by with_reducible (repeat' first | assumption | refine Own.drew ?_ | refine Own.drewN ?_ _ | (refine Own.at ?_; first | rfl | (simp; done)) | refine Own.past ?_ _)) hb1; have cA1 := oA1.cell; have cB1 := oB1.cell; have lA1 := oA1.lt; have lB1 := oB1.lt; have z1 := hB1.size; clear hb1) | (go_at_call 26; refine (HC1.out _).mono ?_; rintro e w2 ⟨rfl, hb2⟩; have hB2 : Below w.heap.size w w2 := bup (by with_reducible (repeat' first | assumption | exact Below.refl _ _ | refine Below.drew ?_ | refine bdrewN ?_ _ | refine Below.setCell ?_ (by first | exact Nat.le_refl _ | (simp; done) | (simp; omega) | omega) _ | refine Below.alloc ?_ (by first | exact Nat.le_refl _ | (simp; done) | (simp; omega) | omega) _)) hb2; have oA2 : Own w2 w.heap.size #[.int .i64 p.t, .int .i64 p.l, .int .i64 p.b, .int .i64 p.q] := Own.keep (by with_reducible (repeat' first | assumption | refine Own.drew ?_ | refine Own.drewN ?_ _ | (refine Own.at ?_; first | rfl | (simp; done)) | refine Own.past ?_ _)) hb2; have oB2 : Own w2 (w.heap.size + 1) #[.int .i64 p.r, .int .i64 p.c] := Own.keep (by with_reducible (repeat' first | assumption | refine Own.drew ?_ | refine Own.drewN ?_ _ | (refine Own.at ?_; first | rfl | (simp; done)) | refine Own.past ?_ _)) hb2; have cA2 := oA2.cell; have cB2 := oB2.cell; have lA2 := oA2.lt; have lB2 := oB2.lt; have z2 := hB2.size; clear hb2) | (go_at_call 27; refine (HPa.out _).mono ?_; rintro e wp ⟨rfl, hbp⟩; have hBp : Below w.heap.size w wp := bup (by with_reducible (repeat' first | assumption | exact Below.refl _ _ | refine Below.drew ?_ | refine bdrewN ?_ _ | refine Below.setCell ?_ (by first | exact Nat.le_refl _ | (simp; done) | (simp; omega) | omega) _ | refine Below.alloc ?_ (by first | exact Nat.le_refl _ | (simp; done) | (simp; omega) | omega) _)) hbp; have zp := hBp.size; clear hbp))
      clear HR1 HC1 HPa oA1 oB1 cA1 cB1 oA2 oB2 cA2 cB2
      go_loopw [8] (fun u8 w' => ∃ k : Nat, u8 = .int .i64 k ∧ k ≤ n ∧ Hid (∀ j y, j < k → P[j]? = some y → cmpP y p < 0) ∧ Below w.heap.size w w' ∧ Own w' wp.heap.size #[.int .i64 p.r, .int .i64 p.c, .bool true, .int .i64 p.t, .int .i64 p.l, .int .i64 p.b, .int .i64 p.q]) (fun u8 _ => n - (intOf u8).toNat)
      case atStart => exact ⟨0, rfl, by omega, (show Hid _ from fun j y hj => absurd hj (Nat.not_lt_zero _)), by with_reducible (repeat' first | assumption | exact Below.refl _ _ | refine Below.drew ?_ | refine bdrewN ?_ _ | refine Below.setCell ?_ (by first | exact Nat.le_refl _ | (simp; done) | (simp; omega) | omega) _ | refine Below.alloc ?_ (by first | exact Nat.le_refl _ | (simp; done) | (simp; omega) | omega) _), by with_reducible (repeat' first | assumption | refine Own.drew ?_ | refine Own.drewN ?_ _ | (refine Own.at ?_; first | rfl | (simp; done)) | refine Own.past ?_ _)⟩
      case round =>
        obtain ⟨k, rfl, hk, HL, hB, oP⟩ := hrel
        have cN : wr.cell? ⟨N, 0, none⟩ = some (.slice q n cap) := (hB.cell (p := ⟨N, 0, none⟩) hNl).trans hN0
        have cP := oP.cell
        have lP := oP.lt
        have zB := hB.size
        by_cases hlt : k < n
        · have hlt' : (k : Int) < n := by omega
          obtain ⟨g, rfl, hg, hcl⟩ := HV.out (by omega)
          obtain ⟨x, hx⟩ : ∃ x, P[k]? = some x := ⟨_, List.getElem?_eq_getElem (by rw [← HN.out]; omega)⟩
          have d0 : wr.cell? ⟨g, k * 7, none⟩ = some (.int .i64 x.r) := (hB.cell (p := ⟨g, k * 7, none⟩) hg).trans (hcl k x hx 0 _ rfl)
          have d1 : wr.cell? ⟨g, k * 7 + 1, none⟩ = some (.int .i64 x.c) := (hB.cell (p := ⟨g, k * 7 + 1, none⟩) hg).trans (hcl k x hx 1 _ rfl)
          have d2 : wr.cell? ⟨g, k * 7 + 2, none⟩ = some (.bool true) := (hB.cell (p := ⟨g, k * 7 + 2, none⟩) hg).trans (hcl k x hx 2 _ rfl)
          have d3 : wr.cell? ⟨g, k * 7 + 3, none⟩ = some (.int .i64 x.t) := (hB.cell (p := ⟨g, k * 7 + 3, none⟩) hg).trans (hcl k x hx 3 _ rfl)
          have d4 : wr.cell? ⟨g, k * 7 + 4, none⟩ = some (.int .i64 x.l) := (hB.cell (p := ⟨g, k * 7 + 4, none⟩) hg).trans (hcl k x hx 4 _ rfl)
          have d5 : wr.cell? ⟨g, k * 7 + 5, none⟩ = some (.int .i64 x.b) := (hB.cell (p := ⟨g, k * 7 + 5, none⟩) hg).trans (hcl k x hx 5 _ rfl)
          have d6 : wr.cell? ⟨g, k * 7 + 6, none⟩ = some (.int .i64 x.q) := (hB.cell (p := ⟨g, k * 7 + 6, none⟩) hg).trans (hcl k x hx 6 _ rfl)
          have hgr : g < wr.heap.size := by omega
          have Hcl : Hid (∀ i x, P[i]? = some x → ∀ j u, (Pr.cs x)[j]? = some u → w.cell? ⟨g, i * 7 + j, none⟩ = some u) := hcl
          have HX : Hid (P[k]? = some x) := hx
          have hltd : decide ((k : Int) < (n : Int)) = true := by simpa using hlt
          have hah := ahead_any x.r x.c x.t x.l x.b x.q p.r p.c p.t p.l p.b p.q
          have p0 : wr.cell? ⟨wp.heap.size, 0, none⟩ = some (.int .i64 p.r) := cP 0
          have p1 : wr.cell? ⟨wp.heap.size, 1, none⟩ = some (.int .i64 p.c) := cP 1
          have p2 : wr.cell? ⟨wp.heap.size, 2, none⟩ = some (.bool true) := cP 2
          have p3 : wr.cell? ⟨wp.heap.size, 3, none⟩ = some (.int .i64 p.t) := cP 3
          have p4 : wr.cell? ⟨wp.heap.size, 4, none⟩ = some (.int .i64 p.l) := cP 4
          have p5 : wr.cell? ⟨wp.heap.size, 5, none⟩ = some (.int .i64 p.b) := cP 5
          have p6 : wr.cell? ⟨wp.heap.size, 6, none⟩ = some (.int .i64 p.q) := cP 6
          clear hcl hx
          cases hd : decide (cmpP ⟨x.r, x.c, x.t, x.l, x.b, x.q⟩ ⟨p.r, p.c, p.t, p.l, p.b, p.q⟩ < 0)
          · have HAh : Hid (∀ W, Calls Try.prog 28 #[.agg #[.int .i64 x.r, .int .i64 x.c, .bool true, .int .i64 x.t, .int .i64 x.l, .int .i64 x.b, .int .i64 x.q], .agg #[.int .i64 p.r, .int .i64 p.c, .bool true, .int .i64 p.t, .int .i64 p.l, .int .i64 p.b, .int .i64 p.q]] W fun e w' => e = .returned (.bool false) ∧ Below W.heap.size W w') := (show _ from fun W => by have h := hah W; rw [hd] at h; exact h)
            have Hd : Hid (0 ≤ cmpP x p) := (show _ ≤ _ from by have h := of_decide_eq_false hd; exact Int.not_lt.1 h)
            have heq := eqP x p
            clear hd hah
            go_wp2
            go_region_held3 (fun w' => w'.cell? ⟨g, k * 7, none⟩ = some (.int .i64 x.r) ∧ w'.cell? ⟨g, k * 7 + 1, none⟩ = some (.int .i64 x.c) ∧ w'.cell? ⟨g, k * 7 + 2, none⟩ = some (.bool true) ∧ w'.cell? ⟨g, k * 7 + 3, none⟩ = some (.int .i64 x.t) ∧ w'.cell? ⟨g, k * 7 + 4, none⟩ = some (.int .i64 x.l) ∧ w'.cell? ⟨g, k * 7 + 5, none⟩ = some (.int .i64 x.b) ∧ w'.cell? ⟨g, k * 7 + 6, none⟩ = some (.int .i64 x.q) ∧ w'.cell? ⟨wp.heap.size, 0, none⟩ = some (.int .i64 p.r) ∧ w'.cell? ⟨wp.heap.size, 1, none⟩ = some (.int .i64 p.c) ∧ w'.cell? ⟨wp.heap.size, 2, none⟩ = some (.bool true) ∧ w'.cell? ⟨wp.heap.size, 3, none⟩ = some (.int .i64 p.t) ∧ w'.cell? ⟨wp.heap.size, 4, none⟩ = some (.int .i64 p.l) ∧ w'.cell? ⟨wp.heap.size, 5, none⟩ = some (.int .i64 p.b) ∧ w'.cell? ⟨wp.heap.size, 6, none⟩ = some (.int .i64 p.q) ∧ w'.cell? ⟨N, 0, none⟩ = some (.slice (some ⟨g, 0, none⟩) n cap)) ((repeat' apply And.intro) <;> (first | (go_keep; done) | (go_simp; done))) ((go_at_call 28; refine (HAh.out _).mono ?_; rintro e wa ⟨rfl, hba⟩; have hBa : Below w.heap.size w wa := bup (by with_reducible (repeat' first | assumption | exact Below.refl _ _ | refine Below.drew ?_ | refine bdrewN ?_ _ | refine Below.setCell ?_ (by first | exact Nat.le_refl _ | (simp; done) | (simp; omega) | omega) _ | refine Below.alloc ?_ (by first | exact Nat.le_refl _ | (simp; done) | (simp; omega) | omega) _)) hba; have oPa : Own wa wp.heap.size #[.int .i64 p.r, .int .i64 p.c, .bool true, .int .i64 p.t, .int .i64 p.l, .int .i64 p.b, .int .i64 p.q] := Own.keep (by with_reducible (repeat' first | assumption | refine Own.drew ?_ | refine Own.drewN ?_ _ | (refine Own.at ?_; first | rfl | (simp; done)) | refine Own.past ?_ _)) hba; have cPa := oPa.cell; have lPa := oPa.lt; have za := hBa.size; have cNa : wa.cell? ⟨N, 0, none⟩ = some (.slice (some ⟨g, 0, none⟩) n cap) := (hBa.cell (p := ⟨N, 0, none⟩) hNl).trans hN0; have da0 : wa.cell? ⟨g, k * 7, none⟩ = some (.int .i64 x.r) := (hBa.cell (p := ⟨g, k * 7, none⟩) hg).trans (Hcl.out k x HX.out 0 _ rfl); have da1 : wa.cell? ⟨g, k * 7 + 1, none⟩ = some (.int .i64 x.c) := (hBa.cell (p := ⟨g, k * 7 + 1, none⟩) hg).trans (Hcl.out k x HX.out 1 _ rfl); have da2 : wa.cell? ⟨g, k * 7 + 2, none⟩ = some (.bool true) := (hBa.cell (p := ⟨g, k * 7 + 2, none⟩) hg).trans (Hcl.out k x HX.out 2 _ rfl); have da3 : wa.cell? ⟨g, k * 7 + 3, none⟩ = some (.int .i64 x.t) := (hBa.cell (p := ⟨g, k * 7 + 3, none⟩) hg).trans (Hcl.out k x HX.out 3 _ rfl); have da4 : wa.cell? ⟨g, k * 7 + 4, none⟩ = some (.int .i64 x.l) := (hBa.cell (p := ⟨g, k * 7 + 4, none⟩) hg).trans (Hcl.out k x HX.out 4 _ rfl); have da5 : wa.cell? ⟨g, k * 7 + 5, none⟩ = some (.int .i64 x.b) := (hBa.cell (p := ⟨g, k * 7 + 5, none⟩) hg).trans (Hcl.out k x HX.out 5 _ rfl); have da6 : wa.cell? ⟨g, k * 7 + 6, none⟩ = some (.int .i64 x.q) := (hBa.cell (p := ⟨g, k * 7 + 6, none⟩) hg).trans (Hcl.out k x HX.out 6 _ rfl); have pa0 : wa.cell? ⟨wp.heap.size, 0, none⟩ = some (.int .i64 p.r) := cPa 0; have pa1 : wa.cell? ⟨wp.heap.size, 1, none⟩ = some (.int .i64 p.c) := cPa 1; have pa2 : wa.cell? ⟨wp.heap.size, 2, none⟩ = some (.bool true) := cPa 2; have pa3 : wa.cell? ⟨wp.heap.size, 3, none⟩ = some (.int .i64 p.t) := cPa 3; have pa4 : wa.cell? ⟨wp.heap.size, 4, none⟩ = some (.int .i64 p.l) := cPa 4; have pa5 : wa.cell? ⟨wp.heap.size, 5, none⟩ = some (.int .i64 p.b) := cPa 5; have pa6 : wa.cell? ⟨wp.heap.size, 6, none⟩ = some (.int .i64 p.q) := cPa 6; have hga : g < wa.heap.size := (by omega); clear hba))
            have HI : Hid (k = idxF (fP p) P) := (show _ = _ from cut_at HSrt.out p (by rw [← HN.out]; omega) HL.out (fun y hy => by rw [HX.out] at hy; injection hy with hy; subst hy; exact Int.not_lt.2 Hd.out))
            cases hsm : sameP x p
            · rw [hsm] at heq
              have hno : ∀ y, P[k]? = some y → y ≠ p := fun y hy he => by rw [HX.out] at hy; injection hy with hy; subst hy; rw [(sameP_is _ _).2 he] at hsm; cases hsm
              have hcut := cut_no HSrt.out p HI.out hno
              have HAB : Hid (addB P p = true) := HAH.out false hcut.2
              have HR : Hid (P.take k ++ [p] ++ P.drop k = addR P p) := (show _ = _ by unfold addR; rw [if_pos HAB.out]; exact hcut.1)
              clear hsm hno hcut HI
              have hci : ¬ cap = k := by omega
              have hk2 : (k : Int) ≤ cap := by omega
              have hk3 : (k : Int) ≤ n := by omega
              go_wp2
              go_quiet (fail)
              obtain ⟨W0, e0⟩ : ∃ W0 : World, W0 = wa.drewN nq := ⟨_, rfl⟩
              have hBW : Below w.heap.size w W0 := (by rw [e0]; exact bdrewN hBa _)
              have oPW : Own W0 wp.heap.size #[.int .i64 p.r, .int .i64 p.c, .bool true, .int .i64 p.t, .int .i64 p.l, .int .i64 p.b, .int .i64 p.q] := (by rw [e0]; exact Own.drewN oPa _)
              rw [← e0]
              clear e0
              have zW := hBW.size
              have cPW := oPW.cell
              have lPW := oPW.lt
              have cNW : W0.cell? ⟨N, 0, none⟩ = some (.slice (some ⟨g, 0, none⟩) n cap) := (HON.out W0 hBW).cell 0
              have t1 : True := trivial
              have t2 : True := trivial
              have t3 : True := trivial
              have HFin : Hid (∀ (W : World) (u : Value), RowE W W0.heap.size u ([] ++ P.take k ++ [p] ++ P.drop k) → Below W0.heap.size W0 W → DOut w N (.slice (some ⟨g, 0, none⟩) n cap) (addR P p) (W.setCell ⟨N, 0, none⟩ u)) := (show _ from fun W u h1 h2 => by
                rw [List.nil_append, HR.out] at h1
                exact HDP.out W u _ (bup hBW h2) (RowG.mono h1 zW))
              have HT : Hid (∀ W, Below W0.heap.size W0 W → VG 7 Pr.cs W (.slice (some ⟨g, 0, none⟩) k cap) (P.take k)) := (show _ from fun W hb => by
                have := VG.cut (w := W) (cap := cap) Pr.len (fun i x hi j u hu => ((bup hBW hb).cell (p := ⟨g, i * 7 + j, none⟩) hg).trans (Hcl.out i x hi j u hu)) 0 k (by rw [← HN.out]; omega)
                rwa [Nat.zero_mul, List.drop_zero] at this)
              have HE : Hid (∀ W, Below W0.heap.size W0 W → VG 7 Pr.cs W (.slice (some ⟨g, k * 7, none⟩) (n - k) (cap - k)) (P.drop k)) := (show _ from fun W hb => by
                have := VG.cut (w := W) (cap := cap - k) Pr.len (fun i x hi j u hu => ((bup hBW hb).cell (p := ⟨g, i * 7 + j, none⟩) hg).trans (Hcl.out i x hi j u hu)) k (n - k) (by rw [← HN.out]; omega)
                rwa [List.take_of_length_le (by rw [List.length_drop, ← HN.out]; exact Nat.le_refl _)] at this)
              go_wp2_with (first | (at_builtin; clear t1; obtain ⟨q2, n2, c2, w2, hr, r2, b2⟩ := HAP.out W0 _ (.slice none 0 0) _ ([]) (P.take k) (RowG.nil _) (HT.out _ (Below.refl _ _)) (Below.refl _ _) (by have := HN.out; simp only [List.length_append, List.length_cons, List.length_nil, List.length_take, List.length_drop]; omega) _; refine wpList_app3 rfl _ _ _ _ rfl _ _ rfl rfl _ w2 hr ?_; have R2 : Hid (RowE w2 W0.heap.size (.slice q2 n2 c2) ([] ++ P.take k)) := r2; have zz2 := b2.size; have oP2 := oPW.keep b2; have cP2 := oP2.cell; have lP2 := oP2.lt; have cN2 : w2.cell? ⟨N, 0, none⟩ = some (.slice (some ⟨g, 0, none⟩) n cap) := (HON.out w2 (bup hBW b2)).cell 0; clear hr r2) | (at_builtin; clear t2; obtain ⟨q3, n3, c3, w3, hr, r3, b3⟩ := HAP.out W0 _ (.slice q2 n2 c2) _ ([] ++ P.take k) ([p]) (RowG.keep R2.out (by with_reducible (repeat' first | assumption | exact Below.refl _ _ | refine Below.drew ?_ | refine bdrewN ?_ _ | refine Below.setCell ?_ (by first | exact Nat.le_refl _ | (simp; done) | (simp; omega) | omega) _ | refine Below.alloc ?_ (by first | exact Nat.le_refl _ | (simp; done) | (simp; omega) | omega) _))) (VG.one (heap_at rfl)) (by with_reducible (repeat' first | assumption | exact Below.refl _ _ | refine Below.drew ?_ | refine bdrewN ?_ _ | refine Below.setCell ?_ (by first | exact Nat.le_refl _ | (simp; done) | (simp; omega) | omega) _ | refine Below.alloc ?_ (by first | exact Nat.le_refl _ | (simp; done) | (simp; omega) | omega) _)) (by have := HN.out; simp only [List.length_append, List.length_cons, List.length_nil, List.length_take, List.length_drop]; omega) _; refine wpList_app3 rfl _ _ _ _ rfl _ _ rfl rfl _ w3 hr ?_; have R3 : Hid (RowE w3 W0.heap.size (.slice q3 n3 c3) ([] ++ P.take k ++ [p])) := r3; have zz3 := b3.size; have oP3 := oPW.keep b3; have cP3 := oP3.cell; have lP3 := oP3.lt; have cN3 : w3.cell? ⟨N, 0, none⟩ = some (.slice (some ⟨g, 0, none⟩) n cap) := (HON.out w3 (bup hBW b3)).cell 0; clear hr r3) | (at_builtin; clear t3; obtain ⟨q4, n4, c4, w4, hr, r4, b4⟩ := HAP.out W0 _ (.slice q3 n3 c3) _ ([] ++ P.take k ++ [p]) (P.drop k) R3.out (HE.out _ b3) b3 (by have := HN.out; simp only [List.length_append, List.length_cons, List.length_nil, List.length_take, List.length_drop]; omega) _; refine wpList_app3 rfl _ _ _ _ rfl _ _ rfl rfl _ w4 hr ?_; have HQ : Hid _ := HFin.out w4 _ r4 b4; have hyc1 := (HON.out w4 (bup hBW b4)).cell 0; have hyc2 := (HON.out w4 (bup hBW b4)).fro 0; clear hr r4))
              go_ret
              exact ⟨by rw [HAB.out]; rfl, HQ.out⟩
            · rw [hsm] at heq
              have hxp := (sameP_is _ _).1 hsm
              have HAB : Hid (addB P p = false) := (show _ = _ from HAH.out true (has_mem.2 (by have := List.mem_of_getElem? HX.out; rwa [hxp] at this)))
              clear hsm hxp
              go_wp2
              go_quiet (fail)
              go_wp2
              go_ret
              exact ⟨by rw [HAB.out]; rfl, HNo.out _ (by with_reducible (repeat' first | assumption | exact Below.refl _ _ | refine Below.drew ?_ | refine bdrewN ?_ _ | refine Below.setCell ?_ (by first | exact Nat.le_refl _ | (simp; done) | (simp; omega) | omega) _ | refine Below.alloc ?_ (by first | exact Nat.le_refl _ | (simp; done) | (simp; omega) | omega) _)) HAB.out⟩
          · have HAh : Hid (∀ W, Calls Try.prog 28 #[.agg #[.int .i64 x.r, .int .i64 x.c, .bool true, .int .i64 x.t, .int .i64 x.l, .int .i64 x.b, .int .i64 x.q], .agg #[.int .i64 p.r, .int .i64 p.c, .bool true, .int .i64 p.t, .int .i64 p.l, .int .i64 p.b, .int .i64 p.q]] W fun e w' => e = .returned (.bool true) ∧ Below W.heap.size W w') := (show _ from fun W => by have h := hah W; rw [hd] at h; exact h)
            have HL2 : Hid (∀ j y, j < k + 1 → P[j]? = some y → cmpP y p < 0) := (show _ from fun j y hj hy => by
              by_cases e : j = k
              · subst e; rw [HX.out] at hy; injection hy with hy; subst hy; simpa using hd
              · exact HL.out j y (by omega) hy)
            clear hd hah
            go_wp2
            go_region_held3 (fun w' => w'.cell? ⟨g, k * 7, none⟩ = some (.int .i64 x.r) ∧ w'.cell? ⟨g, k * 7 + 1, none⟩ = some (.int .i64 x.c) ∧ w'.cell? ⟨g, k * 7 + 2, none⟩ = some (.bool true) ∧ w'.cell? ⟨g, k * 7 + 3, none⟩ = some (.int .i64 x.t) ∧ w'.cell? ⟨g, k * 7 + 4, none⟩ = some (.int .i64 x.l) ∧ w'.cell? ⟨g, k * 7 + 5, none⟩ = some (.int .i64 x.b) ∧ w'.cell? ⟨g, k * 7 + 6, none⟩ = some (.int .i64 x.q) ∧ w'.cell? ⟨wp.heap.size, 0, none⟩ = some (.int .i64 p.r) ∧ w'.cell? ⟨wp.heap.size, 1, none⟩ = some (.int .i64 p.c) ∧ w'.cell? ⟨wp.heap.size, 2, none⟩ = some (.bool true) ∧ w'.cell? ⟨wp.heap.size, 3, none⟩ = some (.int .i64 p.t) ∧ w'.cell? ⟨wp.heap.size, 4, none⟩ = some (.int .i64 p.l) ∧ w'.cell? ⟨wp.heap.size, 5, none⟩ = some (.int .i64 p.b) ∧ w'.cell? ⟨wp.heap.size, 6, none⟩ = some (.int .i64 p.q) ∧ w'.cell? ⟨N, 0, none⟩ = some (.slice (some ⟨g, 0, none⟩) n cap)) ((repeat' apply And.intro) <;> (first | (go_keep; done) | (go_simp; done))) ((go_at_call 28; refine (HAh.out _).mono ?_; rintro e wa ⟨rfl, hba⟩; have hBa : Below w.heap.size w wa := bup (by with_reducible (repeat' first | assumption | exact Below.refl _ _ | refine Below.drew ?_ | refine bdrewN ?_ _ | refine Below.setCell ?_ (by first | exact Nat.le_refl _ | (simp; done) | (simp; omega) | omega) _ | refine Below.alloc ?_ (by first | exact Nat.le_refl _ | (simp; done) | (simp; omega) | omega) _)) hba; have oPa : Own wa wp.heap.size #[.int .i64 p.r, .int .i64 p.c, .bool true, .int .i64 p.t, .int .i64 p.l, .int .i64 p.b, .int .i64 p.q] := Own.keep (by with_reducible (repeat' first | assumption | refine Own.drew ?_ | refine Own.drewN ?_ _ | (refine Own.at ?_; first | rfl | (simp; done)) | refine Own.past ?_ _)) hba; have cPa := oPa.cell; have lPa := oPa.lt; have za := hBa.size; have cNa : wa.cell? ⟨N, 0, none⟩ = some (.slice (some ⟨g, 0, none⟩) n cap) := (hBa.cell (p := ⟨N, 0, none⟩) hNl).trans hN0; have da0 : wa.cell? ⟨g, k * 7, none⟩ = some (.int .i64 x.r) := (hBa.cell (p := ⟨g, k * 7, none⟩) hg).trans (Hcl.out k x HX.out 0 _ rfl); have da1 : wa.cell? ⟨g, k * 7 + 1, none⟩ = some (.int .i64 x.c) := (hBa.cell (p := ⟨g, k * 7 + 1, none⟩) hg).trans (Hcl.out k x HX.out 1 _ rfl); have da2 : wa.cell? ⟨g, k * 7 + 2, none⟩ = some (.bool true) := (hBa.cell (p := ⟨g, k * 7 + 2, none⟩) hg).trans (Hcl.out k x HX.out 2 _ rfl); have da3 : wa.cell? ⟨g, k * 7 + 3, none⟩ = some (.int .i64 x.t) := (hBa.cell (p := ⟨g, k * 7 + 3, none⟩) hg).trans (Hcl.out k x HX.out 3 _ rfl); have da4 : wa.cell? ⟨g, k * 7 + 4, none⟩ = some (.int .i64 x.l) := (hBa.cell (p := ⟨g, k * 7 + 4, none⟩) hg).trans (Hcl.out k x HX.out 4 _ rfl); have da5 : wa.cell? ⟨g, k * 7 + 5, none⟩ = some (.int .i64 x.b) := (hBa.cell (p := ⟨g, k * 7 + 5, none⟩) hg).trans (Hcl.out k x HX.out 5 _ rfl); have da6 : wa.cell? ⟨g, k * 7 + 6, none⟩ = some (.int .i64 x.q) := (hBa.cell (p := ⟨g, k * 7 + 6, none⟩) hg).trans (Hcl.out k x HX.out 6 _ rfl); have pa0 : wa.cell? ⟨wp.heap.size, 0, none⟩ = some (.int .i64 p.r) := cPa 0; have pa1 : wa.cell? ⟨wp.heap.size, 1, none⟩ = some (.int .i64 p.c) := cPa 1; have pa2 : wa.cell? ⟨wp.heap.size, 2, none⟩ = some (.bool true) := cPa 2; have pa3 : wa.cell? ⟨wp.heap.size, 3, none⟩ = some (.int .i64 p.t) := cPa 3; have pa4 : wa.cell? ⟨wp.heap.size, 4, none⟩ = some (.int .i64 p.l) := cPa 4; have pa5 : wa.cell? ⟨wp.heap.size, 5, none⟩ = some (.int .i64 p.b) := cPa 5; have pa6 : wa.cell? ⟨wp.heap.size, 6, none⟩ = some (.int .i64 p.q) := cPa 6; have hga : g < wa.heap.size := (by omega); clear hba))
            go_wp2
            exact ⟨⟨k + 1, by go_num, by omega, HL2, by with_reducible (repeat' first | assumption | exact Below.refl _ _ | refine Below.drew ?_ | refine bdrewN ?_ _ | refine Below.setCell ?_ (by first | exact Nat.le_refl _ | (simp; done) | (simp; omega) | omega) _ | refine Below.alloc ?_ (by first | exact Nat.le_refl _ | (simp; done) | (simp; omega) | omega) _), by with_reducible (repeat' first | assumption | refine Own.drew ?_ | refine Own.drewN ?_ _ | (refine Own.at ?_; first | rfl | (simp; done)) | refine Own.past ?_ _)⟩, by simp [intOf] <;> omega⟩
        · have hlt' : ¬ (k : Int) < n := by omega
          have hkn : k = n := by omega
          have HI : Hid (k = idxF (fP p) P) := (show _ = _ from cut_at HSrt.out p (by rw [← HN.out]; omega) HL.out (fun y hy => by have := (List.getElem?_eq_some_iff.1 hy).1; have := HN.out; omega))
          have hcut := cut_no HSrt.out p HI.out (fun y hy => by have := (List.getElem?_eq_some_iff.1 hy).1; have := HN.out; omega)
          have HAB : Hid (addB P p = true) := HAH.out false hcut.2
          have HR : Hid (P.take k ++ [p] ++ P.drop k = addR P p) := (show _ = _ by unfold addR; rw [if_pos HAB.out]; exact hcut.1)
          have HD0 : Hid (P.drop k = []) := List.drop_of_length_le (by rw [← HN.out]; omega)
          clear hcut HI hlt
          subst hkn
          go_wp2
          go_quiet (fail)
          obtain ⟨Wq, eq0⟩ : ∃ Wq : World, Wq = wr.drewN nq := ⟨_, rfl⟩
          have hBq : Below w.heap.size w Wq := (by rw [eq0]; exact bdrewN hB _)
          have oPq : Own Wq wp.heap.size #[.int .i64 p.r, .int .i64 p.c, .bool true, .int .i64 p.t, .int .i64 p.l, .int .i64 p.b, .int .i64 p.q] := (by rw [eq0]; exact Own.drewN oP _)
          rw [← eq0]
          clear eq0 cN
          have cNq : Wq.cell? ⟨N, 0, none⟩ = some (.slice q k cap) := (hBq.cell (p := ⟨N, 0, none⟩) hNl).trans hN0
          go_wp2
          go_quiet (fail)
          obtain ⟨W0, e0⟩ : ∃ W0 : World, W0 = Wq.drewN nq := ⟨_, rfl⟩
          have hBW : Below w.heap.size w W0 := (by rw [e0]; exact bdrewN hBq _)
          have oPW : Own W0 wp.heap.size #[.int .i64 p.r, .int .i64 p.c, .bool true, .int .i64 p.t, .int .i64 p.l, .int .i64 p.b, .int .i64 p.q] := (by rw [e0]; exact Own.drewN oPq _)
          rw [← e0]
          clear e0
          have zW := hBW.size
          have cPW := oPW.cell
          have lPW := oPW.lt
          have cNW : W0.cell? ⟨N, 0, none⟩ = some (.slice q k cap) := (HON.out W0 hBW).cell 0
          have t1 : True := trivial
          have t2 : True := trivial
          have t3 : True := trivial
          rcases HV2.out with ⟨rfl, rfl, rfl⟩ | ⟨g, rfl, hg, hcl⟩
          · have HFin : Hid (∀ (W : World) (u : Value), RowE W W0.heap.size u ([] ++ P.take 0 ++ [p] ++ P.drop 0) → Below W0.heap.size W0 W → DOut w N (.slice none 0 0) (addR P p) (W.setCell ⟨N, 0, none⟩ u)) := (show _ from fun W u h1 h2 => by
              rw [List.nil_append, HR.out] at h1
              exact HDP.out W u _ (bup hBW h2) (RowG.mono h1 zW))
            go_wp2_with (first | (at_builtin; clear t1; obtain ⟨q2, n2, c2, w2, hr, r2, b2⟩ := HAP.out W0 _ (.slice none 0 0) _ ([]) (P.take 0) (RowG.nil _) (.inl ⟨rfl, by simp⟩) (Below.refl _ _) (by have := HN.out; simp only [List.length_append, List.length_cons, List.length_nil, List.length_take, List.length_drop]; omega) _; refine wpList_app3 rfl _ _ _ _ rfl _ _ rfl rfl _ w2 hr ?_; have R2 : Hid (RowE w2 W0.heap.size (.slice q2 n2 c2) ([] ++ P.take 0)) := r2; have zz2 := b2.size; have oP2 := oPW.keep b2; have cP2 := oP2.cell; have lP2 := oP2.lt; have cN2 : w2.cell? ⟨N, 0, none⟩ = some (.slice none 0 0) := (HON.out w2 (bup hBW b2)).cell 0; clear hr r2) | (at_builtin; clear t2; obtain ⟨q3, n3, c3, w3, hr, r3, b3⟩ := HAP.out W0 _ (.slice q2 n2 c2) _ ([] ++ P.take 0) ([p]) (RowG.keep R2.out (by with_reducible (repeat' first | assumption | exact Below.refl _ _ | refine Below.drew ?_ | refine bdrewN ?_ _ | refine Below.setCell ?_ (by first | exact Nat.le_refl _ | (simp; done) | (simp; omega) | omega) _ | refine Below.alloc ?_ (by first | exact Nat.le_refl _ | (simp; done) | (simp; omega) | omega) _))) (VG.one (heap_at rfl)) (by with_reducible (repeat' first | assumption | exact Below.refl _ _ | refine Below.drew ?_ | refine bdrewN ?_ _ | refine Below.setCell ?_ (by first | exact Nat.le_refl _ | (simp; done) | (simp; omega) | omega) _ | refine Below.alloc ?_ (by first | exact Nat.le_refl _ | (simp; done) | (simp; omega) | omega) _)) (by have := HN.out; simp only [List.length_append, List.length_cons, List.length_nil, List.length_take, List.length_drop]; omega) _; refine wpList_app3 rfl _ _ _ _ rfl _ _ rfl rfl _ w3 hr ?_; have R3 : Hid (RowE w3 W0.heap.size (.slice q3 n3 c3) ([] ++ P.take 0 ++ [p])) := r3; have zz3 := b3.size; have oP3 := oPW.keep b3; have cP3 := oP3.cell; have lP3 := oP3.lt; have cN3 : w3.cell? ⟨N, 0, none⟩ = some (.slice none 0 0) := (HON.out w3 (bup hBW b3)).cell 0; clear hr r3) | (at_builtin; clear t3; obtain ⟨q4, n4, c4, w4, hr, r4, b4⟩ := HAP.out W0 _ (.slice q3 n3 c3) _ ([] ++ P.take 0 ++ [p]) (P.drop 0) R3.out (.inl ⟨rfl, HD0.out⟩) b3 (by have := HN.out; simp only [List.length_append, List.length_cons, List.length_nil, List.length_take, List.length_drop]; omega) _; refine wpList_app3 rfl _ _ _ _ rfl _ _ rfl rfl _ w4 hr ?_; have HQ : Hid _ := HFin.out w4 _ r4 b4; have hyc1 := (HON.out w4 (bup hBW b4)).cell 0; have hyc2 := (HON.out w4 (bup hBW b4)).fro 0; clear hr r4))
            go_ret
            exact ⟨by rw [HAB.out]; rfl, HQ.out⟩
          · have Hcl : Hid (∀ i x, P[i]? = some x → ∀ j u, (Pr.cs x)[j]? = some u → w.cell? ⟨g, i * 7 + j, none⟩ = some u) := hcl
            clear hcl
            have HFin : Hid (∀ (W : World) (u : Value), RowE W W0.heap.size u ([] ++ P.take k ++ [p] ++ P.drop k) → Below W0.heap.size W0 W → DOut w N (.slice (some ⟨g, 0, none⟩) k cap) (addR P p) (W.setCell ⟨N, 0, none⟩ u)) := (show _ from fun W u h1 h2 => by
              rw [List.nil_append, HR.out] at h1
              exact HDP.out W u _ (bup hBW h2) (RowG.mono h1 zW))
            have HT : Hid (∀ W, Below W0.heap.size W0 W → VG 7 Pr.cs W (.slice (some ⟨g, 0, none⟩) k cap) (P.take k)) := (show _ from fun W hb => by
              have := VG.cut (w := W) (cap := cap) Pr.len (fun i x hi j u hu => ((bup hBW hb).cell (p := ⟨g, i * 7 + j, none⟩) hg).trans (Hcl.out i x hi j u hu)) 0 k (by rw [← HN.out]; omega)
              rwa [Nat.zero_mul, List.drop_zero] at this)
            by_cases hci : cap = k
            · subst hci
              have HE : Hid (∀ W, VG 7 Pr.cs W (.slice (some ⟨g, 0, none⟩) 0 0) (P.drop cap)) := (show _ from fun W => by
                rw [HD0.out]
                exact .inr ⟨_, 0, rfl, fun j u hu => by simp [flatG] at hu⟩)
              go_wp2_with (first | (at_builtin; clear t1; obtain ⟨q2, n2, c2, w2, hr, r2, b2⟩ := HAP.out W0 _ (.slice none 0 0) _ ([]) (P.take cap) (RowG.nil _) (HT.out _ (Below.refl _ _)) (Below.refl _ _) (by have := HN.out; simp only [List.length_append, List.length_cons, List.length_nil, List.length_take, List.length_drop]; omega) _; refine wpList_app3 rfl _ _ _ _ rfl _ _ rfl rfl _ w2 hr ?_; have R2 : Hid (RowE w2 W0.heap.size (.slice q2 n2 c2) ([] ++ P.take cap)) := r2; have zz2 := b2.size; have oP2 := oPW.keep b2; have cP2 := oP2.cell; have lP2 := oP2.lt; have cN2 : w2.cell? ⟨N, 0, none⟩ = some (.slice (some ⟨g, 0, none⟩) cap cap) := (HON.out w2 (bup hBW b2)).cell 0; clear hr r2) | (at_builtin; clear t2; obtain ⟨q3, n3, c3, w3, hr, r3, b3⟩ := HAP.out W0 _ (.slice q2 n2 c2) _ ([] ++ P.take cap) ([p]) (RowG.keep R2.out (by with_reducible (repeat' first | assumption | exact Below.refl _ _ | refine Below.drew ?_ | refine bdrewN ?_ _ | refine Below.setCell ?_ (by first | exact Nat.le_refl _ | (simp; done) | (simp; omega) | omega) _ | refine Below.alloc ?_ (by first | exact Nat.le_refl _ | (simp; done) | (simp; omega) | omega) _))) (VG.one (heap_at rfl)) (by with_reducible (repeat' first | assumption | exact Below.refl _ _ | refine Below.drew ?_ | refine bdrewN ?_ _ | refine Below.setCell ?_ (by first | exact Nat.le_refl _ | (simp; done) | (simp; omega) | omega) _ | refine Below.alloc ?_ (by first | exact Nat.le_refl _ | (simp; done) | (simp; omega) | omega) _)) (by have := HN.out; simp only [List.length_append, List.length_cons, List.length_nil, List.length_take, List.length_drop]; omega) _; refine wpList_app3 rfl _ _ _ _ rfl _ _ rfl rfl _ w3 hr ?_; have R3 : Hid (RowE w3 W0.heap.size (.slice q3 n3 c3) ([] ++ P.take cap ++ [p])) := r3; have zz3 := b3.size; have oP3 := oPW.keep b3; have cP3 := oP3.cell; have lP3 := oP3.lt; have cN3 : w3.cell? ⟨N, 0, none⟩ = some (.slice (some ⟨g, 0, none⟩) cap cap) := (HON.out w3 (bup hBW b3)).cell 0; clear hr r3) | (at_builtin; clear t3; obtain ⟨q4, n4, c4, w4, hr, r4, b4⟩ := HAP.out W0 _ (.slice q3 n3 c3) _ ([] ++ P.take cap ++ [p]) (P.drop cap) R3.out (HE.out _) b3 (by have := HN.out; simp only [List.length_append, List.length_cons, List.length_nil, List.length_take, List.length_drop]; omega) _; refine wpList_app3 rfl _ _ _ _ rfl _ _ rfl rfl _ w4 hr ?_; have HQ : Hid _ := HFin.out w4 _ r4 b4; have hyc1 := (HON.out w4 (bup hBW b4)).cell 0; have hyc2 := (HON.out w4 (bup hBW b4)).fro 0; clear hr r4))
              go_ret
              exact ⟨by rw [HAB.out]; rfl, HQ.out⟩
            · have hk2 : (k : Int) ≤ cap := by omega
              have HE : Hid (∀ W, VG 7 Pr.cs W (.slice (some ⟨g, k * 7, none⟩) 0 (cap - k)) (P.drop k)) := (show _ from fun W => by
                rw [HD0.out]
                exact .inr ⟨_, cap - k, rfl, fun j u hu => by simp [flatG] at hu⟩)
              go_wp2_with (first | (at_builtin; clear t1; obtain ⟨q2, n2, c2, w2, hr, r2, b2⟩ := HAP.out W0 _ (.slice none 0 0) _ ([]) (P.take k) (RowG.nil _) (HT.out _ (Below.refl _ _)) (Below.refl _ _) (by have := HN.out; simp only [List.length_append, List.length_cons, List.length_nil, List.length_take, List.length_drop]; omega) _; refine wpList_app3 rfl _ _ _ _ rfl _ _ rfl rfl _ w2 hr ?_; have R2 : Hid (RowE w2 W0.heap.size (.slice q2 n2 c2) ([] ++ P.take k)) := r2; have zz2 := b2.size; have oP2 := oPW.keep b2; have cP2 := oP2.cell; have lP2 := oP2.lt; have cN2 : w2.cell? ⟨N, 0, none⟩ = some (.slice (some ⟨g, 0, none⟩) k cap) := (HON.out w2 (bup hBW b2)).cell 0; clear hr r2) | (at_builtin; clear t2; obtain ⟨q3, n3, c3, w3, hr, r3, b3⟩ := HAP.out W0 _ (.slice q2 n2 c2) _ ([] ++ P.take k) ([p]) (RowG.keep R2.out (by with_reducible (repeat' first | assumption | exact Below.refl _ _ | refine Below.drew ?_ | refine bdrewN ?_ _ | refine Below.setCell ?_ (by first | exact Nat.le_refl _ | (simp; done) | (simp; omega) | omega) _ | refine Below.alloc ?_ (by first | exact Nat.le_refl _ | (simp; done) | (simp; omega) | omega) _))) (VG.one (heap_at rfl)) (by with_reducible (repeat' first | assumption | exact Below.refl _ _ | refine Below.drew ?_ | refine bdrewN ?_ _ | refine Below.setCell ?_ (by first | exact Nat.le_refl _ | (simp; done) | (simp; omega) | omega) _ | refine Below.alloc ?_ (by first | exact Nat.le_refl _ | (simp; done) | (simp; omega) | omega) _)) (by have := HN.out; simp only [List.length_append, List.length_cons, List.length_nil, List.length_take, List.length_drop]; omega) _; refine wpList_app3 rfl _ _ _ _ rfl _ _ rfl rfl _ w3 hr ?_; have R3 : Hid (RowE w3 W0.heap.size (.slice q3 n3 c3) ([] ++ P.take k ++ [p])) := r3; have zz3 := b3.size; have oP3 := oPW.keep b3; have cP3 := oP3.cell; have lP3 := oP3.lt; have cN3 : w3.cell? ⟨N, 0, none⟩ = some (.slice (some ⟨g, 0, none⟩) k cap) := (HON.out w3 (bup hBW b3)).cell 0; clear hr r3) | (at_builtin; clear t3; obtain ⟨q4, n4, c4, w4, hr, r4, b4⟩ := HAP.out W0 _ (.slice q3 n3 c3) _ ([] ++ P.take k ++ [p]) (P.drop k) R3.out (HE.out _) b3 (by have := HN.out; simp only [List.length_append, List.length_cons, List.length_nil, List.length_take, List.length_drop]; omega) _; refine wpList_app3 rfl _ _ _ _ rfl _ _ rfl rfl _ w4 hr ?_; have HQ : Hid _ := HFin.out w4 _ r4 b4; have hyc1 := (HON.out w4 (bup hBW b4)).cell 0; have hyc2 := (HON.out w4 (bup hBW b4)).fro 0; clear hr r4))
              go_ret
              exact ⟨by rw [HAB.out]; rfl, HQ.out⟩
end Go.Proofs.Ytpblkidbaheboaa
