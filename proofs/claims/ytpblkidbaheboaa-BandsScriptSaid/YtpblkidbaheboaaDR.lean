/- The document's Remove: of every list of pairs the plain one. Its own cell is turned, and new memory. -/
import Derived.Test.YtpblkidbaheboaaCY
import Derived.Test.YtpblkidbaheboaaCZ
namespace Go.Proofs.Ytpblkidbaheboaa
open Go.RowKit
set_option linter.all false
set_option maxRecDepth 100000 in
set_option maxHeartbeats 8000000 in
theorem drem_any (w : World) (N : Nat) (v : Value) (P : List Pr) (p : Pr) (hN : Own w N #[v]) (hR : RowE w 0 v P) (hs : SrtP P) (hb : P.length ≤ 2513169434916) : Calls Try.prog 11 #[.pointer (some ⟨N, 0, none⟩), .agg #[.int .i64 p.t, .int .i64 p.l, .int .i64 p.b, .int .i64 p.q], .agg #[.int .i64 p.r, .int .i64 p.c]] w fun e w' => e = .returned (.bool (remB P p)) ∧ DOut w N v (remR P p) w' := by
  have mixed : Try.prog.follows .mixedOrders = true := by kernel_rfl
  have hv := (RowG.view (sz := 7) (cs := Pr.cs) (fun _ => rfl) hR : VL 7 Pr.cs w v P)
  have hDS : ∀ W, Below w.heap.size w W → DOut w N v P W := fun W hb => DOut.same hN hR hb
  have hDP : ∀ W u P', Below w.heap.size w W → RowE W w.heap.size u P' → DOut w N v P' (W.setCell ⟨N, 0, none⟩ u) := fun W u P' h1 h2 => DOut.put hN h1 h2
  have HDS : Hid (∀ W, Below w.heap.size w W → DOut w N v P W) := hDS
  have HDP : Hid (∀ W u P', Below w.heap.size w W → RowE W w.heap.size u P' → DOut w N v P' (W.setCell ⟨N, 0, none⟩ u)) := hDP
  clear hDS hDP
  obtain ⟨q, cap, rfl, h1, h2, h3⟩ := hv
  obtain ⟨n, hn⟩ : ∃ n, n = P.length := ⟨_, rfl⟩
  have HN : Hid (n = P.length) := hn
  have HSrt : Hid (SrtP P) := hs
  rw [← hn] at h1 h3 hb hN HDS HDP ⊢
  have HON : Hid (∀ W, Below w.heap.size w W → Own W N #[.slice q n cap]) := (show _ from fun W h => hN.keep h)
  have hNl := hN.lt
  have hN0 : w.cell? ⟨N, 0, none⟩ = some (.slice q n cap) := hN.cell 0
  have HV : Hid (0 < n → ∃ g, q = some ⟨g, 0, none⟩ ∧ g < w.heap.size ∧ ∀ i x, P[i]? = some x → ∀ j u, (Pr.cs x)[j]? = some u → w.cell? ⟨g, i * 7 + j, none⟩ = some u) := h3
  obtain ⟨i0, hi0, hz0, hzs, hzb⟩ := info_parts infoEdge
  have HAP : Hid (∀ (W0 W : World) (u x : Value) (a kk : List Pr), RowE W W0.heap.size u a → VG 7 Pr.cs W x kk → Below W0.heap.size W0 W → a.length + kk.length ≤ 2513169434916 → ∀ ty, ∃ q' n' c' w', (Builtin.append_ #[26, 26] ty #[u, x]).run Try.prog W = .ok (.slice q' n' c') w' ∧ RowE w' W0.heap.size (.slice q' n' c') (a ++ kk) ∧ Below W0.heap.size W0 w') := (show _ from fun W0 W u x a kk k1 k2 k3 k4 ty => by
    obtain ⟨q', n', c', w', r1, r2, r3⟩ := app_piece Try.underlying26 hi0 hz0 hzs hzb rfl (by omega) Pr.len Pr.one k1 k2 k3.size (by omega) (by omega) ty
    exact ⟨q', n', c', w', r1, r2, k3.trans (r3.mono (Nat.le_refl _))⟩)
  have HPa : Hid (∀ W, Calls Try.prog 27 #[.agg #[.int .i64 p.t, .int .i64 p.l, .int .i64 p.b, .int .i64 p.q], .agg #[.int .i64 p.r, .int .i64 p.c]] W fun e w' => e = .returned (.agg #[.int .i64 p.r, .int .i64 p.c, .bool true, .int .i64 p.t, .int .i64 p.l, .int .i64 p.b, .int .i64 p.q]) ∧ Below W.heap.size W w') := pair_any p.t p.l p.b p.q p.r p.c
  clear hi0 hz0 hzs hzb i0 hN hR h3 hs hn
  go_enter Try.func11, Try.ntmps11
  go_wp2_with (go_at_call 27; refine (HPa.out _).mono ?_; rintro e wp ⟨rfl, hbp⟩; have hBp : Below w.heap.size w wp := bup (by with_reducible (repeat' first | assumption | exact Below.refl _ _ | refine Below.drew ?_ | refine bdrewN ?_ _ | refine Below.setCell ?_ (by first | exact Nat.le_refl _ | (simp; done) | (simp; omega) | omega) _ | refine Below.alloc ?_ (by first | exact Nat.le_refl _ | (simp; done) | (simp; omega) | omega) _)) hbp; have zp := hBp.size; clear hbp)
  go_loopw [8] (fun u8 w' => ∃ k : Nat, u8 = .int .i64 k ∧ k ≤ n ∧ Hid (∀ j y, j < k → P[j]? = some y → y ≠ p) ∧ Below w.heap.size w w' ∧ Own w' wp.heap.size #[.int .i64 p.r, .int .i64 p.c, .bool true, .int .i64 p.t, .int .i64 p.l, .int .i64 p.b, .int .i64 p.q]) (fun u8 _ => n - (intOf u8).toNat)
  case atStart => exact ⟨0, rfl, by omega, (show Hid _ from fun j y hj => absurd hj (Nat.not_lt_zero _)), by with_reducible (repeat' first | assumption | exact Below.refl _ _ | refine Below.drew ?_ | refine bdrewN ?_ _ | refine Below.setCell ?_ (by first | exact Nat.le_refl _ | (simp; done) | (simp; omega) | omega) _ | refine Below.alloc ?_ (by first | exact Nat.le_refl _ | (simp; done) | (simp; omega) | omega) _), by with_reducible (repeat' first | assumption | refine Own.drew ?_ | refine Own.drewN ?_ _ | (refine Own.at ?_; first | rfl | (simp; done)) | refine Own.past ?_ _)⟩
  case round =>
    obtain ⟨k, rfl, hk, HL, hB, oP⟩ := hrel
    have cN : wr.cell? ⟨N, 0, none⟩ = some (.slice q n cap) := (hB.cell (p := ⟨N, 0, none⟩) hNl).trans hN0
    have cP := oP.cell
    have lP := oP.lt
    have zB := hB.size
    by_cases hlt : k < n
    · have hlt' : (k : Int) < n := by omega
      obtain ⟨g, rfl, hg, hcl⟩ := HV.out (by omega)
      obtain ⟨x, hx⟩ : ∃ x, P[k]? = some x := ⟨_, List.getElem?_eq_getElem (by rw [← HN.out]; omega)⟩
      have d0 : wr.cell? ⟨g, k * 7, none⟩ = some (.int .i64 x.r) := (hB.cell (p := ⟨g, k * 7, none⟩) hg).trans (hcl k x hx 0 _ rfl)
      have d1 : wr.cell? ⟨g, k * 7 + 1, none⟩ = some (.int .i64 x.c) := (hB.cell (p := ⟨g, k * 7 + 1, none⟩) hg).trans (hcl k x hx 1 _ rfl)
      have d2 : wr.cell? ⟨g, k * 7 + 2, none⟩ = some (.bool true) := (hB.cell (p := ⟨g, k * 7 + 2, none⟩) hg).trans (hcl k x hx 2 _ rfl)
      have d3 : wr.cell? ⟨g, k * 7 + 3, none⟩ = some (.int .i64 x.t) := (hB.cell (p := ⟨g, k * 7 + 3, none⟩) hg).trans (hcl k x hx 3 _ rfl)
      have d4 : wr.cell? ⟨g, k * 7 + 4, none⟩ = some (.int .i64 x.l) := (hB.cell (p := ⟨g, k * 7 + 4, none⟩) hg).trans (hcl k x hx 4 _ rfl)
      have d5 : wr.cell? ⟨g, k * 7 + 5, none⟩ = some (.int .i64 x.b) := (hB.cell (p := ⟨g, k * 7 + 5, none⟩) hg).trans (hcl k x hx 5 _ rfl)
      have d6 : wr.cell? ⟨g, k * 7 + 6, none⟩ = some (.int .i64 x.q) := (hB.cell (p := ⟨g, k * 7 + 6, none⟩) hg).trans (hcl k x hx 6 _ rfl)
      have hgr : g < wr.heap.size := by omega
      have Hcl : Hid (∀ i x, P[i]? = some x → ∀ j u, (Pr.cs x)[j]? = some u → w.cell? ⟨g, i * 7 + j, none⟩ = some u) := hcl
      have heq := eqP x p
      clear hcl
      cases hsm : sameP x p
      · rw [hsm] at heq
        have HL2 : Hid (∀ j y, j < k + 1 → P[j]? = some y → y ≠ p) := (show _ from fun j y hj hy he => by
          by_cases e : j = k
          · subst e; rw [hx] at hy; injection hy with hy; subst hy; rw [(sameP_is _ _).2 he] at hsm; cases hsm
          · exact HL.out j y (by omega) hy he)
        clear hsm hx
        go_wp2
        go_quiet (fail)
        go_wp2
        exact ⟨⟨k + 1, by go_num, by omega, HL2, bdrewN hB _, Own.drewN oP _⟩, by simp [intOf] <;> omega⟩
      · rw [hsm] at heq
        have hxp := (sameP_is _ _).1 hsm
        rw [hxp] at hx
        have hcut := cut_yes HSrt.out p hx
        have HB : Hid (remB P p = true) := hcut.1
        have HR : Hid (P.take k ++ P.drop (k + 1) = remR P p) := (show _ = _ by unfold remR; rw [if_pos HB.out]; exact hcut.2)
        clear hsm hx hxp hcut
        have hk1 : ((k : Int) + 1) ≤ n := by omega
        have hk2 : ((k : Int) + 1) ≤ cap := by omega
        go_wp2
        go_quiet (fail)
        obtain ⟨W0, e0⟩ : ∃ W0 : World, W0 = wr.drewN nq := ⟨_, rfl⟩
        have hBW : Below w.heap.size w W0 := (by rw [e0]; exact bdrewN hB _)
        have oPW : Own W0 wp.heap.size #[.int .i64 p.r, .int .i64 p.c, .bool true, .int .i64 p.t, .int .i64 p.l, .int .i64 p.b, .int .i64 p.q] := (by rw [e0]; exact Own.drewN oP _)
        rw [← e0]
        clear e0
        have zW := hBW.size
        have cPW := oPW.cell
        have lPW := oPW.lt
        have cNW : W0.cell? ⟨N, 0, none⟩ = some (.slice (some ⟨g, 0, none⟩) n cap) := (HON.out W0 hBW).cell 0
        have t1 : True := trivial
        have t2 : True := trivial
        have t3 : True := trivial
        have HFin : Hid (∀ (W : World) (u : Value), RowE W W0.heap.size u ([] ++ P.take k ++ P.drop (k + 1)) → Below W0.heap.size W0 W → DOut w N (.slice (some ⟨g, 0, none⟩) n cap) (remR P p) (W.setCell ⟨N, 0, none⟩ u)) := (show _ from fun W u h1 h2 => by
          rw [List.nil_append, HR.out] at h1
          exact HDP.out W u _ (bup hBW h2) (RowG.mono h1 zW))
        have HT : Hid (∀ W, Below W0.heap.size W0 W → VG 7 Pr.cs W (.slice (some ⟨g, 0, none⟩) k cap) (P.take k)) := (show _ from fun W hb => by
          have := VG.cut (w := W) (cap := cap) Pr.len (fun i x hi j u hu => ((bup hBW hb).cell (p := ⟨g, i * 7 + j, none⟩) hg).trans (Hcl.out i x hi j u hu)) 0 k (by rw [← HN.out]; omega)
          rwa [Nat.zero_mul, List.drop_zero] at this)
        by_cases hci : cap = k + 1
        · subst hci
          have hn1 : n = k + 1 := by omega
          subst hn1
          have HE : Hid (∀ W, VG 7 Pr.cs W (.slice (some ⟨g, 0, none⟩) 0 0) (P.drop (k + 1))) := (show _ from fun W => by
            have e : P.drop (k + 1) = [] := List.drop_of_length_le (by rw [← HN.out]; exact Nat.le_refl _)
            rw [e]
            exact .inr ⟨_, 0, rfl, fun j u hu => by simp [flatG] at hu⟩)
          go_wp2_with (first | (at_builtin; clear t1; obtain ⟨q2, n2, c2, w2, hr, r2, b2⟩ := HAP.out W0 _ (.slice none 0 0) _ ([]) (P.take k) (RowG.nil _) (HT.out _ (Below.refl _ _)) (Below.refl _ _) (by have := HN.out; simp only [List.length_append, List.length_cons, List.length_nil, List.length_take, List.length_drop]; omega) _; refine wpList_app3 rfl _ _ _ _ rfl _ _ rfl rfl _ w2 hr ?_; have R2 : Hid (RowE w2 W0.heap.size (.slice q2 n2 c2) ([] ++ P.take k)) := r2; have zz2 := b2.size; have oP2 := oPW.keep b2; have cP2 := oP2.cell; have lP2 := oP2.lt; have cN2 : w2.cell? ⟨N, 0, none⟩ = some (.slice (some ⟨g, 0, none⟩) (k + 1) (k + 1)) := (HON.out w2 (bup hBW b2)).cell 0; clear hr r2) | (at_builtin; clear t2; obtain ⟨q4, n4, c4, w4, hr, r4, b4⟩ := HAP.out W0 _ (.slice q2 n2 c2) _ ([] ++ P.take k) (P.drop (k + 1)) R2.out (HE.out _) b2 (by have := HN.out; simp only [List.length_append, List.length_cons, List.length_nil, List.length_take, List.length_drop]; omega) _; refine wpList_app3 rfl _ _ _ _ rfl _ _ rfl rfl _ w4 hr ?_; have HQ : Hid _ := HFin.out w4 _ r4 b4; have hyc1 := (HON.out w4 (bup hBW b4)).cell 0; have hyc2 := (HON.out w4 (bup hBW b4)).fro 0; clear hr r4))
          go_ret
          exact ⟨by rw [HB.out]; rfl, HQ.out⟩
        · have HE : Hid (∀ W, Below W0.heap.size W0 W → VG 7 Pr.cs W (.slice (some ⟨g, (k + 1) * 7, none⟩) (n - (k + 1)) (cap - (k + 1))) (P.drop (k + 1))) := (show _ from fun W hb => by
            have := VG.cut (w := W) (cap := cap - (k + 1)) Pr.len (fun i x hi j u hu => ((bup hBW hb).cell (p := ⟨g, i * 7 + j, none⟩) hg).trans (Hcl.out i x hi j u hu)) (k + 1) (n - (k + 1)) (by rw [← HN.out]; omega)
            rwa [List.take_of_length_le (by rw [List.length_drop, ← HN.out]; exact Nat.le_refl _)] at this)
          go_wp2_with (first | (at_builtin; clear t1; obtain ⟨q2, n2, c2, w2, hr, r2, b2⟩ := HAP.out W0 _ (.slice none 0 0) _ ([]) (P.take k) (RowG.nil _) (HT.out _ (Below.refl _ _)) (Below.refl _ _) (by have := HN.out; simp only [List.length_append, List.length_cons, List.length_nil, List.length_take, List.length_drop]; omega) _; refine wpList_app3 rfl _ _ _ _ rfl _ _ rfl rfl _ w2 hr ?_; have R2 : Hid (RowE w2 W0.heap.size (.slice q2 n2 c2) ([] ++ P.take k)) := r2; have zz2 := b2.size; have oP2 := oPW.keep b2; have cP2 := oP2.cell; have lP2 := oP2.lt; have cN2 : w2.cell? ⟨N, 0, none⟩ = some (.slice (some ⟨g, 0, none⟩) n cap) := (HON.out w2 (bup hBW b2)).cell 0; clear hr r2) | (at_builtin; clear t2; obtain ⟨q4, n4, c4, w4, hr, r4, b4⟩ := HAP.out W0 _ (.slice q2 n2 c2) _ ([] ++ P.take k) (P.drop (k + 1)) R2.out (HE.out _ b2) b2 (by have := HN.out; simp only [List.length_append, List.length_cons, List.length_nil, List.length_take, List.length_drop]; omega) _; refine wpList_app3 rfl _ _ _ _ rfl _ _ rfl rfl _ w4 hr ?_; have HQ : Hid _ := HFin.out w4 _ r4 b4; have hyc1 := (HON.out w4 (bup hBW b4)).cell 0; have hyc2 := (HON.out w4 (bup hBW b4)).fro 0; clear hr r4))
          go_ret
          exact ⟨by rw [HB.out]; rfl, HQ.out⟩
    · have hlt' : ¬ (k : Int) < n := by omega
      have HB : Hid (remB P p = false) := (show _ = _ by
        cases hh : remB P p
        · rfl
        · obtain ⟨j, hj⟩ := List.getElem?_of_mem (has_mem.1 hh)
          have := (List.getElem?_eq_some_iff.1 hj).1
          exact absurd rfl (HL.out j p (by have := HN.out; omega) hj))
      have e : Hid (remR P p = P) := (show _ = _ by unfold remR; rw [HB.out]; rfl)
      go_wp2
      go_ret
      refine ⟨by rw [HB.out]; rfl, ?_⟩
      rw [e.out]
      exact HDS.out _ (by with_reducible (repeat' first | assumption | exact Below.refl _ _ | refine Below.drew ?_ | refine bdrewN ?_ _ | refine Below.setCell ?_ (by first | exact Nat.le_refl _ | (simp; done) | (simp; omega) | omega) _ | refine Below.alloc ?_ (by first | exact Nat.le_refl _ | (simp; done) | (simp; omega) | omega) _))
end Go.Proofs.Ytpblkidbaheboaa
