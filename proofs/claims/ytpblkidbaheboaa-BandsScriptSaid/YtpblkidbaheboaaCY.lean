/- The document's Over: of every list of pairs the plain one. New memory alone is made. -/
import Derived.Test.YtpblkidbaheboaaCX
namespace Go.Proofs.Ytpblkidbaheboaa
open Go.RowKit
set_option linter.all false
theorem overP_len (x y : Int) : ∀ P : List Pr, (overP P x y).length ≤ P.length := fun P => by
  have : ∀ (P : List Pr) (acc : List Cl), (P.foldl (stepO x y) acc).length ≤ acc.length + P.length := by
    intro P
    induction P with
    | nil => intro acc; simp
    | cons a t ih =>
      intro acc
      refine Nat.le_trans (ih _) ?_
      have : (stepO x y acc a).length ≤ acc.length + 1 := by unfold stepO; split <;> simp
      simp only [List.length_cons]; omega
  have q := this P []
  unfold overP
  simpa using q
theorem overP_next {P : List Pr} {k : Nat} {p : Pr} (x y : Int) (h : P[k]? = some p) : overP (P.take (k + 1)) x y = stepO x y (overP (P.take k) x y) p := by unfold overP; rw [take_next h, List.foldl_append]; rfl
theorem last_at {acc : List Cl} {j : Nat} {z : Cl} (hj : acc.length = j + 1) (h : acc[j]? = some z) (c : Cl) : lastIs acc c = sameC z.r z.c c.r c.c := by
  unfold lastIs
  rw [List.getLast?_eq_getElem?, hj, Nat.add_sub_cancel, h]
theorem hi0C : True := trivial
set_option maxRecDepth 100000 in
set_option maxHeartbeats 8000000 in
theorem dover_any (w : World) (N : Nat) (v0 : Value) (P : List Pr) (cx cy : Int) (hN : w.cell? ⟨N, 0, none⟩ = some v0) (hNl : N < w.heap.size) (hv : VL 7 Pr.cs w v0 P) (hb : P.length ≤ 2513169434916) : Calls Try.prog 14 #[.pointer (some ⟨N, 0, none⟩), .agg #[.int .i64 cx, .int .i64 cy]] w fun e w' => ∃ v, e = .returned v ∧ RowC w' w.heap.size v (overP P cx cy) ∧ Below w.heap.size w w' := by
  have mixed : Try.prog.follows .mixedOrders = true := by kernel_rfl
  obtain ⟨q0, cb, rfl, h1, h2, h3⟩ := hv
  obtain ⟨n, hn⟩ : ∃ n, n = P.length := ⟨_, rfl⟩
  have HN : Hid (n = P.length) := hn
  rw [← hn] at h1 h3 hb hN
  have HE : Hid (∀ k, k < n → ∃ g p, q0 = some ⟨g, 0, none⟩ ∧ g < w.heap.size ∧ P[k]? = some p ∧ ∀ j u, (Pr.cs p)[j]? = some u → w.cell? ⟨g, k * 7 + j, none⟩ = some u) := (show _ from fun k hk => by
    obtain ⟨g, rfl, hg, hc⟩ := h3 (by omega)
    obtain ⟨p, hp⟩ : ∃ p, P[k]? = some p := ⟨_, List.getElem?_eq_getElem (by omega)⟩
    exact ⟨g, p, rfl, hg, hp, hc k p hp⟩)
  have Hb : Hid (n ≤ 2513169434916) := hb
  clear hn h3 hb
  obtain ⟨i0, hi0, hz0, hzs, hzb⟩ := info_parts infoCell
  have HAP : Hid (∀ W (v : Value) (L : List Cl) vb (z : Cl), RowC W (w.heap.size + 1) v L → W.heap[vb]? = some (.cells z.cs.toArray 33 (0, 0)) → w.heap.size + 1 ≤ W.heap.size → L.length + 1 ≤ 2513169434917 → ∀ ty, ∃ v' w', (Builtin.append_ #[38, 38] ty #[v, .slice (some ⟨vb, 0, none⟩) 1 1]).run Try.prog W = .ok v' w' ∧ RowC w' (w.heap.size + 1) v' (L ++ [z]) ∧ Below (w.heap.size + 1) W w' ∧ (v'.ownBlock = v.ownBlock ∨ v'.ownBlock = some W.heap.size) ∧ Mut (fun b => v.ownBlock = some b) W w') := (show _ from fun W v L vb z r1 r2 r3 r4 ty => app_one Try.underlying38 hi0 hz0 hzs hzb rfl (by omega) Cl.len Cl.one r1 r2 r3 (by omega) (by omega) ty)
  go_enter Try.func14, Try.ntmps14
  go_wp2
  go_loopw [5, 6] (fun u5 u6 w' => ∃ k : Nat, u6 = .int .i64 k ∧ k ≤ n ∧ Hid (RowC w' (w.heap.size + 1) u5 (overP (P.take k) cx cy)) ∧ Below w.heap.size w w' ∧ Own w' w.heap.size #[.int .i64 cx, .int .i64 cy]) (fun _ u6 _ => n - (intOf u6).toNat)
  case atStart => exact ⟨0, rfl, by omega, (show RowG _ _ _ _ _ _ _ from RowG.nil _), by with_reducible (repeat' first | assumption | exact Below.refl _ _ | refine Below.drew ?_ | refine bdrewN ?_ _ | refine Below.setCell ?_ (by first | exact Nat.le_refl _ | (simp; done) | (simp; omega) | omega) _ | refine Below.alloc ?_ (by first | exact Nat.le_refl _ | (simp; done) | (simp; omega) | omega) _), by with_reducible (repeat' first | assumption | refine Own.drew ?_ | refine Own.drewN ?_ _ | (refine Own.at ?_; first | rfl | (simp; done)) | refine Own.past ?_ _)⟩
  case round =>
    obtain ⟨k, rfl, hk, HR, hB, oP⟩ := hrel
    have cN : wr.cell? ⟨N, 0, none⟩ = some (.slice q0 n cb) := (hB.cell (p := ⟨N, 0, none⟩) hNl).trans hN
    have zB := hB.size
    have lP := oP.lt
    have bb0 : wr.cell? ⟨w.heap.size, 0, none⟩ = some (.int .i64 cx) := oP.cell 0
    have bb1 : wr.cell? ⟨w.heap.size, 1, none⟩ = some (.int .i64 cy) := oP.cell 1
    obtain ⟨acc, hacc⟩ : ∃ acc, acc = overP (P.take k) cx cy := ⟨_, rfl⟩
    rw [← hacc] at HR
    by_cases hlt : k < n
    · have hlt' : (k : Int) < n := by omega
      obtain ⟨g, p, rfl, hg, hp, hcl⟩ := HE.out k hlt
      have HX0 : Hid (overP (P.take (k + 1)) cx cy = stepO cx cy acc p) := (show _ = _ by rw [overP_next _ _ hp, hacc])
      have HAl : Hid (acc.length + 1 ≤ 2513169434917) := (show _ ≤ _ by
        have h1 := overP_len cx cy (P.take k)
        rw [← hacc, List.length_take] at h1
        have := Hb.out
        omega)
      have y0 : wr.cell? ⟨g, k * 7, none⟩ = some (.int .i64 p.r) := (hB.cell (p := ⟨g, k * 7, none⟩) hg).trans (hcl 0 _ rfl)
      have y1 : wr.cell? ⟨g, k * 7 + 1, none⟩ = some (.int .i64 p.c) := (hB.cell (p := ⟨g, k * 7 + 1, none⟩) hg).trans (hcl 1 _ rfl)
      have y2 : wr.cell? ⟨g, k * 7 + 2, none⟩ = some (.bool true) := (hB.cell (p := ⟨g, k * 7 + 2, none⟩) hg).trans (hcl 2 _ rfl)
      have y3 : wr.cell? ⟨g, k * 7 + 3, none⟩ = some (.int .i64 p.t) := (hB.cell (p := ⟨g, k * 7 + 3, none⟩) hg).trans (hcl 3 _ rfl)
      have y4 : wr.cell? ⟨g, k * 7 + 4, none⟩ = some (.int .i64 p.l) := (hB.cell (p := ⟨g, k * 7 + 4, none⟩) hg).trans (hcl 4 _ rfl)
      have y5 : wr.cell? ⟨g, k * 7 + 5, none⟩ = some (.int .i64 p.b) := (hB.cell (p := ⟨g, k * 7 + 5, none⟩) hg).trans (hcl 5 _ rfl)
      have y6 : wr.cell? ⟨g, k * 7 + 6, none⟩ = some (.int .i64 p.q) := (hB.cell (p := ⟨g, k * 7 + 6, none⟩) hg).trans (hcl 6 _ rfl)
      have hgr : g < wr.heap.size := by omega
      clear hp hcl hacc
      have HI0 := fun W => rin_any p.t p.l p.b p.q cx cy W
      cases hin : inB p.t p.l p.b p.q cx cy
      · rw [hin] at HI0
        have HI : Hid (∀ W, Calls Try.prog 31 #[.agg #[.int .i64 p.t, .int .i64 p.l, .int .i64 p.b, .int .i64 p.q], .agg #[.int .i64 cx, .int .i64 cy]] W fun e w' => e = .returned (.bool false) ∧ Below W.heap.size W w') := HI0
        have HX : Hid (overP (P.take (k + 1)) cx cy = acc) := (show _ = _ by rw [HX0.out]; unfold stepO inP; rw [hin]; rfl)
        clear HX0 hin HI0
        go_wp2
        refine wp_region_held_drew (S := (fun w' => w'.cell? ⟨wr.heap.size, 0, none⟩ = some (.int .i64 p.r) ∧ w'.cell? ⟨wr.heap.size, 1, none⟩ = some (.int .i64 p.c) ∧ w'.cell? ⟨wr.heap.size, 2, none⟩ = some (.bool true) ∧ w'.cell? ⟨wr.heap.size, 3, none⟩ = some (.int .i64 p.t) ∧ w'.cell? ⟨wr.heap.size, 4, none⟩ = some (.int .i64 p.l) ∧ w'.cell? ⟨wr.heap.size, 5, none⟩ = some (.int .i64 p.b) ∧ w'.cell? ⟨wr.heap.size, 6, none⟩ = some (.int .i64 p.q) ∧ w'.cell? ⟨w.heap.size, 0, none⟩ = some (.int .i64 cx) ∧ w'.cell? ⟨w.heap.size, 1, none⟩ = some (.int .i64 cy))) (by kernel_rfl) (by (try dsimp only); ((repeat' apply And.intro) <;> (first | (go_keep; done) | (go_simp; done)))) (fun hHeld => ?_)
        refine wpAnyH_take (i := 0) (v := .pointer (some ⟨wr.heap.size, 2, none⟩)) rfl (by kernel_rfl) (by kernel_rfl) (by kernel_rfl) (fun _ _ _ h => h) (Or.inl ⟨by first | rfl | kernel_rfl, by intro wz hSw; (try dsimp only at hSw); go_simp⟩) (by assumption) ?_
        (try simp only [Act.put, List.getElem_toArray, List.getElem_cons_succ, List.getElem_cons_zero, List.setIfInBounds_toArray, List.set_cons_zero, List.set_cons_succ])
        refine wpAnyH_take (i := 1) (v := .pointer (some ⟨wr.heap.size, 3, none⟩)) rfl (by kernel_rfl) (by kernel_rfl) (by kernel_rfl) (fun _ _ _ h => h) (Or.inl ⟨by first | rfl | kernel_rfl, by intro wz hSw; (try dsimp only at hSw); go_simp⟩) (by assumption) ?_
        (try simp only [Act.put, List.getElem_toArray, List.getElem_cons_succ, List.getElem_cons_zero, List.setIfInBounds_toArray, List.set_cons_zero, List.set_cons_succ])
        refine wpAnyH_take (i := 2) (v := (.agg #[.int .i64 p.t, .int .i64 p.l, .int .i64 p.b, .int .i64 p.q])) rfl (by kernel_rfl) (by kernel_rfl) (by kernel_rfl) (fun _ _ _ h => h) (Or.inl ⟨by first | rfl | kernel_rfl, by intro wz hSw; (try dsimp only at hSw); go_simp⟩) (by assumption) ?_
        (try simp only [Act.put, List.getElem_toArray, List.getElem_cons_succ, List.getElem_cons_zero, List.setIfInBounds_toArray, List.set_cons_zero, List.set_cons_succ])
        refine wpAnyH_take (i := 3) (v := (.agg #[.int .i64 cx, .int .i64 cy])) rfl (by kernel_rfl) (by kernel_rfl) (by kernel_rfl) (fun _ _ _ h => h) (Or.inl ⟨by first | rfl | kernel_rfl, by intro wz hSw; (try dsimp only at hSw); go_simp⟩) (by assumption) ?_
        (try simp only [Act.put, List.getElem_toArray, List.getElem_cons_succ, List.getElem_cons_zero, List.setIfInBounds_toArray, List.set_cons_zero, List.set_cons_succ])
        refine wpAnyH_ready (rs := [4]) (by kernel_rfl) (by simp) ?_
        refine AllReadyH.cons rfl (fun K hK => ?_) ?_
        · go_simp
          (go_at_call 31; refine (HI.out _).mono ?_; rintro e wa ⟨rfl, hb⟩; have hka : Below wr.heap.size wr wa := bup (by with_reducible (repeat' first | assumption | exact Below.refl _ _ | refine Below.drew ?_ | refine bdrewN ?_ _ | refine Below.setCell ?_ (by first | exact Nat.le_refl _ | (simp; done) | (simp; omega) | omega) _ | refine Below.alloc ?_ (by first | exact Nat.le_refl _ | (simp; done) | (simp; omega) | omega) _)) hb; have hwa : Below w.heap.size w wa := hB.trans (hka.mono zB); have oXa : Own wa wr.heap.size #[.int .i64 p.r, .int .i64 p.c, .bool true, .int .i64 p.t, .int .i64 p.l, .int .i64 p.b, .int .i64 p.q] := Own.keep (by with_reducible (repeat' first | assumption | refine Own.drew ?_ | refine Own.drewN ?_ _ | (refine Own.at ?_; first | rfl | (simp; done)) | refine Own.past ?_ _)) hb; have oPa : Own wa w.heap.size #[.int .i64 cx, .int .i64 cy] := Own.keep (by with_reducible (repeat' first | assumption | refine Own.drew ?_ | refine Own.drewN ?_ _ | (refine Own.at ?_; first | rfl | (simp; done)) | refine Own.past ?_ _)) hb; have x0 : wa.cell? ⟨wr.heap.size, 0, none⟩ = some (.int .i64 p.r) := oXa.cell 0; have x1 : wa.cell? ⟨wr.heap.size, 1, none⟩ = some (.int .i64 p.c) := oXa.cell 1; have x2 : wa.cell? ⟨wr.heap.size, 2, none⟩ = some (.bool true) := oXa.cell 2; have x3 : wa.cell? ⟨wr.heap.size, 3, none⟩ = some (.int .i64 p.t) := oXa.cell 3; have x4 : wa.cell? ⟨wr.heap.size, 4, none⟩ = some (.int .i64 p.l) := oXa.cell 4; have x5 : wa.cell? ⟨wr.heap.size, 5, none⟩ = some (.int .i64 p.b) := oXa.cell 5; have x6 : wa.cell? ⟨wr.heap.size, 6, none⟩ = some (.int .i64 p.q) := oXa.cell 6; have b0 : wa.cell? ⟨w.heap.size, 0, none⟩ = some (.int .i64 cx) := oPa.cell 0; have b1 : wa.cell? ⟨w.heap.size, 1, none⟩ = some (.int .i64 cy) := oPa.cell 1; have cXa := oXa.cell; have lXa := oXa.lt; have zka := hka.size; clear hb)
          go_wp2_with fail
          refine hK.out _ _ (by (try dsimp only); first | (with_reducible assumption) | ((repeat' apply And.intro) <;> (first | (go_keep; done) | (go_simp; done)))) (fun hHeld => ?_)
          clear hK K
          (try simp only [Act.put, List.getElem_toArray, List.getElem_cons_succ, List.getElem_cons_zero, List.setIfInBounds_toArray, List.set_cons_zero, List.set_cons_succ])
          refine wpAnyH_take (i := 5) (v := .bool false) rfl (by kernel_rfl) (by kernel_rfl) (by kernel_rfl) (fun _ _ _ h => h) (Or.inl ⟨by first | rfl | kernel_rfl, by intro wz hSw; (try dsimp only at hSw); go_simp⟩) (by assumption) ?_
          (try simp only [Act.put, List.getElem_toArray, List.getElem_cons_succ, List.getElem_cons_zero, List.setIfInBounds_toArray, List.set_cons_zero, List.set_cons_succ])
          refine wpAnyH_take (i := 6) (v := undef) rfl (by kernel_rfl) (by kernel_rfl) (by kernel_rfl) (fun _ _ _ h => h) (Or.inr ⟨by kernel_rfl, rfl⟩) (by assumption) ?_
          (try simp only [Act.put, List.getElem_toArray, List.getElem_cons_succ, List.getElem_cons_zero, List.setIfInBounds_toArray, List.set_cons_zero, List.set_cons_succ])
          refine wpAnyH_take (i := 7) (v := undef) rfl (by kernel_rfl) (by kernel_rfl) (by kernel_rfl) (fun _ _ _ h => h) (Or.inr ⟨by kernel_rfl, rfl⟩) (by assumption) ?_
          (try simp only [Act.put, List.getElem_toArray, List.getElem_cons_succ, List.getElem_cons_zero, List.setIfInBounds_toArray, List.set_cons_zero, List.set_cons_succ])
          refine wpAnyH_take (i := 8) (v := undef) rfl (by kernel_rfl) (by kernel_rfl) (by kernel_rfl) (fun _ _ _ h => h) (Or.inr ⟨by kernel_rfl, rfl⟩) (by assumption) ?_
          (try simp only [Act.put, List.getElem_toArray, List.getElem_cons_succ, List.getElem_cons_zero, List.setIfInBounds_toArray, List.set_cons_zero, List.set_cons_succ])
          refine wpAnyH_take (i := 9) (v := undef) rfl (by kernel_rfl) (by kernel_rfl) (by kernel_rfl) (fun _ _ _ h => h) (Or.inr ⟨by kernel_rfl, rfl⟩) (by assumption) ?_
          (try simp only [Act.put, List.getElem_toArray, List.getElem_cons_succ, List.getElem_cons_zero, List.setIfInBounds_toArray, List.set_cons_zero, List.set_cons_succ])
          refine wpAnyH_take (i := 10) (v := undef) rfl (by kernel_rfl) (by kernel_rfl) (by kernel_rfl) (fun _ _ _ h => h) (Or.inr ⟨by kernel_rfl, rfl⟩) (by assumption) ?_
          (try simp only [Act.put, List.getElem_toArray, List.getElem_cons_succ, List.getElem_cons_zero, List.setIfInBounds_toArray, List.set_cons_zero, List.set_cons_succ])
          refine wpAnyH_take (i := 11) (v := undef) rfl (by kernel_rfl) (by kernel_rfl) (by kernel_rfl) (fun _ _ _ h => h) (Or.inr ⟨by kernel_rfl, rfl⟩) (by assumption) ?_
          (try simp only [Act.put, List.getElem_toArray, List.getElem_cons_succ, List.getElem_cons_zero, List.setIfInBounds_toArray, List.set_cons_zero, List.set_cons_succ])
          refine wpAnyH_take (i := 12) (v := undef) rfl (by kernel_rfl) (by kernel_rfl) (by kernel_rfl) (fun _ _ _ h => h) (Or.inr ⟨by kernel_rfl, rfl⟩) (by assumption) ?_
          (try simp only [Act.put, List.getElem_toArray, List.getElem_cons_succ, List.getElem_cons_zero, List.setIfInBounds_toArray, List.set_cons_zero, List.set_cons_succ])
          refine wpAnyH_take (i := 13) (v := undef) rfl (by kernel_rfl) (by kernel_rfl) (by kernel_rfl) (fun _ _ _ h => h) (Or.inr ⟨by kernel_rfl, rfl⟩) (by assumption) ?_
          (try simp only [Act.put, List.getElem_toArray, List.getElem_cons_succ, List.getElem_cons_zero, List.setIfInBounds_toArray, List.set_cons_zero, List.set_cons_succ])
          refine wpAnyH_take (i := 14) (v := undef) rfl (by kernel_rfl) (by kernel_rfl) (by kernel_rfl) (fun _ _ _ h => h) (Or.inr ⟨by kernel_rfl, rfl⟩) (by assumption) ?_
          (try simp only [Act.put, List.getElem_toArray, List.getElem_cons_succ, List.getElem_cons_zero, List.setIfInBounds_toArray, List.set_cons_zero, List.set_cons_succ])
          refine wpAnyH_take (i := 15) (v := undef) rfl (by kernel_rfl) (by kernel_rfl) (by kernel_rfl) (fun _ _ _ h => h) (Or.inr ⟨by kernel_rfl, rfl⟩) (by assumption) ?_
          (try simp only [Act.put, List.getElem_toArray, List.getElem_cons_succ, List.getElem_cons_zero, List.setIfInBounds_toArray, List.set_cons_zero, List.set_cons_succ])
          refine wpAnyH_take (i := 16) (v := undef) rfl (by kernel_rfl) (by kernel_rfl) (by kernel_rfl) (fun _ _ _ h => h) (Or.inr ⟨by kernel_rfl, rfl⟩) (by assumption) ?_
          (try simp only [Act.put, List.getElem_toArray, List.getElem_cons_succ, List.getElem_cons_zero, List.setIfInBounds_toArray, List.set_cons_zero, List.set_cons_succ])
          refine wpAnyH_take (i := 17) (v := undef) rfl (by kernel_rfl) (by kernel_rfl) (by kernel_rfl) (fun _ _ _ h => h) (Or.inr ⟨by kernel_rfl, rfl⟩) (by assumption) ?_
          (try simp only [Act.put, List.getElem_toArray, List.getElem_cons_succ, List.getElem_cons_zero, List.setIfInBounds_toArray, List.set_cons_zero, List.set_cons_succ])
          refine wpAnyH_take (i := 18) (v := undef) rfl (by kernel_rfl) (by kernel_rfl) (by kernel_rfl) (fun _ _ _ h => h) (Or.inr ⟨by kernel_rfl, rfl⟩) (by assumption) ?_
          (try simp only [Act.put, List.getElem_toArray, List.getElem_cons_succ, List.getElem_cons_zero, List.setIfInBounds_toArray, List.set_cons_zero, List.set_cons_succ])
          refine wpAnyH_take (i := 19) (v := undef) rfl (by kernel_rfl) (by kernel_rfl) (by kernel_rfl) (fun _ _ _ h => h) (Or.inr ⟨by kernel_rfl, rfl⟩) (by assumption) ?_
          (try simp only [Act.put, List.getElem_toArray, List.getElem_cons_succ, List.getElem_cons_zero, List.setIfInBounds_toArray, List.set_cons_zero, List.set_cons_succ])
          refine wpAnyH_take (i := 20) (v := .bool false) rfl (by kernel_rfl) (by kernel_rfl) (by kernel_rfl) (fun _ _ _ h => h) (Or.inl ⟨by first | rfl | kernel_rfl, by intro wz hSw; (try dsimp only at hSw); go_simp⟩) (by assumption) ?_
          (try simp only [Act.put, List.getElem_toArray, List.getElem_cons_succ, List.getElem_cons_zero, List.setIfInBounds_toArray, List.set_cons_zero, List.set_cons_succ])
          refine wpAnyH_done (by kernel_rfl) ?_ _
          go_wp2
          exact ⟨⟨k + 1, by go_num, by omega, (show RowG _ _ _ _ _ _ _ from by rw [HX.out]; exact RowG.keep HR.out (by with_reducible (repeat' first | assumption | exact Below.refl _ _ | refine Below.drew ?_ | refine bdrewN ?_ _ | refine Below.setCell ?_ (by first | exact Nat.le_refl _ | (simp; done) | (simp; omega) | omega) _ | refine Below.alloc ?_ (by first | exact Nat.le_refl _ | (simp; done) | (simp; omega) | omega) _))), by with_reducible (repeat' first | assumption | exact Below.refl _ _ | refine Below.drew ?_ | refine bdrewN ?_ _ | refine Below.setCell ?_ (by first | exact Nat.le_refl _ | (simp; done) | (simp; omega) | omega) _ | refine Below.alloc ?_ (by first | exact Nat.le_refl _ | (simp; done) | (simp; omega) | omega) _), by with_reducible (repeat' first | assumption | refine Own.drew ?_ | refine Own.drewN ?_ _ | (refine Own.at ?_; first | rfl | (simp; done)) | refine Own.past ?_ _)⟩, by simp [intOf] <;> omega⟩
        exact AllReadyH.nil
      · rw [hin] at HI0
        have HI : Hid (∀ W, Calls Try.prog 31 #[.agg #[.int .i64 p.t, .int .i64 p.l, .int .i64 p.b, .int .i64 p.q], .agg #[.int .i64 cx, .int .i64 cy]] W fun e w' => e = .returned (.bool true) ∧ Below W.heap.size W w') := HI0
        have HX1 : Hid (overP (P.take (k + 1)) cx cy = if lastIs acc p.cl = true then acc else acc ++ [⟨p.r, p.c⟩]) := (show _ = _ by rw [HX0.out]; unfold stepO inP; rw [hin]; cases lastIs acc p.cl <;> rfl)
        clear HX0 hin HI0
        obtain ⟨qa, ca, rfl, ha1, ha2, ha3⟩ := l_each HR.out
        obtain ⟨na, hna⟩ : ∃ na, na = acc.length := ⟨_, rfl⟩
        rw [← hna] at HR ha1 ha3
        have HA3 : Hid _ := ha3
        rw [← hna]
        by_cases hn0 : na = 0
        · subst hn0
          have HX : Hid (overP (P.take (k + 1)) cx cy = acc ++ [⟨p.r, p.c⟩]) := (show _ = _ by rw [HX1.out, List.eq_nil_of_length_eq_zero hna.symm]; rfl)
          clear HX1 hna ha3 HA3
          go_wp2
          refine wp_region_held_drew (S := (fun w' => w'.cell? ⟨wr.heap.size, 0, none⟩ = some (.int .i64 p.r) ∧ w'.cell? ⟨wr.heap.size, 1, none⟩ = some (.int .i64 p.c) ∧ w'.cell? ⟨wr.heap.size, 2, none⟩ = some (.bool true) ∧ w'.cell? ⟨wr.heap.size, 3, none⟩ = some (.int .i64 p.t) ∧ w'.cell? ⟨wr.heap.size, 4, none⟩ = some (.int .i64 p.l) ∧ w'.cell? ⟨wr.heap.size, 5, none⟩ = some (.int .i64 p.b) ∧ w'.cell? ⟨wr.heap.size, 6, none⟩ = some (.int .i64 p.q) ∧ w'.cell? ⟨w.heap.size, 0, none⟩ = some (.int .i64 cx) ∧ w'.cell? ⟨w.heap.size, 1, none⟩ = some (.int .i64 cy))) (by kernel_rfl) (by (try dsimp only); ((repeat' apply And.intro) <;> (first | (go_keep; done) | (go_simp; done)))) (fun hHeld => ?_)
          refine wpAnyH_take (i := 0) (v := .pointer (some ⟨wr.heap.size, 2, none⟩)) rfl (by kernel_rfl) (by kernel_rfl) (by kernel_rfl) (fun _ _ _ h => h) (Or.inl ⟨by first | rfl | kernel_rfl, by intro wz hSw; (try dsimp only at hSw); go_simp⟩) (by assumption) ?_
          (try simp only [Act.put, List.getElem_toArray, List.getElem_cons_succ, List.getElem_cons_zero, List.setIfInBounds_toArray, List.set_cons_zero, List.set_cons_succ])
          refine wpAnyH_take (i := 1) (v := .pointer (some ⟨wr.heap.size, 3, none⟩)) rfl (by kernel_rfl) (by kernel_rfl) (by kernel_rfl) (fun _ _ _ h => h) (Or.inl ⟨by first | rfl | kernel_rfl, by intro wz hSw; (try dsimp only at hSw); go_simp⟩) (by assumption) ?_
          (try simp only [Act.put, List.getElem_toArray, List.getElem_cons_succ, List.getElem_cons_zero, List.setIfInBounds_toArray, List.set_cons_zero, List.set_cons_succ])
          refine wpAnyH_take (i := 2) (v := (.agg #[.int .i64 p.t, .int .i64 p.l, .int .i64 p.b, .int .i64 p.q])) rfl (by kernel_rfl) (by kernel_rfl) (by kernel_rfl) (fun _ _ _ h => h) (Or.inl ⟨by first | rfl | kernel_rfl, by intro wz hSw; (try dsimp only at hSw); go_simp⟩) (by assumption) ?_
          (try simp only [Act.put, List.getElem_toArray, List.getElem_cons_succ, List.getElem_cons_zero, List.setIfInBounds_toArray, List.set_cons_zero, List.set_cons_succ])
          refine wpAnyH_take (i := 3) (v := (.agg #[.int .i64 cx, .int .i64 cy])) rfl (by kernel_rfl) (by kernel_rfl) (by kernel_rfl) (fun _ _ _ h => h) (Or.inl ⟨by first | rfl | kernel_rfl, by intro wz hSw; (try dsimp only at hSw); go_simp⟩) (by assumption) ?_
          (try simp only [Act.put, List.getElem_toArray, List.getElem_cons_succ, List.getElem_cons_zero, List.setIfInBounds_toArray, List.set_cons_zero, List.set_cons_succ])
          refine wpAnyH_ready (rs := [4]) (by kernel_rfl) (by simp) ?_
          refine AllReadyH.cons rfl (fun K hK => ?_) ?_
          · go_simp
            (go_at_call 31; refine (HI.out _).mono ?_; rintro e wa ⟨rfl, hb⟩; have hka : Below wr.heap.size wr wa := bup (by with_reducible (repeat' first | assumption | exact Below.refl _ _ | refine Below.drew ?_ | refine bdrewN ?_ _ | refine Below.setCell ?_ (by first | exact Nat.le_refl _ | (simp; done) | (simp; omega) | omega) _ | refine Below.alloc ?_ (by first | exact Nat.le_refl _ | (simp; done) | (simp; omega) | omega) _)) hb; have hwa : Below w.heap.size w wa := hB.trans (hka.mono zB); have oXa : Own wa wr.heap.size #[.int .i64 p.r, .int .i64 p.c, .bool true, .int .i64 p.t, .int .i64 p.l, .int .i64 p.b, .int .i64 p.q] := Own.keep (by with_reducible (repeat' first | assumption | refine Own.drew ?_ | refine Own.drewN ?_ _ | (refine Own.at ?_; first | rfl | (simp; done)) | refine Own.past ?_ _)) hb; have oPa : Own wa w.heap.size #[.int .i64 cx, .int .i64 cy] := Own.keep (by with_reducible (repeat' first | assumption | refine Own.drew ?_ | refine Own.drewN ?_ _ | (refine Own.at ?_; first | rfl | (simp; done)) | refine Own.past ?_ _)) hb; have x0 : wa.cell? ⟨wr.heap.size, 0, none⟩ = some (.int .i64 p.r) := oXa.cell 0; have x1 : wa.cell? ⟨wr.heap.size, 1, none⟩ = some (.int .i64 p.c) := oXa.cell 1; have x2 : wa.cell? ⟨wr.heap.size, 2, none⟩ = some (.bool true) := oXa.cell 2; have x3 : wa.cell? ⟨wr.heap.size, 3, none⟩ = some (.int .i64 p.t) := oXa.cell 3; have x4 : wa.cell? ⟨wr.heap.size, 4, none⟩ = some (.int .i64 p.l) := oXa.cell 4; have x5 : wa.cell? ⟨wr.heap.size, 5, none⟩ = some (.int .i64 p.b) := oXa.cell 5; have x6 : wa.cell? ⟨wr.heap.size, 6, none⟩ = some (.int .i64 p.q) := oXa.cell 6; have b0 : wa.cell? ⟨w.heap.size, 0, none⟩ = some (.int .i64 cx) := oPa.cell 0; have b1 : wa.cell? ⟨w.heap.size, 1, none⟩ = some (.int .i64 cy) := oPa.cell 1; have cXa := oXa.cell; have lXa := oXa.lt; have zka := hka.size; clear hb)
            go_wp2_with fail
            refine hK.out _ _ (by (try dsimp only); first | (with_reducible assumption) | ((repeat' apply And.intro) <;> (first | (go_keep; done) | (go_simp; done)))) (fun hHeld => ?_)
            clear hK K
            (try simp only [Act.put, List.getElem_toArray, List.getElem_cons_succ, List.getElem_cons_zero, List.setIfInBounds_toArray, List.set_cons_zero, List.set_cons_succ])
            refine wpAnyH_take (i := 5) (v := .bool true) rfl (by kernel_rfl) (by kernel_rfl) (by kernel_rfl) (fun _ _ _ h => h) (Or.inl ⟨by first | rfl | kernel_rfl, by intro wz hSw; (try dsimp only at hSw); go_simp⟩) (by assumption) ?_
            (try simp only [Act.put, List.getElem_toArray, List.getElem_cons_succ, List.getElem_cons_zero, List.setIfInBounds_toArray, List.set_cons_zero, List.set_cons_succ])
            refine wpAnyH_take (i := 6) (v := (.slice qa 0 ca)) rfl (by kernel_rfl) (by kernel_rfl) (by kernel_rfl) (fun _ _ _ h => h) (Or.inl ⟨by first | rfl | kernel_rfl, by intro wz hSw; (try dsimp only at hSw); go_simp⟩) (by assumption) ?_
            (try simp only [Act.put, List.getElem_toArray, List.getElem_cons_succ, List.getElem_cons_zero, List.setIfInBounds_toArray, List.set_cons_zero, List.set_cons_succ])
            refine wpAnyH_take (i := 7) (v := (.int .i64 0)) rfl (by kernel_rfl) (by kernel_rfl) (by kernel_rfl) (fun _ _ _ h => h) (Or.inl ⟨by first | rfl | kernel_rfl, by intro wz hSw; (try dsimp only at hSw); go_simp⟩) (by assumption) ?_
            (try simp only [Act.put, List.getElem_toArray, List.getElem_cons_succ, List.getElem_cons_zero, List.setIfInBounds_toArray, List.set_cons_zero, List.set_cons_succ])
            refine wpAnyH_take (i := 8) (v := .bool true) rfl (by kernel_rfl) (by kernel_rfl) (by kernel_rfl) (fun _ _ _ h => h) (Or.inl ⟨by first | rfl | kernel_rfl, by intro wz hSw; (try dsimp only at hSw); go_simp⟩) (by assumption) ?_
            (try simp only [Act.put, List.getElem_toArray, List.getElem_cons_succ, List.getElem_cons_zero, List.setIfInBounds_toArray, List.set_cons_zero, List.set_cons_succ])
            refine wpAnyH_take (i := 9) (v := .bool true) rfl (by kernel_rfl) (by kernel_rfl) (by kernel_rfl) (fun _ _ _ h => h) (Or.inl ⟨by first | rfl | kernel_rfl, by intro wz hSw; (try dsimp only at hSw); go_simp⟩) (by assumption) ?_
            (try simp only [Act.put, List.getElem_toArray, List.getElem_cons_succ, List.getElem_cons_zero, List.setIfInBounds_toArray, List.set_cons_zero, List.set_cons_succ])
            refine wpAnyH_take (i := 10) (v := undef) rfl (by kernel_rfl) (by kernel_rfl) (by kernel_rfl) (fun _ _ _ h => h) (Or.inr ⟨by kernel_rfl, rfl⟩) (by assumption) ?_
            (try simp only [Act.put, List.getElem_toArray, List.getElem_cons_succ, List.getElem_cons_zero, List.setIfInBounds_toArray, List.set_cons_zero, List.set_cons_succ])
            refine wpAnyH_take (i := 11) (v := undef) rfl (by kernel_rfl) (by kernel_rfl) (by kernel_rfl) (fun _ _ _ h => h) (Or.inr ⟨by kernel_rfl, rfl⟩) (by assumption) ?_
            (try simp only [Act.put, List.getElem_toArray, List.getElem_cons_succ, List.getElem_cons_zero, List.setIfInBounds_toArray, List.set_cons_zero, List.set_cons_succ])
            refine wpAnyH_take (i := 12) (v := undef) rfl (by kernel_rfl) (by kernel_rfl) (by kernel_rfl) (fun _ _ _ h => h) (Or.inr ⟨by kernel_rfl, rfl⟩) (by assumption) ?_
            (try simp only [Act.put, List.getElem_toArray, List.getElem_cons_succ, List.getElem_cons_zero, List.setIfInBounds_toArray, List.set_cons_zero, List.set_cons_succ])
            refine wpAnyH_take (i := 13) (v := undef) rfl (by kernel_rfl) (by kernel_rfl) (by kernel_rfl) (fun _ _ _ h => h) (Or.inr ⟨by kernel_rfl, rfl⟩) (by assumption) ?_
            (try simp only [Act.put, List.getElem_toArray, List.getElem_cons_succ, List.getElem_cons_zero, List.setIfInBounds_toArray, List.set_cons_zero, List.set_cons_succ])
            refine wpAnyH_take (i := 14) (v := undef) rfl (by kernel_rfl) (by kernel_rfl) (by kernel_rfl) (fun _ _ _ h => h) (Or.inr ⟨by kernel_rfl, rfl⟩) (by assumption) ?_
            (try simp only [Act.put, List.getElem_toArray, List.getElem_cons_succ, List.getElem_cons_zero, List.setIfInBounds_toArray, List.set_cons_zero, List.set_cons_succ])
            refine wpAnyH_take (i := 15) (v := undef) rfl (by kernel_rfl) (by kernel_rfl) (by kernel_rfl) (fun _ _ _ h => h) (Or.inr ⟨by kernel_rfl, rfl⟩) (by assumption) ?_
            (try simp only [Act.put, List.getElem_toArray, List.getElem_cons_succ, List.getElem_cons_zero, List.setIfInBounds_toArray, List.set_cons_zero, List.set_cons_succ])
            refine wpAnyH_take (i := 16) (v := undef) rfl (by kernel_rfl) (by kernel_rfl) (by kernel_rfl) (fun _ _ _ h => h) (Or.inr ⟨by kernel_rfl, rfl⟩) (by assumption) ?_
            (try simp only [Act.put, List.getElem_toArray, List.getElem_cons_succ, List.getElem_cons_zero, List.setIfInBounds_toArray, List.set_cons_zero, List.set_cons_succ])
            refine wpAnyH_take (i := 17) (v := undef) rfl (by kernel_rfl) (by kernel_rfl) (by kernel_rfl) (fun _ _ _ h => h) (Or.inr ⟨by kernel_rfl, rfl⟩) (by assumption) ?_
            (try simp only [Act.put, List.getElem_toArray, List.getElem_cons_succ, List.getElem_cons_zero, List.setIfInBounds_toArray, List.set_cons_zero, List.set_cons_succ])
            refine wpAnyH_take (i := 18) (v := undef) rfl (by kernel_rfl) (by kernel_rfl) (by kernel_rfl) (fun _ _ _ h => h) (Or.inr ⟨by kernel_rfl, rfl⟩) (by assumption) ?_
            (try simp only [Act.put, List.getElem_toArray, List.getElem_cons_succ, List.getElem_cons_zero, List.setIfInBounds_toArray, List.set_cons_zero, List.set_cons_succ])
            refine wpAnyH_take (i := 19) (v := .bool true) rfl (by kernel_rfl) (by kernel_rfl) (by kernel_rfl) (fun _ _ _ h => h) (Or.inl ⟨by first | rfl | kernel_rfl, by intro wz hSw; (try dsimp only at hSw); go_simp⟩) (by assumption) ?_
            (try simp only [Act.put, List.getElem_toArray, List.getElem_cons_succ, List.getElem_cons_zero, List.setIfInBounds_toArray, List.set_cons_zero, List.set_cons_succ])
            refine wpAnyH_take (i := 20) (v := .bool true) rfl (by kernel_rfl) (by kernel_rfl) (by kernel_rfl) (fun _ _ _ h => h) (Or.inl ⟨by first | rfl | kernel_rfl, by intro wz hSw; (try dsimp only at hSw); go_simp⟩) (by assumption) ?_
            (try simp only [Act.put, List.getElem_toArray, List.getElem_cons_succ, List.getElem_cons_zero, List.setIfInBounds_toArray, List.set_cons_zero, List.set_cons_succ])
            refine wpAnyH_done (by kernel_rfl) ?_ _
            go_wp2_with (at_builtin; refine wpList_appx rfl _ _ _ _ rfl _ (.slice (some ⟨wa.heap.size, 0, none⟩) 1 1) rfl rfl (HAP.out _ _ acc wa.heap.size ⟨p.r, p.c⟩ (RowG.keep HR.out (by with_reducible (repeat' first | assumption | exact Below.refl _ _ | refine Below.drew ?_ | refine bdrewN ?_ _ | refine Below.setCell ?_ (by first | exact Nat.le_refl _ | (simp; done) | (simp; omega) | omega) _ | refine Below.alloc ?_ (by first | exact Nat.le_refl _ | (simp; done) | (simp; omega) | omega) _))) (heap_at rfl) (by simp; omega) HAl.out) (fun v' w3 hq => ?_); obtain ⟨r1, r2, r3, r4⟩ := hq; have R1 : Hid (RowC w3 (w.heap.size + 1) v' (acc ++ [⟨p.r, p.c⟩])) := r1; have R2 : Below w.heap.size w w3 := (show Below w.heap.size w _ from by with_reducible (repeat' first | assumption | exact Below.refl _ _ | refine Below.drew ?_ | refine bdrewN ?_ _ | refine Below.setCell ?_ (by first | exact Nat.le_refl _ | (simp; done) | (simp; omega) | omega) _ | refine Below.alloc ?_ (by first | exact Nat.le_refl _ | (simp; done) | (simp; omega) | omega) _)).trans (r2.mono (by omega)); have oP3 : Own w3 w.heap.size #[.int .i64 cx, .int .i64 cy] := Own.low (by with_reducible (repeat' first | assumption | refine Own.drew ?_ | refine Own.drewN ?_ _ | (refine Own.at ?_; first | rfl | (simp; done)) | refine Own.past ?_ _)) r2 (by omega); clear r1 r2 r3 r4)
            exact ⟨⟨k + 1, by go_num, by omega, (show RowG _ _ _ _ _ _ _ from by rw [HX.out]; exact R1.out), R2, oP3⟩, by simp [intOf] <;> omega⟩
          exact AllReadyH.nil
        · obtain ⟨j, hj⟩ : ∃ j, na = j + 1 := ⟨na - 1, by omega⟩
          have hw : IntKind.i64.wrap ((na : Int) - 1) = (j : Int) := by rw [IntKind.wrap_i64]; omega
          have hz1 : ((na : Int) == 0) = false := by simp; omega
          have hjn : j < na := by omega
          have hjn' : (j : Int) < na := by omega
          obtain ⟨g', z, rfl, hg', hza, ze0, ze1⟩ := HA3.out j hjn
          have hls := last_at (hna.symm.trans hj) hza p.cl
          have hne := neC z.r z.c p.r p.c
          clear hza ha3 HA3 hj hna
          cases hsm : sameC z.r z.c p.r p.c
          · rw [hsm] at hne
            have HX : Hid (overP (P.take (k + 1)) cx cy = acc ++ [⟨p.r, p.c⟩]) := (show _ = _ by rw [HX1.out, hls]; show (if sameC z.r z.c p.r p.c = true then _ else _) = _; rw [hsm]; rfl)
            clear HX1 hls hsm
            go_wp2
            go_region_held3 (fun w' => w'.cell? ⟨wr.heap.size, 0, none⟩ = some (.int .i64 p.r) ∧ w'.cell? ⟨wr.heap.size, 1, none⟩ = some (.int .i64 p.c) ∧ w'.cell? ⟨wr.heap.size, 2, none⟩ = some (.bool true) ∧ w'.cell? ⟨wr.heap.size, 3, none⟩ = some (.int .i64 p.t) ∧ w'.cell? ⟨wr.heap.size, 4, none⟩ = some (.int .i64 p.l) ∧ w'.cell? ⟨wr.heap.size, 5, none⟩ = some (.int .i64 p.b) ∧ w'.cell? ⟨wr.heap.size, 6, none⟩ = some (.int .i64 p.q) ∧ w'.cell? ⟨w.heap.size, 0, none⟩ = some (.int .i64 cx) ∧ w'.cell? ⟨w.heap.size, 1, none⟩ = some (.int .i64 cy) ∧ w'.cell? ⟨g', j * 2, none⟩ = some (.int .i64 z.r) ∧ w'.cell? ⟨g', j * 2 + 1, none⟩ = some (.int .i64 z.c)) ((repeat' apply And.intro) <;> (first | (go_keep; done) | (go_simp; done))) ((go_at_call 31; refine (HI.out _).mono ?_; rintro e wa ⟨rfl, hb⟩; have hka : Below wr.heap.size wr wa := bup (by with_reducible (repeat' first | assumption | exact Below.refl _ _ | refine Below.drew ?_ | refine bdrewN ?_ _ | refine Below.setCell ?_ (by first | exact Nat.le_refl _ | (simp; done) | (simp; omega) | omega) _ | refine Below.alloc ?_ (by first | exact Nat.le_refl _ | (simp; done) | (simp; omega) | omega) _)) hb; have hwa : Below w.heap.size w wa := hB.trans (hka.mono zB); have oXa : Own wa wr.heap.size #[.int .i64 p.r, .int .i64 p.c, .bool true, .int .i64 p.t, .int .i64 p.l, .int .i64 p.b, .int .i64 p.q] := Own.keep (by with_reducible (repeat' first | assumption | refine Own.drew ?_ | refine Own.drewN ?_ _ | (refine Own.at ?_; first | rfl | (simp; done)) | refine Own.past ?_ _)) hb; have oPa : Own wa w.heap.size #[.int .i64 cx, .int .i64 cy] := Own.keep (by with_reducible (repeat' first | assumption | refine Own.drew ?_ | refine Own.drewN ?_ _ | (refine Own.at ?_; first | rfl | (simp; done)) | refine Own.past ?_ _)) hb; have x0 : wa.cell? ⟨wr.heap.size, 0, none⟩ = some (.int .i64 p.r) := oXa.cell 0; have x1 : wa.cell? ⟨wr.heap.size, 1, none⟩ = some (.int .i64 p.c) := oXa.cell 1; have x2 : wa.cell? ⟨wr.heap.size, 2, none⟩ = some (.bool true) := oXa.cell 2; have x3 : wa.cell? ⟨wr.heap.size, 3, none⟩ = some (.int .i64 p.t) := oXa.cell 3; have x4 : wa.cell? ⟨wr.heap.size, 4, none⟩ = some (.int .i64 p.l) := oXa.cell 4; have x5 : wa.cell? ⟨wr.heap.size, 5, none⟩ = some (.int .i64 p.b) := oXa.cell 5; have x6 : wa.cell? ⟨wr.heap.size, 6, none⟩ = some (.int .i64 p.q) := oXa.cell 6; have b0 : wa.cell? ⟨w.heap.size, 0, none⟩ = some (.int .i64 cx) := oPa.cell 0; have b1 : wa.cell? ⟨w.heap.size, 1, none⟩ = some (.int .i64 cy) := oPa.cell 1; have cXa := oXa.cell; have lXa := oXa.lt; have zka := hka.size; have z0 : wa.cell? ⟨g', j * 2, none⟩ = some (.int .i64 z.r) := (hka.cell (p := ⟨g', j * 2, none⟩) hg').trans ze0; have z1 : wa.cell? ⟨g', j * 2 + 1, none⟩ = some (.int .i64 z.c) := (hka.cell (p := ⟨g', j * 2 + 1, none⟩) hg').trans ze1; clear hb))
            go_wp2_with (at_builtin; refine wpList_appx rfl _ _ _ _ rfl _ (.slice (some ⟨wa.heap.size, 0, none⟩) 1 1) rfl rfl (HAP.out _ _ acc wa.heap.size ⟨p.r, p.c⟩ (RowG.keep HR.out (by with_reducible (repeat' first | assumption | exact Below.refl _ _ | refine Below.drew ?_ | refine bdrewN ?_ _ | refine Below.setCell ?_ (by first | exact Nat.le_refl _ | (simp; done) | (simp; omega) | omega) _ | refine Below.alloc ?_ (by first | exact Nat.le_refl _ | (simp; done) | (simp; omega) | omega) _))) (heap_at rfl) (by simp; omega) HAl.out) (fun v' w3 hq => ?_); obtain ⟨r1, r2, r3, r4⟩ := hq; have R1 : Hid (RowC w3 (w.heap.size + 1) v' (acc ++ [⟨p.r, p.c⟩])) := r1; have R2 : Below w.heap.size w w3 := (show Below w.heap.size w _ from by with_reducible (repeat' first | assumption | exact Below.refl _ _ | refine Below.drew ?_ | refine bdrewN ?_ _ | refine Below.setCell ?_ (by first | exact Nat.le_refl _ | (simp; done) | (simp; omega) | omega) _ | refine Below.alloc ?_ (by first | exact Nat.le_refl _ | (simp; done) | (simp; omega) | omega) _)).trans (r2.mono (by omega)); have oP3 : Own w3 w.heap.size #[.int .i64 cx, .int .i64 cy] := Own.low (by with_reducible (repeat' first | assumption | refine Own.drew ?_ | refine Own.drewN ?_ _ | (refine Own.at ?_; first | rfl | (simp; done)) | refine Own.past ?_ _)) r2 (by omega); clear r1 r2 r3 r4)
            exact ⟨⟨k + 1, by go_num, by omega, (show RowG _ _ _ _ _ _ _ from by rw [HX.out]; exact R1.out), R2, oP3⟩, by simp [intOf] <;> omega⟩
          · rw [hsm] at hne
            have HX : Hid (overP (P.take (k + 1)) cx cy = acc) := (show _ = _ by rw [HX1.out, hls]; show (if sameC z.r z.c p.r p.c = true then _ else _) = _; rw [hsm]; rfl)
            clear HX1 hls hsm
            go_wp2
            go_region_held3 (fun w' => w'.cell? ⟨wr.heap.size, 0, none⟩ = some (.int .i64 p.r) ∧ w'.cell? ⟨wr.heap.size, 1, none⟩ = some (.int .i64 p.c) ∧ w'.cell? ⟨wr.heap.size, 2, none⟩ = some (.bool true) ∧ w'.cell? ⟨wr.heap.size, 3, none⟩ = some (.int .i64 p.t) ∧ w'.cell? ⟨wr.heap.size, 4, none⟩ = some (.int .i64 p.l) ∧ w'.cell? ⟨wr.heap.size, 5, none⟩ = some (.int .i64 p.b) ∧ w'.cell? ⟨wr.heap.size, 6, none⟩ = some (.int .i64 p.q) ∧ w'.cell? ⟨w.heap.size, 0, none⟩ = some (.int .i64 cx) ∧ w'.cell? ⟨w.heap.size, 1, none⟩ = some (.int .i64 cy) ∧ w'.cell? ⟨g', j * 2, none⟩ = some (.int .i64 z.r) ∧ w'.cell? ⟨g', j * 2 + 1, none⟩ = some (.int .i64 z.c)) ((repeat' apply And.intro) <;> (first | (go_keep; done) | (go_simp; done))) ((go_at_call 31; refine (HI.out _).mono ?_; rintro e wa ⟨rfl, hb⟩; have hka : Below wr.heap.size wr wa := bup (by with_reducible (repeat' first | assumption | exact Below.refl _ _ | refine Below.drew ?_ | refine bdrewN ?_ _ | refine Below.setCell ?_ (by first | exact Nat.le_refl _ | (simp; done) | (simp; omega) | omega) _ | refine Below.alloc ?_ (by first | exact Nat.le_refl _ | (simp; done) | (simp; omega) | omega) _)) hb; have hwa : Below w.heap.size w wa := hB.trans (hka.mono zB); have oXa : Own wa wr.heap.size #[.int .i64 p.r, .int .i64 p.c, .bool true, .int .i64 p.t, .int .i64 p.l, .int .i64 p.b, .int .i64 p.q] := Own.keep (by with_reducible (repeat' first | assumption | refine Own.drew ?_ | refine Own.drewN ?_ _ | (refine Own.at ?_; first | rfl | (simp; done)) | refine Own.past ?_ _)) hb; have oPa : Own wa w.heap.size #[.int .i64 cx, .int .i64 cy] := Own.keep (by with_reducible (repeat' first | assumption | refine Own.drew ?_ | refine Own.drewN ?_ _ | (refine Own.at ?_; first | rfl | (simp; done)) | refine Own.past ?_ _)) hb; have x0 : wa.cell? ⟨wr.heap.size, 0, none⟩ = some (.int .i64 p.r) := oXa.cell 0; have x1 : wa.cell? ⟨wr.heap.size, 1, none⟩ = some (.int .i64 p.c) := oXa.cell 1; have x2 : wa.cell? ⟨wr.heap.size, 2, none⟩ = some (.bool true) := oXa.cell 2; have x3 : wa.cell? ⟨wr.heap.size, 3, none⟩ = some (.int .i64 p.t) := oXa.cell 3; have x4 : wa.cell? ⟨wr.heap.size, 4, none⟩ = some (.int .i64 p.l) := oXa.cell 4; have x5 : wa.cell? ⟨wr.heap.size, 5, none⟩ = some (.int .i64 p.b) := oXa.cell 5; have x6 : wa.cell? ⟨wr.heap.size, 6, none⟩ = some (.int .i64 p.q) := oXa.cell 6; have b0 : wa.cell? ⟨w.heap.size, 0, none⟩ = some (.int .i64 cx) := oPa.cell 0; have b1 : wa.cell? ⟨w.heap.size, 1, none⟩ = some (.int .i64 cy) := oPa.cell 1; have cXa := oXa.cell; have lXa := oXa.lt; have zka := hka.size; have z0 : wa.cell? ⟨g', j * 2, none⟩ = some (.int .i64 z.r) := (hka.cell (p := ⟨g', j * 2, none⟩) hg').trans ze0; have z1 : wa.cell? ⟨g', j * 2 + 1, none⟩ = some (.int .i64 z.c) := (hka.cell (p := ⟨g', j * 2 + 1, none⟩) hg').trans ze1; clear hb))
            go_wp2
            exact ⟨⟨k + 1, by go_num, by omega, (show RowG _ _ _ _ _ _ _ from by rw [HX.out]; exact RowG.keep HR.out (by with_reducible (repeat' first | assumption | exact Below.refl _ _ | refine Below.drew ?_ | refine bdrewN ?_ _ | refine Below.setCell ?_ (by first | exact Nat.le_refl _ | (simp; done) | (simp; omega) | omega) _ | refine Below.alloc ?_ (by first | exact Nat.le_refl _ | (simp; done) | (simp; omega) | omega) _))), by with_reducible (repeat' first | assumption | exact Below.refl _ _ | refine Below.drew ?_ | refine bdrewN ?_ _ | refine Below.setCell ?_ (by first | exact Nat.le_refl _ | (simp; done) | (simp; omega) | omega) _ | refine Below.alloc ?_ (by first | exact Nat.le_refl _ | (simp; done) | (simp; omega) | omega) _), by with_reducible (repeat' first | assumption | refine Own.drew ?_ | refine Own.drewN ?_ _ | (refine Own.at ?_; first | rfl | (simp; done)) | refine Own.past ?_ _)⟩, by simp [intOf] <;> omega⟩
    · have hkn : k = n := by omega
      have hlt' : ¬ (k : Int) < n := by omega
      rw [hkn, HN.out, List.take_length] at hacc
      clear hlt hk
      go_wp2
      go_ret
      exact ⟨_, rfl, by rw [← hacc]; exact RowG.mono (RowG.keep HR.out (by with_reducible (repeat' first | assumption | exact Below.refl _ _ | refine Below.drew ?_ | refine bdrewN ?_ _ | refine Below.setCell ?_ (by first | exact Nat.le_refl _ | (simp; done) | (simp; omega) | omega) _ | refine Below.alloc ?_ (by first | exact Nat.le_refl _ | (simp; done) | (simp; omega) | omega) _))) (by omega), by with_reducible (repeat' first | assumption | exact Below.refl _ _ | refine Below.drew ?_ | refine bdrewN ?_ _ | refine Below.setCell ?_ (by first | exact Nat.le_refl _ | (simp; done) | (simp; omega) | omega) _ | refine Below.alloc ?_ (by first | exact Nat.le_refl _ | (simp; done) | (simp; omega) | omega) _)⟩
end Go.Proofs.Ytpblkidbaheboaa
