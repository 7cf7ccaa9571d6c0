/- The contract of Store.Put, everywhere. -/
import Derived.Test.YtaafpfjmnhmalaaS9
namespace Go.Proofs.Ytaafpfjmnhmalaa
open Go.RowKit
set_option linter.all false
theorem SOut.chain {w wB w' : World} {D D1 : Nat → Option Nat} {S : Nat} {L' : List It} (hm : Mut (fun k => (D k).isSome = true) w wB) (h1 : ∀ k, (D1 k).isSome = true → (D k).isSome = true ∨ w.heap.size ≤ k) (h : SOut wB D1 S L' w') : SOut w D S L' w' := by
  obtain ⟨D', k1, k2, k3⟩ := h
  refine ⟨D', k1, hm.call k2 h1, fun k hk => ?_⟩
  rcases k3 k hk with q | q
  · exact h1 k q
  · exact .inr (Nat.le_trans hm.size q)
set_option maxRecDepth 100000 in
set_option maxHeartbeats 2000000 in
theorem put_new (w : World) (D : Nat → Option Nat) (S i j : Nat) (L : List It) (A : Array Value) (r c : Int) (x : Addr) (h : Hid (SW w D S L)) (hi : i < 64) (hj : j < 64) (hr : Hid (r = ((i * 64 + j + 1 : Nat) : Int))) (hm : mayC r c = true)
    (hA : Hid (Own w S A)) (hv : A[i]? = some (.pointer none)) (hrw : Hid (∀ j, j < 64 → rowL L ((i * 64 + j + 1 : Nat) : Int) = [])) :
    Calls Try.prog 14 #[.pointer (some ⟨S, 0, none⟩), .agg #[.int .i64 r, .int .i64 c], .pointer (some x)] w fun e w' => e = .returned (.int .i64 0) ∧ SOut w D S (putL L r c (some x)) w' := by
  have h1 := hA.out.lt
  have h2 : w.cell? ⟨S, i, none⟩ = some (.pointer none) := (hA.out.cell i).trans hv
  have h3 : w.frozen? ⟨S, i, none⟩ = false := hA.out.fro i
  have hi' : (i : Int) < 64 := by omega
  have hj' : (j : Int) < 64 := by omega
  have mixed : Try.prog.follows .mixedOrders = true := by kernel_rfl
  have hfew := all_few h.out.srt h.out.ins
  have hhas : hasL L r c = false := by unfold hasL; rw [hr.out, hrw.out j hj]; rfl
  have hnD : ∀ k, w.heap.size ≤ k → D k = none := fun k hk => by
    cases q : D k with
    | none => rfl
    | some t => have := h.out.dom _ _ q; omega
  have hiA : i < A.size := (Array.getElem?_eq_some_iff.1 hv).1
  have HK : Hid (∀ wa, Below w.heap.size w wa → w.heap.size < wa.heap.size → ∀ w1, Below ((wa.alloc (.cells zK 82)).setCell ⟨S, i, none⟩ (.pointer (some ⟨wa.heap.size, 0, none⟩))).heap.size ((wa.alloc (.cells zK 82)).setCell ⟨S, i, none⟩ (.pointer (some ⟨wa.heap.size, 0, none⟩))) w1 → Own w1 w.heap.size #[.int .i64 r, .int .i64 c] → Calls Try.prog 29 #[.pointer (some ⟨wa.heap.size, j, none⟩), .int .i64 c, .pointer (some x)] w1 fun e w' => e = .returned (.bool true) ∧ Own w' w.heap.size #[.int .i64 r, .int .i64 c] ∧ w'.cell? ⟨S, i, none⟩ = some (.pointer (some ⟨wa.heap.size, 0, none⟩)) ∧ w'.cell? ⟨S, 64, none⟩ = some (.int .i64 L.length) ∧ w'.frozen? ⟨S, 64, none⟩ = false ∧
      SOut w D S (putL L r c (some x)) (w'.setCell ⟨S, 64, none⟩ (.int .i64 ((L.length : Int) + 1)))) := fun wa hba hlt w1 hb hO => by
    obtain ⟨s1, s2, s3⟩ := SW.chunk (h.out.keep hba) hi A (hA.out.keep hba) hv 82
    refine (rput_in w1 _ S i j wa.heap.size L _ zK (.pointer none) r c (some x) (s1.keep hb) hi hj hr.out hm (s2.keep hb) (by rw [Array.getElem?_setIfInBounds, if_pos rfl, if_pos hiA]) (by simp) (s3.keep hb) zK_at.1 (fun m hm2 => ⟨_, zK_at.2 m hm2, by rw [hrw.out m hm2]; exact RowW.nil _, fun g hg => by cases hg⟩) w.heap.size _ hO (by
      have q : ¬ w.heap.size = wa.heap.size := by omega
      simp only [if_neg q]
      exact hnD _ (Nat.le_refl _))).mono ?_
    rintro e w' ⟨k1, k2, k3, k4, k5, k6, k7⟩
    rw [hhas] at k1 k6
    refine ⟨k1, k2, k3, k4, k5, ?_⟩
    have hz := hba.size
    refine SOut.chain (wB := ((wa.alloc (.cells zK 82)).setCell ⟨S, i, none⟩ (.pointer (some ⟨wa.heap.size, 0, none⟩)))) (D1 := fun k => if k = wa.heap.size then some (1 + i) else D k) (((Mut.of_below hba).alloc _).set (.inl (by rw [h.out.at0]; rfl)) _) (fun k hk => ?_) ((k6 rfl).pre hb)
    by_cases q : k = wa.heap.size
    · exact .inr (by omega)
    · simp only [if_neg q] at hk; exact .inl hk
  have hz := zeroK
  revert HK
  generalize SOut w D S (putL L r c (some x)) = PP
  generalize L.length = n at *
  generalize zK = Z at *
  intro HK
  clear hv hA hrw h hnD hiA hhas
  go_enter Try.func14, Try.ntmps14
  go_wp2_with (first | ((go_at_call 27; refine (may_any _ _ _).mono ?_; rintro e wa ⟨rfl, hbwa⟩; have hBwa : Below w.heap.size w wa := bup (by with_reducible (repeat' first | assumption | exact Below.refl _ _ | refine Below.drew ?_ | refine bdrewN ?_ _ | refine Below.setCell ?_ (by first | exact Nat.le_refl _ | (simp; done) | (simp; omega) | omega) _ | refine Below.alloc ?_ (by first | exact Nat.le_refl _ | (simp; done) | (simp; omega) | omega) _)) hbwa; have zwa := hBwa.size; have o0wa : Own wa (w.heap.size) #[.int .i64 r, .int .i64 c] := Own.keep (by with_reducible (repeat' first | assumption | refine Own.drew ?_ | refine Own.drewN ?_ _ | (refine Own.at ?_; first | rfl | (simp; done)) | refine Own.past ?_ _)) hbwa; have c0 := o0wa.cell; have f0 := o0wa.fro; have l0 := o0wa.lt; try rw [hm]); have y0 := (hBwa.cell (p := ⟨S, i, none⟩) h1).trans h2; have y1 := (hBwa.frozen (p := ⟨S, i, none⟩) h1).trans h3; have hSw : S < wa.heap.size := Nat.lt_of_lt_of_le h1 zwa) | (go_at_call 28; refine (split_ij _ i j r hi hj hr.out).mono ?_; rintro e w5 ⟨rfl, h5⟩; have h6 := h5.symm; subst h6))
  have o9 : Own ((wa.alloc (.cells Z 82)).setCell ⟨S, i, none⟩ (.pointer (some ⟨wa.heap.size, 0, none⟩))) w.heap.size #[.int .i64 r, .int .i64 c] := (o0wa.past _).aside _ (by simp; omega)
  have c9 := o9.cell
  have y9 : ((wa.alloc (.cells Z 82)).setCell ⟨S, i, none⟩ (.pointer (some ⟨wa.heap.size, 0, none⟩))).cell? ⟨S, i, none⟩ = some (.pointer (some ⟨wa.heap.size, 0, none⟩)) := World.cell?_setCell_same' _ _ _ (by rw [World.cell?_alloc_past (w := wa) _ S i hSw, y0]; rfl)
  have L0 : w.heap.size < wa.heap.size := l0
  obtain ⟨WQ, hWQ⟩ : ∃ WQ, WQ = ((wa.alloc (.cells Z 82)).setCell ⟨S, i, none⟩ (.pointer (some ⟨wa.heap.size, 0, none⟩))) := ⟨_, rfl⟩
  have HQ : Hid (∀ w1, Below WQ.heap.size WQ w1 → Own w1 w.heap.size #[.int .i64 r, .int .i64 c] → Calls Try.prog 29 #[.pointer (some ⟨wa.heap.size, j, none⟩), .int .i64 c, .pointer (some x)] w1 fun e w' => e = .returned (.bool true) ∧ Own w' w.heap.size #[.int .i64 r, .int .i64 c] ∧ w'.cell? ⟨S, i, none⟩ = some (.pointer (some ⟨wa.heap.size, 0, none⟩)) ∧ w'.cell? ⟨S, 64, none⟩ = some (.int .i64 n) ∧ w'.frozen? ⟨S, 64, none⟩ = false ∧ PP (w'.setCell ⟨S, 64, none⟩ (.int .i64 ((n : Int) + 1)))) := by rw [hWQ]; exact HK.out wa hBwa L0
  clear HK c0 f0 l0 o0wa y0 y1
  rw [← hWQ] at o9 c9 y9
  rw [← World.setCell_alloc_past (w := wa) (.cells Z 82) S i (.pointer (some ⟨wa.heap.size, 0, none⟩)) hSw, ← hWQ]
  clear hWQ
  go_region_held3 (fun w' => w'.cell? ⟨S, i, none⟩ = some (.pointer (some ⟨wa.heap.size, 0, none⟩)) ∧ w'.cell? ⟨w.heap.size, 0, none⟩ = some (.int .i64 r) ∧ w'.cell? ⟨w.heap.size, 1, none⟩ = some (.int .i64 c)) ((repeat' apply And.intro) <;> (first | (go_keep; done) | (go_simp; done))) (first | (go_at_call 29; refine (HQ.out _ (by with_reducible (repeat' first | assumption | exact Below.refl _ _ | refine Below.drew ?_ | refine bdrewN ?_ _ | refine Below.setCell ?_ (by first | exact Nat.le_refl _ | (simp; done) | (simp; omega) | omega) _ | refine Below.alloc ?_ (by first | exact Nat.le_refl _ | (simp; done) | (simp; omega) | omega) _)) (by with_reducible (repeat' first | assumption | refine Own.drew ?_ | refine Own.drewN ?_ _ | (refine Own.at ?_; first | rfl | (simp; done)) | refine Own.past ?_ _))).mono ?_; rintro e wb ⟨rfl, ob, k3, k4, k5, k6⟩; have d1 := ob.cell; have K6 : Hid _ := k6; clear k6))
  go_wp2
  all_goals (go_ret; exact ⟨rfl, K6.out⟩)
theorem put_any (w : World) (D : Nat → Option Nat) (S : Nat) (L : List It) (r c : Int) (x : Addr) (h : SW w D S L) (hm : mayC r c = true) :
    Calls Try.prog 14 #[.pointer (some ⟨S, 0, none⟩), .agg #[.int .i64 r, .int .i64 c], .pointer (some x)] w fun e w' => e = .returned (.int .i64 0) ∧ SOut w D S (putL L r c (some x)) w' := by
  have hmm := mayC_is hm
  obtain ⟨i, j, hi, hj, hr⟩ := row_of hmm.1 hmm.2.1
  obtain ⟨A, a1, a2, a3, a4⟩ := h.own
  obtain ⟨v, v1, v2⟩ := a4 i hi
  rcases v2 with ⟨rfl, v2⟩ | ⟨b, B, rfl, b1, b2, b3, b4⟩
  · exact put_new w D S i j L A r c x h hi hj hr hm a1 v1 v2
  · exact put_old w D S i j b L A B r c x h hi hj hr hm a1 v1 b1 b2 b3 b4
/-- Put of a content, at every cell. -/
theorem put_all (w : World) (D : Nat → Option Nat) (S : Nat) (L : List It) (r c : Int) (x : Addr) (h : SW w D S L) :
    Calls Try.prog 14 #[.pointer (some ⟨S, 0, none⟩), .agg #[.int .i64 r, .int .i64 c], .pointer (some x)] w fun e w' => e = .returned (.int .i64 (if mayC r c = true then 0 else 3)) ∧ SOut w D S (if mayC r c = true then putL L r c (some x) else L) w' := by
  cases hm : mayC r c
  · refine (put_addr w S r c x hm).mono ?_
    rintro e w' ⟨rfl, hb⟩
    exact ⟨rfl, SOut.refl h hb⟩
  · exact put_any w D S L r c x h hm
end Go.Proofs.Ytaafpfjmnhmalaa
