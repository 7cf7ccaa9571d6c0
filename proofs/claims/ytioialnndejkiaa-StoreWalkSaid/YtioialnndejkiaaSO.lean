/- StoreOrder's walk. -/
import Derived.Test.YtioialnndejkiaaS13
namespace Go.Proofs.Ytioialnndejkiaa
open Go.RowKit
set_option linter.all false
theorem two_new (w0 : Nat) (w : World) (S1 : Nat) (D1 : Nat → Option Nat) (L1 : List It) (h : SW w D1 S1 L1) (h4 : ∀ k, (D1 k).isSome = true → w0 ≤ k) (hw : w0 ≤ w.heap.size) : Calls Try.prog 13 #[] w fun e w' => e = .returned (.pointer (some ⟨w.heap.size, 0, none⟩)) ∧ Two w0 w' S1 w.heap.size L1 [] ∧ Below w.heap.size w w' ∧ w'.heap.size = w.heap.size + 1 := by
  refine (new_sw w).mono ?_
  rintro e w' ⟨rfl, h1, h2, h3⟩
  refine ⟨rfl, ⟨D1, _, h.keep h2, h1, fun k hk => ?_, h4, fun k hk => by rw [dNew_some hk]; exact hw⟩, h2, h3⟩
  refine none_of (fun q => ?_)
  obtain ⟨t, ht⟩ := Option.isSome_iff_exists.1 hk
  have := h.dom k t ht
  rw [dNew_some q] at this
  omega
theorem SW.aside {w : World} {D : Nat → Option Nat} {S : Nat} {L : List It} (h : SW w D S L) {a : Addr} (x : Value) (hn : ∀ k t, D k = some t → k ≠ a.block) : SW (w.setCell a x) D S L :=
  h.of_block (by simp [World.setCell]) (fun b t e => Below.heap_setCell w a x b (hn b t e))
theorem puts_take (x : Option Addr) (l : List Cl) (i : Nat) (y : Cl) (h : l[i]? = some y) : putsL x [] (l.take (i + 1)) = stepL x (putsL x [] (l.take i)) y := by
  rw [List.take_succ, h]
  exact puts_snoc x [] _ y
theorem Own.low {w w' : World} {b w0 : Nat} {A : Array Value} (h : Own w b A) (hb : Below w0 w w') (hl : b < w0) : Own w' b A := h.of_block (hb.block b hl)
set_option maxRecDepth 100000 in
set_option maxHeartbeats 8000000 in
theorem order_walk (w : World) (v : Value) (l : List Cl) (t le b rr : Int) (hv : CV Cl.cells 2 w v l) (hI : Hid (∀ x ∈ l, I64 x.r ∧ I64 x.c)) (it : I64 t) (il : I64 le) (ib : I64 b) (ir : I64 rr) :
    Calls Try.prog 7 #[v, .agg #[.int .i64 t, .int .i64 le, .int .i64 b, .int .i64 rr]] w fun e w' => e = .returned (.bool true) ∧ Below w.heap.size w w' := by
  have mixed : Try.prog.follows .mixedOrders = true := by kernel_rfl
  obtain ⟨p, cap, rfl, hcap, hmx, hp0⟩ := hv
  have hp : Hid _ := hp0
  clear hp0
  obtain ⟨n, hn⟩ : ∃ n, n = l.length := ⟨_, rfl⟩
  rw [← hn] at hcap hmx hp ⊢
  have HN : Hid (n = l.length) := hn
  clear hn
  have HT : Hid (∀ W S1 D1 L1, SW W D1 S1 L1 → (∀ k, (D1 k).isSome = true → w.heap.size + 1 ≤ k) → w.heap.size + 1 ≤ W.heap.size → Calls Try.prog 13 #[] W fun e w' => e = .returned (.pointer (some ⟨W.heap.size, 0, none⟩)) ∧ Two (w.heap.size + 1) w' S1 W.heap.size L1 [] ∧ Below W.heap.size W w' ∧ w'.heap.size = W.heap.size + 1) := fun W S1 D1 L1 h1 h2 h3 => two_new _ W S1 D1 L1 h1 h2 h3
  have HN1 : Hid (∀ W, Calls Try.prog 13 #[] W fun e w' => e = .returned (.pointer (some ⟨W.heap.size, 0, none⟩)) ∧ SW w' (dNew W.heap.size) W.heap.size [] ∧ Below W.heap.size W w' ∧ w'.heap.size = W.heap.size + 1) := new_sw
  have t1 : True := trivial
  have t2 : True := trivial
  go_enter Try.func7, Try.ntmps7
  go_wp2_with (first
    | (go_at_call 13; clear t1; refine (HN1.out _).mono ?_; rintro e w1 ⟨rfl, hs, hb1, z1⟩; have HS : Hid _ := hs; clear hs; have hB1 : Below w.heap.size w w1 := bup (by with_reducible (repeat' first | assumption | exact Below.refl _ _ | refine Below.drew ?_ | refine bdrewN ?_ _ | refine Below.setCell ?_ (by first | exact Nat.le_refl _ | (simp; done) | (simp; omega) | omega) _ | refine Below.alloc ?_ (by first | exact Nat.le_refl _ | (simp; done) | (simp; omega) | omega) _)) hb1; have or1 : Own w1 w.heap.size #[.int .i64 t, .int .i64 le, .int .i64 b, .int .i64 rr] := Own.keep (by with_reducible (repeat' first | assumption | refine Own.drew ?_ | refine Own.drewN ?_ _ | (refine Own.at ?_; first | rfl | (simp; done)) | refine Own.past ?_ _)) hb1; have zz1 : w1.heap.size = w.heap.size + 1 + 1 := by rw [z1]; simp)
    | (go_at_call 13; clear t2; refine (HT.out _ _ _ _ HS.out (fun k hk => by rw [dNew_some hk]; simp) (by omega)).mono ?_; rintro e w2 ⟨rfl, hs2, hb2, z2⟩; have HS2 : Hid (Two (w.heap.size + 1) w2 (w.heap.size + 1) (w.heap.size + 1 + 1) [] []) := (by have q := hs2; rw [World.size_alloc, zz1] at q; exact q); clear hs2 HS; have hB2 : Below w.heap.size w w2 := bup hB1 hb2; have or2 : Own w2 w.heap.size #[.int .i64 t, .int .i64 le, .int .i64 b, .int .i64 rr] := or1.keep hb2; have zz2 : w2.heap.size = w.heap.size + 1 + 1 + 1 := by omega))
  clear HT HN1 z1 z2 hb1 hb2 or1 hB1
  obtain ⟨X, hX⟩ : ∃ X : Addr, X = ⟨w.heap.size + 1 + 1 + 1, 0, none⟩ := ⟨_, rfl⟩
  have HP1 : Hid (∀ (W : World) (L1 L2 : List It) (k : Cl), Two (w.heap.size + 1) W (w.heap.size + 1) (w.heap.size + 1 + 1) L1 L2 → w.heap.size + 1 ≤ W.heap.size → Calls Try.prog 14 #[.pointer (some ⟨w.heap.size + 1, 0, none⟩), .agg #[.int .i64 k.r, .int .i64 k.c], .pointer (some ⟨w.heap.size + 1 + 1 + 1, 0, none⟩)] W fun e w' => e = .returned (.int .i64 (if mayC k.r k.c = true then 0 else 3)) ∧ Two (w.heap.size + 1) w' (w.heap.size + 1) (w.heap.size + 1 + 1) (stepL (some X) L1 k) L2 ∧ Below (w.heap.size + 1) W w') := fun W L1 L2 k h1 h2 => by rw [hX]; exact two_put1 _ W _ _ L1 L2 k _ h1 h2
  have HP2 : Hid (∀ (W : World) (L1 L2 : List It) (k : Cl), Two (w.heap.size + 1) W (w.heap.size + 1) (w.heap.size + 1 + 1) L1 L2 → w.heap.size + 1 ≤ W.heap.size → Calls Try.prog 14 #[.pointer (some ⟨w.heap.size + 1 + 1, 0, none⟩), .agg #[.int .i64 k.r, .int .i64 k.c], .pointer (some ⟨w.heap.size + 1 + 1 + 1, 0, none⟩)] W fun e w' => e = .returned (.int .i64 (if mayC k.r k.c = true then 0 else 3)) ∧ Two (w.heap.size + 1) w' (w.heap.size + 1) (w.heap.size + 1 + 1) L1 (stepL (some X) L2 k) ∧ Below (w.heap.size + 1) W w') := fun W L1 L2 k h1 h2 => by rw [hX]; exact two_put2 _ W _ _ L1 L2 k _ h1 h2
  clear hX
  go_loopw [8] (fun u w' => ∃ i : Nat, u = .int .i64 i ∧ i ≤ n ∧ Hid (Two (w.heap.size + 1) w' (w.heap.size + 1) (w.heap.size + 1 + 1) (putsL (some X) [] (l.take i)) (putsL (some X) [] (l.reverse.take i))) ∧ Below w.heap.size w w' ∧ w.heap.size + 1 ≤ w'.heap.size ∧ Own w' w.heap.size #[.int .i64 t, .int .i64 le, .int .i64 b, .int .i64 rr]) (fun u _ => n - (intOf u).toNat)
  case atStart => exact ⟨0, rfl, by omega, (show Hid _ from HS2.out.keep (bal _ _)), by with_reducible (repeat' first | assumption | exact Below.refl _ _ | refine Below.drew ?_ | refine bdrewN ?_ _ | refine Below.setCell ?_ (by first | exact Nat.le_refl _ | (simp; done) | (simp; omega) | omega) _ | refine Below.alloc ?_ (by first | exact Nat.le_refl _ | (simp; done) | (simp; omega) | omega) _), by simp; omega, by with_reducible (repeat' first | assumption | refine Own.drew ?_ | refine Own.drewN ?_ _ | (refine Own.at ?_; first | rfl | (simp; done)) | refine Own.past ?_ _)⟩
  case round =>
    obtain ⟨i, rfl, hi, hT, hB3, z3, o3⟩ := hrel
    clear HS2 hB2 or2 zz2 zz1
    by_cases hlt : i < n
    · have hn0 : 0 < l.length := by rw [← HN.out]; omega
      obtain ⟨ab, ao, rfl, hab, HA⟩ := hp.out (by rw [← HN.out] at hn0; exact hn0)
      have hlt' : (i : Int) < n := by omega
      obtain ⟨m, hm⟩ : ∃ m : Nat, m = n - 1 - i := ⟨_, rfl⟩
      have hm1 : (n : Int) - 1 - (i : Int) = (m : Int) := by omega
      have hm2 : (m : Int) < n := by omega
      obtain ⟨x1, hx1⟩ : ∃ x1, l[i]? = some x1 := ⟨_, List.getElem?_eq_getElem (by rw [← HN.out]; omega)⟩
      obtain ⟨x2, hx2⟩ : ∃ x2, l[m]? = some x2 := ⟨_, List.getElem?_eq_getElem (by rw [← HN.out]; omega)⟩
      have ca := HA i _ hx1
      have cm := HA m _ hx2
      have HE1 : Hid (putsL (some X) [] (l.take (i + 1)) = stepL (some X) (putsL (some X) [] (l.take i)) x1) := puts_take _ _ _ _ hx1
      have HE2 : Hid (putsL (some X) [] (l.reverse.take (i + 1)) = stepL (some X) (putsL (some X) [] (l.reverse.take i)) x2) := puts_take _ _ _ _ (by rw [List.getElem?_reverse (by rw [← HN.out]; omega), ← HN.out, ← hm]; exact hx2)
      clear hx1 hx2 HA hm
      have hwr := hB3.size
      have y0 : wr.cell? ⟨ab, ao + i * 2, none⟩ = some (.int .i64 x1.r) := (hB3.cell (p := ⟨ab, ao + i * 2, none⟩) hab).trans (ca 0 (by decide))
      have y1 : wr.cell? ⟨ab, ao + i * 2 + 1, none⟩ = some (.int .i64 x1.c) := (hB3.cell (p := ⟨ab, ao + i * 2 + 1, none⟩) hab).trans (ca 1 (by decide))
      have y2 : wr.cell? ⟨ab, ao + m * 2, none⟩ = some (.int .i64 x2.r) := (hB3.cell (p := ⟨ab, ao + m * 2, none⟩) hab).trans (cm 0 (by decide))
      have y3 : wr.cell? ⟨ab, ao + m * 2 + 1, none⟩ = some (.int .i64 x2.c) := (hB3.cell (p := ⟨ab, ao + m * 2 + 1, none⟩) hab).trans (cm 1 (by decide))
      clear ca cm
      have hab' : ab < w.heap.size + 1 := by omega
      have t3 : True := trivial
      have t4 : True := trivial
      go_wp2_with (first
        | (go_at_call 14; clear t3; refine (HP1.out _ _ _ x1 hT.out z3).mono ?_; rintro e wa ⟨rfl, hTa, hba⟩; have HTa : Hid _ := hTa; clear hTa; have za := hba.size; have q2 := (hba.cell (p := ⟨ab, ao + m * 2, none⟩) hab').trans y2; have q3 := (hba.cell (p := ⟨ab, ao + m * 2 + 1, none⟩) hab').trans y3; have oa := o3.low hba (by omega); have hBa : Below w.heap.size w wa := hB3.trans (hba.mono (by omega)))
        | (go_at_call 14; clear t4; refine (HP2.out _ _ _ x2 HTa.out (by omega)).mono ?_; rintro e wb ⟨rfl, hTb, hbb⟩; have HTb : Hid _ := hTb; clear hTb; have zb := hbb.size; have ob := oa.low hbb (by omega); have hBb : Below w.heap.size w wb := hBa.trans (hbb.mono (by omega))))
      exact ⟨⟨i + 1, by go_num, by omega, (show Hid _ from by rw [HE1.out, HE2.out]; exact HTb.out), hBb, by omega, ob⟩, by simp [intOf]; omega⟩
    · have hin : i = n := by omega
      subst hin
      have HL : Hid (Two (w.heap.size + 1) wr (w.heap.size + 1) (w.heap.size + 1 + 1) (putsL (some X) [] l) (putsL (some X) [] l)) := (show _ from by
        have q := hT.out
        rw [HN.out, List.take_length, ← List.length_reverse, List.take_length, puts_rev] at q
        exact q)
      clear hT HP1 HP2
      revert HL
      generalize putsL (some X) [] l = L
      intro HL
      go_wp2
      obtain ⟨w4, h4⟩ : ∃ w4, w4 = wr := ⟨_, rfl⟩
      subst h4
      obtain ⟨D1, D2, s1, s2, _, _, _⟩ := HL.out
      have d1 : Hid (∀ k t, D1 k = some t → k < w4.heap.size) := s1.dom
      have d2 : Hid (∀ k t, D2 k = some t → k < w4.heap.size) := s2.dom
      have HS1 : Hid (SW w4 D1 (w.heap.size + 1) L) := s1
      have HS2 : Hid (SW w4 D2 (w.heap.size + 1 + 1) L) := s2
      clear s1 s2 HL
      have hz4 := hB3.size
      have HV : Hid (∀ (W : World) (D : Nat → Option Nat) (S : Nat) (ar ac : Int), SW W D S L → I64 ar → I64 ac → Calls Try.prog 17 #[.pointer (some ⟨S, 0, none⟩), .agg #[.int .i64 t, .int .i64 le, .int .i64 b, .int .i64 rr], .agg #[.int .i64 ar, .int .i64 ac]] W fun e w' => e = .returned (nextV L t le b rr ar ac) ∧ Below W.heap.size W w') := fun W D S ar ac h i1 i2 => next_any W D S L t le b rr ar ac h it il ib ir i1 i2
      have HC : Hid (∀ (W : World) (D : Nat → Option Nat) (S : Nat), SW W D S L → Calls Try.prog 10 #[.pointer (some ⟨S, 0, none⟩)] W fun e w' => e = .returned (.int .i64 L.length) ∧ Below W.heap.size W w') := fun W D S h => (count_sw W D S L h).mono (by rintro e w' ⟨rfl, rfl⟩; exact ⟨rfl, Below.refl _ _⟩)
      have HR : Hid (∀ x ∈ L, I64 x.r ∧ I64 x.c) := fun x hx => by have := HS1.out.ins x hx; exact ⟨⟨by omega, by omega⟩, ⟨by omega, by omega⟩⟩
      clear hI it il ib ir
      go_loopw [11] (fun _ w' => ∃ ar ac : Int, Hid (I64 ar ∧ I64 ac) ∧ Own w' w4.heap.size #[.int .i64 ar, .int .i64 ac] ∧ Hid (SW w' D1 (w.heap.size + 1) L) ∧ Hid (SW w' D2 (w.heap.size + 1 + 1) L) ∧ Below w.heap.size w w' ∧ Own w' w.heap.size #[.int .i64 t, .int .i64 le, .int .i64 b, .int .i64 rr]) (fun _ w' => behV L (w'.cell? ⟨w4.heap.size, 0, none⟩) (w'.cell? ⟨w4.heap.size, 1, none⟩))
      case atStart => exact ⟨0, 0, (show Hid _ from ⟨i64_s, i64_s⟩), by with_reducible (repeat' first | assumption | refine Own.drew ?_ | refine Own.drewN ?_ _ | (refine Own.at ?_; first | rfl | (simp; done)) | refine Own.past ?_ _), (show Hid _ from HS1.out.keep (bal _ _)), (show Hid _ from HS2.out.keep (bal _ _)), by with_reducible (repeat' first | assumption | exact Below.refl _ _ | refine Below.drew ?_ | refine bdrewN ?_ _ | refine Below.setCell ?_ (by first | exact Nat.le_refl _ | (simp; done) | (simp; omega) | omega) _ | refine Below.alloc ?_ (by first | exact Nat.le_refl _ | (simp; done) | (simp; omega) | omega) _), by with_reducible (repeat' first | assumption | refine Own.drew ?_ | refine Own.drewN ?_ _ | (refine Own.at ?_; first | rfl | (simp; done)) | refine Own.past ?_ _)⟩
      case round =>
        obtain ⟨ar, ac, hII, o9, q1, q2, hB5, o5⟩ := hrel
        clear HS1 HS2
        have c9 := o9.cell
        have f9 := o9.fro
        have l9 := o9.lt
        have c5 := o5.cell
        have l5 := o5.lt
        have t5 : True := trivial
        have t6 : True := trivial
        have t7 : True := trivial
        have t8 : True := trivial
        rcases next_two L t le b rr ar ac with ⟨e0, _⟩ | ⟨x, hx, hpx, e0⟩
        · have HN1 : Hid (∀ (W : World) (D : Nat → Option Nat) (S : Nat), SW W D S L → Calls Try.prog 17 #[.pointer (some ⟨S, 0, none⟩), .agg #[.int .i64 t, .int .i64 le, .int .i64 b, .int .i64 rr], .agg #[.int .i64 ar, .int .i64 ac]] W fun e w' => e = .returned (.tuple #[.agg #[.int .i64 0, .int .i64 0], .bool false]) ∧ Below W.heap.size W w') := fun W D S h => by rw [← e0]; exact HV.out W D S ar ac h hII.out.1 hII.out.2
          have hne := neC 0 0 0 0
          rw [sameC_refl] at hne
          clear e0 HV
          generalize L.length = nn at *
          go_wp2_with (first
            | (go_at_call 17; clear t5; refine (HN1.out _ _ _ q1.out).mono ?_; rintro e wa ⟨rfl, hba⟩; have za := hba.size; have oa9 := o9.keep hba; have oa5 := o5.keep hba; clear c9 f9 l9 c5 l5; have c9 := oa9.cell; have l9 := oa9.lt; have c5 := oa5.cell; have l5 := oa5.lt; have hBa := bup hB5 hba)
            | (go_at_call 17; clear t6; refine (HN1.out _ _ _ (q2.out.keep (bup hba (by with_reducible (repeat' first | assumption | exact Below.refl _ _ | refine Below.drew ?_ | refine bdrewN ?_ _ | refine Below.setCell ?_ (by first | exact Nat.le_refl _ | (simp; done) | (simp; omega) | omega) _ | refine Below.alloc ?_ (by first | exact Nat.le_refl _ | (simp; done) | (simp; omega) | omega) _))))).mono ?_; rintro e wb ⟨rfl, hbb⟩; have zb := hbb.size; have hBb : Below w.heap.size w wb := bup (by with_reducible (repeat' first | assumption | exact Below.refl _ _ | refine Below.drew ?_ | refine bdrewN ?_ _ | refine Below.setCell ?_ (by first | exact Nat.le_refl _ | (simp; done) | (simp; omega) | omega) _ | refine Below.alloc ?_ (by first | exact Nat.le_refl _ | (simp; done) | (simp; omega) | omega) _)) hbb; have hBr : Below wr.heap.size wr wb := bup (bup hba (by with_reducible (repeat' first | assumption | exact Below.refl _ _ | refine Below.drew ?_ | refine bdrewN ?_ _ | refine Below.setCell ?_ (by first | exact Nat.le_refl _ | (simp; done) | (simp; omega) | omega) _ | refine Below.alloc ?_ (by first | exact Nat.le_refl _ | (simp; done) | (simp; omega) | omega) _))) hbb; have ob : Own wb wa.heap.size #[.int .i64 0, .int .i64 0] := Own.keep (by with_reducible (repeat' first | assumption | refine Own.drew ?_ | refine Own.drewN ?_ _ | (refine Own.at ?_; first | rfl | (simp; done)) | refine Own.past ?_ _)) hbb; have cb := ob.cell; have lb := ob.lt)
            | (go_at_call 10; clear t7; refine (HC.out _ _ _ (q1.out.keep (bup hBr (by with_reducible (repeat' first | assumption | exact Below.refl _ _ | refine Below.drew ?_ | refine bdrewN ?_ _ | refine Below.setCell ?_ (by first | exact Nat.le_refl _ | (simp; done) | (simp; omega) | omega) _ | refine Below.alloc ?_ (by first | exact Nat.le_refl _ | (simp; done) | (simp; omega) | omega) _))))).mono ?_; rintro e wc ⟨rfl, hbc⟩; have hBc : Below w.heap.size w wc := bup (by with_reducible (repeat' first | assumption | exact Below.refl _ _ | refine Below.drew ?_ | refine bdrewN ?_ _ | refine Below.setCell ?_ (by first | exact Nat.le_refl _ | (simp; done) | (simp; omega) | omega) _ | refine Below.alloc ?_ (by first | exact Nat.le_refl _ | (simp; done) | (simp; omega) | omega) _)) hbc; have hBrc : Below wr.heap.size wr wc := bup (bup hBr (by with_reducible (repeat' first | assumption | exact Below.refl _ _ | refine Below.drew ?_ | refine bdrewN ?_ _ | refine Below.setCell ?_ (by first | exact Nat.le_refl _ | (simp; done) | (simp; omega) | omega) _ | refine Below.alloc ?_ (by first | exact Nat.le_refl _ | (simp; done) | (simp; omega) | omega) _))) hbc)
            | (go_at_call 10; clear t8; refine (HC.out _ _ _ (q2.out.keep hBrc)).mono ?_; rintro e wd ⟨rfl, hbd⟩; have hBd : Below w.heap.size w wd := bup hBc hbd)
            | (go_at_call 12; refine (lives_any _).mono ?_; rintro e we ⟨rfl, hbe⟩; have hBe : Below w.heap.size w we := bup hBd hbe))
          go_ret
          exact ⟨rfl, by with_reducible (repeat' first | assumption | exact Below.refl _ _ | refine Below.drew ?_ | refine bdrewN ?_ _ | refine Below.setCell ?_ (by first | exact Nat.le_refl _ | (simp; done) | (simp; omega) | omega) _ | refine Below.alloc ?_ (by first | exact Nat.le_refl _ | (simp; done) | (simp; omega) | omega) _)⟩
        · have hI2 := HR.out x hx
          have HI2 : Hid (I64 x.r ∧ I64 x.c) := hI2
          have hbf : befB ar ac x.r x.c = true := by have := (pN_is _ _ _ _ _ _ _).1 hpx; exact befB_t this.2
          have HM : Hid (behV L (some (.int .i64 x.r)) (some (.int .i64 x.c)) < behV L (some (.int .i64 ar)) (some (.int .i64 ac))) := behV_lt hx hbf
          have HF : Hid (∀ W : World, Calls Try.prog 18 #[.agg #[.int .i64 ar, .int .i64 ac], .agg #[.int .i64 x.r, .int .i64 x.c]] W fun e w' => e = .returned (.bool true) ∧ Below W.heap.size W w') := fun W => by rw [← hbf]; exact rbef_any _ _ _ _ W
          have HN1 : Hid (∀ (W : World) (D : Nat → Option Nat) (S : Nat), SW W D S L → Calls Try.prog 17 #[.pointer (some ⟨S, 0, none⟩), .agg #[.int .i64 t, .int .i64 le, .int .i64 b, .int .i64 rr], .agg #[.int .i64 ar, .int .i64 ac]] W fun e w' => e = .returned (.tuple #[.agg #[.int .i64 x.r, .int .i64 x.c], .bool true]) ∧ Below W.heap.size W w') := fun W D S h => by rw [← e0]; exact HV.out W D S ar ac h hII.out.1 hII.out.2
          have hne := neC x.r x.c x.r x.c
          rw [sameC_refl] at hne
          clear e0 HV hpx hx hI2 hbf
          obtain ⟨xr, xc, xv⟩ := x
          dsimp only at HI2 HM HF HN1 hne
          go_wp2_with (first
            | (go_at_call 17; clear t5; refine (HN1.out _ _ _ q1.out).mono ?_; rintro e wa ⟨rfl, hba⟩; have za := hba.size; have oa9 := o9.keep hba; have oa5 := o5.keep hba; clear c9 f9 l9 c5 l5; have c9 := oa9.cell; have l9 := oa9.lt; have c5 := oa5.cell; have l5 := oa5.lt; have hBa := bup hB5 hba)
            | (go_at_call 17; clear t6; refine (HN1.out _ _ _ (q2.out.keep (bup hba (by with_reducible (repeat' first | assumption | exact Below.refl _ _ | refine Below.drew ?_ | refine bdrewN ?_ _ | refine Below.setCell ?_ (by first | exact Nat.le_refl _ | (simp; done) | (simp; omega) | omega) _ | refine Below.alloc ?_ (by first | exact Nat.le_refl _ | (simp; done) | (simp; omega) | omega) _))))).mono ?_; rintro e wb ⟨rfl, hbb⟩; have zb := hbb.size; have hBb : Below w.heap.size w wb := bup (by with_reducible (repeat' first | assumption | exact Below.refl _ _ | refine Below.drew ?_ | refine bdrewN ?_ _ | refine Below.setCell ?_ (by first | exact Nat.le_refl _ | (simp; done) | (simp; omega) | omega) _ | refine Below.alloc ?_ (by first | exact Nat.le_refl _ | (simp; done) | (simp; omega) | omega) _)) hbb; have hBr : Below wr.heap.size wr wb := bup (bup hba (by with_reducible (repeat' first | assumption | exact Below.refl _ _ | refine Below.drew ?_ | refine bdrewN ?_ _ | refine Below.setCell ?_ (by first | exact Nat.le_refl _ | (simp; done) | (simp; omega) | omega) _ | refine Below.alloc ?_ (by first | exact Nat.le_refl _ | (simp; done) | (simp; omega) | omega) _))) hbb; have ob : Own wb wa.heap.size #[.int .i64 xr, .int .i64 xc] := Own.keep (by with_reducible (repeat' first | assumption | refine Own.drew ?_ | refine Own.drewN ?_ _ | (refine Own.at ?_; first | rfl | (simp; done)) | refine Own.past ?_ _)) hbb; have ob9 : Own wb w4.heap.size #[.int .i64 ar, .int .i64 ac] := Own.keep (by with_reducible (repeat' first | assumption | refine Own.drew ?_ | refine Own.drewN ?_ _ | (refine Own.at ?_; first | rfl | (simp; done)) | refine Own.past ?_ _)) hbb; have ob5 : Own wb w.heap.size #[.int .i64 t, .int .i64 le, .int .i64 b, .int .i64 rr] := Own.keep (by with_reducible (repeat' first | assumption | refine Own.drew ?_ | refine Own.drewN ?_ _ | (refine Own.at ?_; first | rfl | (simp; done)) | refine Own.past ?_ _)) hbb; have cb := ob.cell; have lb := ob.lt; clear c9 l9 c5 l5; have c9 := ob9.cell; have l9 := ob9.lt)
            | (go_at_call 18; refine (HF.out _).mono ?_; rintro e wc ⟨rfl, hbc⟩; have zc := hbc.size; have hBc : Below w.heap.size w wc := bup (by with_reducible (repeat' first | assumption | exact Below.refl _ _ | refine Below.drew ?_ | refine bdrewN ?_ _ | refine Below.setCell ?_ (by first | exact Nat.le_refl _ | (simp; done) | (simp; omega) | omega) _ | refine Below.alloc ?_ (by first | exact Nat.le_refl _ | (simp; done) | (simp; omega) | omega) _)) hbc; have hBrc : Below wr.heap.size wr wc := bup (bup hBr (by with_reducible (repeat' first | assumption | exact Below.refl _ _ | refine Below.drew ?_ | refine bdrewN ?_ _ | refine Below.setCell ?_ (by first | exact Nat.le_refl _ | (simp; done) | (simp; omega) | omega) _ | refine Below.alloc ?_ (by first | exact Nat.le_refl _ | (simp; done) | (simp; omega) | omega) _))) hbc; have oc : Own wc wa.heap.size #[.int .i64 xr, .int .i64 xc] := Own.keep (by with_reducible (repeat' first | assumption | refine Own.drew ?_ | refine Own.drewN ?_ _ | (refine Own.at ?_; first | rfl | (simp; done)) | refine Own.past ?_ _)) hbc; have oc9 : Own wc w4.heap.size #[.int .i64 ar, .int .i64 ac] := Own.keep (by with_reducible (repeat' first | assumption | refine Own.drew ?_ | refine Own.drewN ?_ _ | (refine Own.at ?_; first | rfl | (simp; done)) | refine Own.past ?_ _)) hbc; have oc5 : Own wc w.heap.size #[.int .i64 t, .int .i64 le, .int .i64 b, .int .i64 rr] := Own.keep (by with_reducible (repeat' first | assumption | refine Own.drew ?_ | refine Own.drewN ?_ _ | (refine Own.at ?_; first | rfl | (simp; done)) | refine Own.past ?_ _)) hbc; clear cb lb c9 l9; have cb := oc.cell; have c9 := oc9.cell; have f9 := oc9.fro; have l9 := oc9.lt; have lc := oc.lt))
          have oN := own_put (k := 1) (x := .int .i64 xc) (own_put (k := 0) (x := .int .i64 xr) oc9 (by simp)) (by simp)
          refine ⟨⟨xr, xc, HI2, oN, (show Hid _ from ((q1.out.keep hBrc).aside _ (fun k u e => ?_)).aside _ (fun k u e => ?_)), (show Hid _ from ((q2.out.keep hBrc).aside _ (fun k u e => ?_)).aside _ (fun k u e => ?_)), by with_reducible (repeat' first | assumption | exact Below.refl _ _ | refine Below.drew ?_ | refine bdrewN ?_ _ | refine Below.setCell ?_ (by first | exact Nat.le_refl _ | (simp; done) | (simp; omega) | omega) _ | refine Below.alloc ?_ (by first | exact Nat.le_refl _ | (simp; done) | (simp; omega) | omega) _), (oc5.aside _ ?_).aside _ ?_⟩, ?_⟩
          · have := d1.out k u e; simp; omega
          · have := d1.out k u e; simp; omega
          · have := d2.out k u e; simp; omega
          · have := d2.out k u e; simp; omega
          · simp; omega
          · simp; omega
          · rw [oN.cell 0, oN.cell 1, o9.cell 0, o9.cell 1]; exact HM.out
end Go.Proofs.Ytioialnndejkiaa
