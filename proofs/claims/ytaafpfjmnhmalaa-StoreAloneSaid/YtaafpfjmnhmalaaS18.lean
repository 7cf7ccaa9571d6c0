/- The contract of Store.Drop, everywhere. -/
import Derived.Test.YtaafpfjmnhmalaaS17
import Derived.Test.YtaafpfjmnhmalaaS13
import Derived.Deep.QuietTactic
import Derived.BigQuiet
namespace Go.Proofs.Ytaafpfjmnhmalaa
open Go.RowKit
set_option linter.all false
set_option maxRecDepth 100000 in
theorem drop_may (w : World) (S : Nat) (r c : Int) (hm : mayC r c = false) : Calls Try.prog 20 #[.pointer (some ⟨S, 0, none⟩), .agg #[.int .i64 r, .int .i64 c]] w fun e w' => e = .returned (.int .i64 3) ∧ Below w.heap.size w w' := by
  go_enter Try.func20, Try.ntmps20
  go_wp2_with (go_at_call 27; refine (may_any _ _ _).mono ?_; rintro e wa ⟨rfl, hbwa⟩; have hBwa : Below w.heap.size w wa := bup (by with_reducible (repeat' first | assumption | exact Below.refl _ _ | refine Below.drew ?_ | refine bdrewN ?_ _ | refine Below.setCell ?_ (by first | exact Nat.le_refl _ | (simp; done) | (simp; omega) | omega) _ | refine Below.alloc ?_ (by first | exact Nat.le_refl _ | (simp; done) | (simp; omega) | omega) _)) hbwa; have zwa := hBwa.size; have o0wa : Own wa (w.heap.size) #[.int .i64 r, .int .i64 c] := Own.keep (by with_reducible (repeat' first | assumption | refine Own.drew ?_ | refine Own.drewN ?_ _ | (refine Own.at ?_; first | rfl | (simp; done)) | refine Own.past ?_ _)) hbwa; have c0 := o0wa.cell; have f0 := o0wa.fro; have l0 := o0wa.lt; try rw [hm])
  go_ret
  exact ⟨rfl, by with_reducible (repeat' first | assumption | exact Below.refl _ _ | refine Below.drew ?_ | refine bdrewN ?_ _ | refine Below.setCell ?_ (by first | exact Nat.le_refl _ | (simp; done) | (simp; omega) | omega) _ | refine Below.alloc ?_ (by first | exact Nat.le_refl _ | (simp; done) | (simp; omega) | omega) _)⟩
set_option maxRecDepth 100000 in
set_option maxHeartbeats 1000000 in
theorem drop_nochunk (w : World) (S i j : Nat) (A : Array Value) (r c : Int) (hm : mayC r c = true) (hi : i < 64) (hj : j < 64) (hr : Hid (r = ((i * 64 + j + 1 : Nat) : Int))) (hA : Hid (Own w S A)) (hv : A[i]? = some (.pointer none)) : Calls Try.prog 20 #[.pointer (some ⟨S, 0, none⟩), .agg #[.int .i64 r, .int .i64 c]] w fun e w' => e = .returned (.int .i64 0) ∧ Below w.heap.size w w' := by
  have mixed : Try.prog.follows .mixedOrders = true := by kernel_rfl
  have h1 := hA.out.lt
  have h2 : w.cell? ⟨S, i, none⟩ = some (.pointer none) := (hA.out.cell i).trans hv
  have hi' : (i : Int) < 64 := by omega
  clear hv hA
  go_enter Try.func20, Try.ntmps20
  go_wp2_with (first | ((go_at_call 27; refine (may_any _ _ _).mono ?_; rintro e wa ⟨rfl, hbwa⟩; have hBwa : Below w.heap.size w wa := bup (by with_reducible (repeat' first | assumption | exact Below.refl _ _ | refine Below.drew ?_ | refine bdrewN ?_ _ | refine Below.setCell ?_ (by first | exact Nat.le_refl _ | (simp; done) | (simp; omega) | omega) _ | refine Below.alloc ?_ (by first | exact Nat.le_refl _ | (simp; done) | (simp; omega) | omega) _)) hbwa; have zwa := hBwa.size; have o0wa : Own wa (w.heap.size) #[.int .i64 r, .int .i64 c] := Own.keep (by with_reducible (repeat' first | assumption | refine Own.drew ?_ | refine Own.drewN ?_ _ | (refine Own.at ?_; first | rfl | (simp; done)) | refine Own.past ?_ _)) hbwa; have c0 := o0wa.cell; have f0 := o0wa.fro; have l0 := o0wa.lt; try rw [hm]); have y0 := (hBwa.cell (p := ⟨S, i, none⟩) h1).trans h2) | (go_at_call 28; refine (split_ij _ i j r hi hj hr.out).mono ?_; rintro e w5 ⟨rfl, h5⟩; have h6 := h5.symm; subst h6))
  go_quiet (fail)
  go_wp2
  go_ret
  exact ⟨rfl, by with_reducible (repeat' first | assumption | exact Below.refl _ _ | refine Below.drew ?_ | refine bdrewN ?_ _ | refine Below.setCell ?_ (by first | exact Nat.le_refl _ | (simp; done) | (simp; omega) | omega) _ | refine Below.alloc ?_ (by first | exact Nat.le_refl _ | (simp; done) | (simp; omega) | omega) _)⟩
set_option maxRecDepth 100000 in
set_option maxHeartbeats 2000000 in
theorem drop_none (w : World) (S i j b : Nat) (A B : Array Value) (u : Value) (l : List Sp) (r c : Int) (hm : mayC r c = true) (hi : i < 64) (hj : j < 64) (hr : Hid (r = ((i * 64 + j + 1 : Nat) : Int))) (hA : Hid (Own w S A)) (hv : A[i]? = some (.pointer (some ⟨b, 0, none⟩))) (hB : Hid (Own w b B)) (hu : B[j]? = some u) (hR : Hid (RowW w u l)) (hl : l.length ≤ 65536) (hS : Hid (Srt l)) (hh : hasS l c = false) : Calls Try.prog 20 #[.pointer (some ⟨S, 0, none⟩), .agg #[.int .i64 r, .int .i64 c]] w fun e w' => e = .returned (.int .i64 0) ∧ Below w.heap.size w w' := by
  have mixed : Try.prog.follows .mixedOrders = true := by kernel_rfl
  have h1 := hA.out.lt
  have h2 : w.cell? ⟨S, i, none⟩ = some (.pointer (some ⟨b, 0, none⟩)) := (hA.out.cell i).trans hv
  have hi' : (i : Int) < 64 := by omega
  have hj' : (j : Int) < 64 := by omega
  have HK : Hid (∀ w1, Below w.heap.size w w1 → Calls Try.prog 35 #[.pointer (some ⟨b, j, none⟩), .int .i64 c] w1 fun e w' => e = .returned (.bool false) ∧ Below w1.heap.size w1 w') := fun w1 hb => rdrop_n w1 b j u l c (hB.out.keep hb).lt (((hB.out.keep hb).cell j).trans hu) (show Hid _ from hR.out.keep hb) hl hS hh
  clear hv hA hu hB hR hS hh
  go_enter Try.func20, Try.ntmps20
  go_wp2_with (first | ((go_at_call 27; refine (may_any _ _ _).mono ?_; rintro e wa ⟨rfl, hbwa⟩; have hBwa : Below w.heap.size w wa := bup (by with_reducible (repeat' first | assumption | exact Below.refl _ _ | refine Below.drew ?_ | refine bdrewN ?_ _ | refine Below.setCell ?_ (by first | exact Nat.le_refl _ | (simp; done) | (simp; omega) | omega) _ | refine Below.alloc ?_ (by first | exact Nat.le_refl _ | (simp; done) | (simp; omega) | omega) _)) hbwa; have zwa := hBwa.size; have o0wa : Own wa (w.heap.size) #[.int .i64 r, .int .i64 c] := Own.keep (by with_reducible (repeat' first | assumption | refine Own.drew ?_ | refine Own.drewN ?_ _ | (refine Own.at ?_; first | rfl | (simp; done)) | refine Own.past ?_ _)) hbwa; have c0 := o0wa.cell; have f0 := o0wa.fro; have l0 := o0wa.lt; try rw [hm]); have y0 := (hBwa.cell (p := ⟨S, i, none⟩) h1).trans h2) | (go_at_call 28; refine (split_ij _ i j r hi hj hr.out).mono ?_; rintro e w5 ⟨rfl, h5⟩; have h6 := h5.symm; subst h6))
  go_region_held3 (fun w' => w'.cell? ⟨w.heap.size, 0, none⟩ = some (.int .i64 r) ∧ w'.cell? ⟨w.heap.size, 1, none⟩ = some (.int .i64 c)) ((repeat' apply And.intro) <;> (first | (go_keep; done) | (go_simp; done))) (first | (go_at_call 35; refine (HK.out _ (by with_reducible (repeat' first | assumption | exact Below.refl _ _ | refine Below.drew ?_ | refine bdrewN ?_ _ | refine Below.setCell ?_ (by first | exact Nat.le_refl _ | (simp; done) | (simp; omega) | omega) _ | refine Below.alloc ?_ (by first | exact Nat.le_refl _ | (simp; done) | (simp; omega) | omega) _))).mono ?_; rintro e wb ⟨rfl, hbwb⟩; have hBwb : Below w.heap.size w wb := bup (by with_reducible (repeat' first | assumption | exact Below.refl _ _ | refine Below.drew ?_ | refine bdrewN ?_ _ | refine Below.setCell ?_ (by first | exact Nat.le_refl _ | (simp; done) | (simp; omega) | omega) _ | refine Below.alloc ?_ (by first | exact Nat.le_refl _ | (simp; done) | (simp; omega) | omega) _)) hbwb; have o0wb : Own wb (w.heap.size) #[.int .i64 r, .int .i64 c] := Own.keep (by with_reducible (repeat' first | assumption | refine Own.drew ?_ | refine Own.drewN ?_ _ | (refine Own.at ?_; first | rfl | (simp; done)) | refine Own.past ?_ _)) hbwb; have c0b := o0wb.cell))
  go_wp2
  all_goals go_ret
  all_goals exact ⟨rfl, by with_reducible (repeat' first | assumption | exact Below.refl _ _ | refine Below.drew ?_ | refine bdrewN ?_ _ | refine Below.setCell ?_ (by first | exact Nat.le_refl _ | (simp; done) | (simp; omega) | omega) _ | refine Below.alloc ?_ (by first | exact Nat.le_refl _ | (simp; done) | (simp; omega) | omega) _)⟩
set_option maxRecDepth 100000 in
set_option maxHeartbeats 4000000 in
theorem drop_some (w : World) (D : Nat → Option Nat) (S i j b : Nat) (L : List It) (A B : Array Value) (r c : Int) (h : Hid (SW w D S L)) (hi : i < 64) (hj : j < 64) (hr : Hid (r = ((i * 64 + j + 1 : Nat) : Int))) (hm : mayC r c = true)
    (hA : Hid (Own w S A)) (hv : A[i]? = some (.pointer (some ⟨b, 0, none⟩))) (hDb : D b = some (1 + i)) (hB : Hid (Own w b B)) (hBs : B.size = 64)
    (hrows : Hid (∀ j, j < 64 → ∃ u, B[j]? = some u ∧ RowW w u (rowL L ((i * 64 + j + 1 : Nat) : Int)) ∧ ∀ g, u.ownBlock = some g → D g = some (65 + (i * 64 + j)))) (hh : hasL L r c = true) :
    Calls Try.prog 20 #[.pointer (some ⟨S, 0, none⟩), .agg #[.int .i64 r, .int .i64 c]] w fun e w' => e = .returned (.int .i64 0) ∧ SOut w D S (dropL L r c) w' := by
  have mixed : Try.prog.follows .mixedOrders = true := by kernel_rfl
  have h1 := hA.out.lt
  have h2 : w.cell? ⟨S, i, none⟩ = some (.pointer (some ⟨b, 0, none⟩)) := (hA.out.cell i).trans hv
  have hi' : (i : Int) < 64 := by omega
  have hj' : (j : Int) < 64 := by omega
  have hfew := all_few h.out.srt h.out.ins
  have hpos : 0 < L.length := by
    have q := len_parts L r c
    rw [len_at h.out.srt r c, if_pos hh] at q
    omega
  have hnD : D w.heap.size = none := none_of (fun q => by obtain ⟨t, ht⟩ := Option.isSome_iff_exists.1 q; have := h.out.dom _ _ ht; omega)
  -- what is left behind row.drop and the count
  have HK : Hid (∀ w1, Below w.heap.size w w1 → Own w1 w.heap.size #[.int .i64 r, .int .i64 c] → Calls Try.prog 35 #[.pointer (some ⟨b, j, none⟩), .int .i64 c] w1 fun e w' => e = .returned (.bool true) ∧ Own w' w.heap.size #[.int .i64 r, .int .i64 c] ∧ Own w' S A ∧
      (∃ (D' : Nat → Option Nat) (B' : Array Value), SW (w'.setCell ⟨S, 64, none⟩ (.int .i64 ((L.length : Int) - 1))) D' S (dropL L r c) ∧ Mut (fun k => (D k).isSome = true) w (w'.setCell ⟨S, 64, none⟩ (.int .i64 ((L.length : Int) - 1))) ∧ (∀ k, (D' k).isSome = true → (D k).isSome = true ∨ w.heap.size ≤ k) ∧ Own (w'.setCell ⟨S, 64, none⟩ (.int .i64 ((L.length : Int) - 1))) b B' ∧ (∀ j, j < 64 → ∃ u, B'[j]? = some u ∧ RowW (w'.setCell ⟨S, 64, none⟩ (.int .i64 ((L.length : Int) - 1))) u (rowL (dropL L r c) ((i * 64 + j + 1 : Nat) : Int))))) := fun w1 hb hO => by
    obtain ⟨u, u1, u2, u3⟩ := hrows.out j hj
    rw [← hr.out] at u2
    refine (rdrop_y w1 b j B u (rowL L r) c (hB.out.keep hb) u1 (show Hid _ from u2.keep hb) (by have := row_few h.out.srt h.out.ins r; omega) (row_srt h.out.srt r) hh).mono ?_
    intro e w' hp
    have hf := drop_fin (u := .pointer none) (h.out.keep hb) hi hj hr.out (hA.out.keep hb) hv hDb (hB.out.keep hb) hBs (fun m hm2 => by
      obtain ⟨u, u1, u2, u3⟩ := hrows.out m hm2
      exact ⟨u, u1, u2.keep hb, u3⟩) hp hh
    obtain ⟨f1, f2, f3, D', B', f4, f5, f6, f7, f8⟩ := hf
    have hp1 := hp.1
    obtain ⟨_, v', _, _, _, o4⟩ := hp
    refine ⟨hp1, hO.mut o4 (fun q => ?_), f1, D', B', f4, (Mut.of_below hb).call f5 (fun k hk => .inl hk), fun k hk => (f6 k hk).imp id (fun q => Nat.le_trans hb.size q), f7, f8⟩
    have := (hB.out).lt
    omega
  have h64 : A[64]? = some (.int .i64 L.length) := by
    obtain ⟨A0, a1, a2, a3, a4⟩ := h.out.own
    rw [← (hA.out.cell 64), a1.cell 64]; exact a3
  have hrf : ∀ m, (rowL (dropL L r c) ((i * 64 + m + 1 : Nat) : Int)).length ≤ 65536 := fun m => by have := row_few (dropL_srt h.out.srt r c) (h.out.ins.drop r c) ((i * 64 + m + 1 : Nat) : Int); omega
  have hAi : i < A.size := (Array.getElem?_eq_some_iff.1 hv).1
  have hA64 : 64 < A.size := (Array.getElem?_eq_some_iff.1 h64).1
  by_cases hE : ∀ m, m < 64 → rowL (dropL L r c) ((i * 64 + m + 1 : Nat) : Int) = []
  · have HF : Hid (∀ w1, Below w.heap.size w w1 → Own w1 w.heap.size #[.int .i64 r, .int .i64 c] → Calls Try.prog 35 #[.pointer (some ⟨b, j, none⟩), .int .i64 c] w1 fun e w' => e = .returned (.bool true) ∧ Own w' w.heap.size #[.int .i64 r, .int .i64 c] ∧ Own w' S A ∧ Calls Try.prog 36 #[.pointer (some ⟨b, 0, none⟩)] (w'.setCell ⟨S, 64, none⟩ (.int .i64 ((L.length : Int) - 1))) (fun e w'' => e = .returned (.bool true) ∧ w'' = w'.setCell ⟨S, 64, none⟩ (.int .i64 ((L.length : Int) - 1))) ∧ SOut w D S (dropL L r c) ((w'.setCell ⟨S, 64, none⟩ (.int .i64 ((L.length : Int) - 1))).setCell ⟨S, i, none⟩ (.pointer none))) := fun w1 hb hO => (HK.out w1 hb hO).mono (by
      rintro e w' ⟨rfl, k1, k2, D', B', f4, f5, f6, f7, f8⟩
      refine ⟨rfl, k1, k2, empty_yes _ b B' _ f7 f8 hE, D', f4.unchunk hi hE, f5.set (.inl (by rw [h.out.at0]; rfl)) _, f6⟩)
    clear HK hE hrf h hA hB hrows
    revert HF
    generalize SOut w D S (dropL L r c) = PP
    generalize L.length = n at *
    intro HF
    clear hDb hBs hh hnD
    have h64' : (0 : Int) ≤ (n : Int) - 1 := by omega
    go_enter Try.func20, Try.ntmps20
    go_wp2_with (first | ((go_at_call 27; refine (may_any _ _ _).mono ?_; rintro e wa ⟨rfl, hbwa⟩; have hBwa : Below w.heap.size w wa := bup (by with_reducible (repeat' first | assumption | exact Below.refl _ _ | refine Below.drew ?_ | refine bdrewN ?_ _ | refine Below.setCell ?_ (by first | exact Nat.le_refl _ | (simp; done) | (simp; omega) | omega) _ | refine Below.alloc ?_ (by first | exact Nat.le_refl _ | (simp; done) | (simp; omega) | omega) _)) hbwa; have zwa := hBwa.size; have o0wa : Own wa (w.heap.size) #[.int .i64 r, .int .i64 c] := Own.keep (by with_reducible (repeat' first | assumption | refine Own.drew ?_ | refine Own.drewN ?_ _ | (refine Own.at ?_; first | rfl | (simp; done)) | refine Own.past ?_ _)) hbwa; have c0 := o0wa.cell; have f0 := o0wa.fro; have l0 := o0wa.lt; try rw [hm]); have y0 := (hBwa.cell (p := ⟨S, i, none⟩) h1).trans h2) | (go_at_call 28; refine (split_ij _ i j r hi hj hr.out).mono ?_; rintro e w5 ⟨rfl, h5⟩; have h6 := h5.symm; subst h6))
    go_region_held3 (fun w' => w'.cell? ⟨w.heap.size, 0, none⟩ = some (.int .i64 r) ∧ w'.cell? ⟨w.heap.size, 1, none⟩ = some (.int .i64 c)) ((repeat' apply And.intro) <;> (first | (go_keep; done) | (go_simp; done))) (first | (go_at_call 35; refine (HF.out _ (by with_reducible (repeat' first | assumption | exact Below.refl _ _ | refine Below.drew ?_ | refine bdrewN ?_ _ | refine Below.setCell ?_ (by first | exact Nat.le_refl _ | (simp; done) | (simp; omega) | omega) _ | refine Below.alloc ?_ (by first | exact Nat.le_refl _ | (simp; done) | (simp; omega) | omega) _)) (by with_reducible (repeat' first | assumption | refine Own.drew ?_ | refine Own.drewN ?_ _ | (refine Own.at ?_; first | rfl | (simp; done)) | refine Own.past ?_ _))).mono ?_; rintro e wb ⟨rfl, ob, oS, k4, k5⟩; have d1 := ob.cell; have cS64 := (oS.cell 64).trans h64; have fS64 := oS.fro 64; have oT := own_put' (x := .int .i64 ((n : Int) - 1)) oS hA64; have HE : Hid (Calls Try.prog 36 #[.pointer (some ⟨b, 0, none⟩)] (wb.setCell ⟨S, 64, none⟩ (.int .i64 ((n : Int) - 1))) (fun e w'' => e = .returned (.bool true) ∧ w'' = wb.setCell ⟨S, 64, none⟩ (.int .i64 ((n : Int) - 1)))) := k4; have HQ : Hid _ := k5; clear k4 k5))
    go_wp2_with (go_at_call 36; refine HE.out.mono ?_; rintro e wc ⟨rfl, h9⟩; rw [h9]; clear h9 wc; have cSi := oT.cell i; have fSi := oT.fro i; rw [Array.getElem?_setIfInBounds, if_neg (show ¬ 64 = i by omega), hv] at cSi)
    all_goals (go_ret; exact ⟨rfl, HQ.out⟩)
  · have HF : Hid (∀ w1, Below w.heap.size w w1 → Own w1 w.heap.size #[.int .i64 r, .int .i64 c] → Calls Try.prog 35 #[.pointer (some ⟨b, j, none⟩), .int .i64 c] w1 fun e w' => e = .returned (.bool true) ∧ Own w' w.heap.size #[.int .i64 r, .int .i64 c] ∧ Own w' S A ∧ Calls Try.prog 36 #[.pointer (some ⟨b, 0, none⟩)] (w'.setCell ⟨S, 64, none⟩ (.int .i64 ((L.length : Int) - 1))) (fun e w'' => e = .returned (.bool false) ∧ w'' = w'.setCell ⟨S, 64, none⟩ (.int .i64 ((L.length : Int) - 1))) ∧ SOut w D S (dropL L r c) (w'.setCell ⟨S, 64, none⟩ (.int .i64 ((L.length : Int) - 1)))) := fun w1 hb hO => (HK.out w1 hb hO).mono (by
      rintro e w' ⟨rfl, k1, k2, D', B', f4, f5, f6, f7, f8⟩
      refine ⟨rfl, k1, k2, empty_no _ b B' _ f7 f8 hrf hE, D', f4, f5, f6⟩)
    clear HK hE hrf h hA hB hrows
    revert HF
    generalize SOut w D S (dropL L r c) = PP
    generalize L.length = n at *
    intro HF
    clear hDb hBs hh hnD
    have h64' : (0 : Int) ≤ (n : Int) - 1 := by omega
    go_enter Try.func20, Try.ntmps20
    go_wp2_with (first | ((go_at_call 27; refine (may_any _ _ _).mono ?_; rintro e wa ⟨rfl, hbwa⟩; have hBwa : Below w.heap.size w wa := bup (by with_reducible (repeat' first | assumption | exact Below.refl _ _ | refine Below.drew ?_ | refine bdrewN ?_ _ | refine Below.setCell ?_ (by first | exact Nat.le_refl _ | (simp; done) | (simp; omega) | omega) _ | refine Below.alloc ?_ (by first | exact Nat.le_refl _ | (simp; done) | (simp; omega) | omega) _)) hbwa; have zwa := hBwa.size; have o0wa : Own wa (w.heap.size) #[.int .i64 r, .int .i64 c] := Own.keep (by with_reducible (repeat' first | assumption | refine Own.drew ?_ | refine Own.drewN ?_ _ | (refine Own.at ?_; first | rfl | (simp; done)) | refine Own.past ?_ _)) hbwa; have c0 := o0wa.cell; have f0 := o0wa.fro; have l0 := o0wa.lt; try rw [hm]); have y0 := (hBwa.cell (p := ⟨S, i, none⟩) h1).trans h2) | (go_at_call 28; refine (split_ij _ i j r hi hj hr.out).mono ?_; rintro e w5 ⟨rfl, h5⟩; have h6 := h5.symm; subst h6))
    go_region_held3 (fun w' => w'.cell? ⟨w.heap.size, 0, none⟩ = some (.int .i64 r) ∧ w'.cell? ⟨w.heap.size, 1, none⟩ = some (.int .i64 c)) ((repeat' apply And.intro) <;> (first | (go_keep; done) | (go_simp; done))) (first | (go_at_call 35; refine (HF.out _ (by with_reducible (repeat' first | assumption | exact Below.refl _ _ | refine Below.drew ?_ | refine bdrewN ?_ _ | refine Below.setCell ?_ (by first | exact Nat.le_refl _ | (simp; done) | (simp; omega) | omega) _ | refine Below.alloc ?_ (by first | exact Nat.le_refl _ | (simp; done) | (simp; omega) | omega) _)) (by with_reducible (repeat' first | assumption | refine Own.drew ?_ | refine Own.drewN ?_ _ | (refine Own.at ?_; first | rfl | (simp; done)) | refine Own.past ?_ _))).mono ?_; rintro e wb ⟨rfl, ob, oS, k4, k5⟩; have d1 := ob.cell; have cS64 := (oS.cell 64).trans h64; have fS64 := oS.fro 64; have oT := own_put' (x := .int .i64 ((n : Int) - 1)) oS hA64; have HE : Hid (Calls Try.prog 36 #[.pointer (some ⟨b, 0, none⟩)] (wb.setCell ⟨S, 64, none⟩ (.int .i64 ((n : Int) - 1))) (fun e w'' => e = .returned (.bool false) ∧ w'' = wb.setCell ⟨S, 64, none⟩ (.int .i64 ((n : Int) - 1)))) := k4; have HQ : Hid _ := k5; clear k4 k5))
    go_wp2_with (go_at_call 36; refine HE.out.mono ?_; rintro e wc ⟨rfl, h9⟩; rw [h9]; clear h9 wc; have cSi := oT.cell i; have fSi := oT.fro i; rw [Array.getElem?_setIfInBounds, if_neg (show ¬ 64 = i by omega), hv] at cSi)
    all_goals (go_ret; exact ⟨rfl, HQ.out⟩)
theorem drop_any (w : World) (D : Nat → Option Nat) (S : Nat) (L : List It) (r c : Int) (h : SW w D S L) :
    Calls Try.prog 20 #[.pointer (some ⟨S, 0, none⟩), .agg #[.int .i64 r, .int .i64 c]] w fun e w' => e = .returned (.int .i64 (if mayC r c = true then 0 else 3)) ∧ SOut w D S (if mayC r c = true then dropL L r c else L) w' := by
  cases hm : mayC r c
  · refine (drop_may w S r c hm).mono ?_
    rintro e w' ⟨rfl, hb⟩
    exact ⟨rfl, SOut.refl h hb⟩
  · have hmm := mayC_is hm
    obtain ⟨i, j, hi, hj, hr⟩ := row_of hmm.1 hmm.2.1
    obtain ⟨A, a1, a2, a3, a4⟩ := h.own
    obtain ⟨v, v1, v2⟩ := a4 i hi
    cases hh : hasL L r c
    · have e : dropL L r c = L := dropL_none h.srt hh
      rw [if_pos rfl, if_pos rfl, e]
      rcases v2 with ⟨rfl, v2⟩ | ⟨b, B, rfl, b1, b2, b3, b4⟩
      · refine (drop_nochunk w S i j A r c hm hi hj hr a1 v1).mono ?_
        rintro e w' ⟨rfl, hb⟩
        exact ⟨rfl, SOut.refl h hb⟩
      · obtain ⟨u, u1, u2, u3⟩ := b4 j hj
        rw [← hr] at u2
        refine (drop_none w S i j b A B u _ r c hm hi hj hr a1 v1 b2 u1 u2 (by have := row_few h.srt h.ins r; omega) (row_srt h.srt r) hh).mono ?_
        rintro e w' ⟨rfl, hb⟩
        exact ⟨rfl, SOut.refl h hb⟩
    · rcases v2 with ⟨rfl, v2⟩ | ⟨b, B, rfl, b1, b2, b3, b4⟩
      · have := v2 j hj
        rw [← hr] at this
        unfold hasL at hh
        rw [this] at hh
        cases hh
      · exact drop_some w D S i j b L A B r c h hi hj hr hm a1 v1 b1 b2 b3 b4 hh
end Go.Proofs.Ytaafpfjmnhmalaa
