/- The contract of Store.Put: ErrArg, ErrAddr, or the cell has the content from then on. Nothing but the store's own blocks and new ones is turned. -/
import Derived.Test.YtaafpfjmnhmalaaS8
namespace Go.Proofs.Ytaafpfjmnhmalaa
open Go.RowKit
set_option linter.all false
theorem put_nil (w : World) (S : Nat) (r c : Int) : Calls Try.prog 14 #[.pointer (some ⟨S, 0, none⟩), .agg #[.int .i64 r, .int .i64 c], .pointer none] w fun e w' => e = .returned (.int .i64 1) ∧ Below w.heap.size w w' := by
  go_enter Try.func14, Try.ntmps14
  go_wp2
  go_ret
  exact ⟨rfl, by with_reducible (repeat' first | assumption | exact Below.refl _ _ | refine Below.drew ?_ | refine bdrewN ?_ _ | refine Below.setCell ?_ (by first | exact Nat.le_refl _ | (simp; done) | (simp; omega) | omega) _ | refine Below.alloc ?_ (by first | exact Nat.le_refl _ | (simp; done) | (simp; omega) | omega) _)⟩
set_option maxRecDepth 100000 in
theorem put_addr (w : World) (S : Nat) (r c : Int) (a : Addr) (hm : mayC r c = false) : Calls Try.prog 14 #[.pointer (some ⟨S, 0, none⟩), .agg #[.int .i64 r, .int .i64 c], .pointer (some a)] w fun e w' => e = .returned (.int .i64 3) ∧ Below w.heap.size w w' := by
  go_enter Try.func14, Try.ntmps14
  go_wp2_with (go_at_call 27; refine (may_any _ _ _).mono ?_; rintro e wa ⟨rfl, hbwa⟩; have hBwa : Below w.heap.size w wa := bup (by with_reducible (repeat' first | assumption | exact Below.refl _ _ | refine Below.drew ?_ | refine bdrewN ?_ _ | refine Below.setCell ?_ (by first | exact Nat.le_refl _ | (simp; done) | (simp; omega) | omega) _ | refine Below.alloc ?_ (by first | exact Nat.le_refl _ | (simp; done) | (simp; omega) | omega) _)) hbwa; have zwa := hBwa.size; have o0wa : Own wa (w.heap.size) #[.int .i64 r, .int .i64 c] := Own.keep (by with_reducible (repeat' first | assumption | refine Own.drew ?_ | refine Own.drewN ?_ _ | (refine Own.at ?_; first | rfl | (simp; done)) | refine Own.past ?_ _)) hbwa; have c0 := o0wa.cell; have f0 := o0wa.fro; have l0 := o0wa.lt; try rw [hm])
  go_ret
  exact ⟨rfl, by with_reducible (repeat' first | assumption | exact Below.refl _ _ | refine Below.drew ?_ | refine bdrewN ?_ _ | refine Below.setCell ?_ (by first | exact Nat.le_refl _ | (simp; done) | (simp; omega) | omega) _ | refine Below.alloc ?_ (by first | exact Nat.le_refl _ | (simp; done) | (simp; omega) | omega) _)⟩
/-- row.put, either way. -/
theorem rput_any (w : World) (kb j : Nat) (B : Array Value) (v : Value) (l : List Sp) (c : Int) (x : Option Addr) (ho : Own w kb B) (hj : B[j]? = some v) (hv : RowW w v l) (hne : v.ownBlock ≠ some kb) (hl : l.length ≤ 65536) (hS : Srt l) :
    Calls Try.prog 29 #[.pointer (some ⟨kb, j, none⟩), .int .i64 c, .pointer x] w (RPut w kb j B v (putS l c x) (!hasS l c)) := by
  cases h : hasS l c
  · exact rput_n w kb j B v l c x ho hj hv hne hl hS h
  · exact rput_y w kb j B v l c x ho hj hv hne hl hS h
/-- row.put within a store. -/
theorem rput_in (w : World) (D : Nat → Option Nat) (S i j b : Nat) (L : List It) (A B : Array Value) (u : Value) (r c : Int) (x : Option Addr) (h : SW w D S L) (hi : i < 64) (hj : j < 64) (hr : r = ((i * 64 + j + 1 : Nat) : Int)) (hm : mayC r c = true)
    (hA : Own w S A) (hv : A[i]? = some (.pointer (some ⟨b, 0, none⟩))) (hDb : D b = some (1 + i)) (hB : Own w b B) (hBs : B.size = 64)
    (hrows : ∀ j, j < 64 → ∃ u, B[j]? = some u ∧ RowW w u (rowL L ((i * 64 + j + 1 : Nat) : Int)) ∧ ∀ g, u.ownBlock = some g → D g = some (65 + (i * 64 + j))) (bk : Nat) (K : Array Value) (hK : Own w bk K) (hbk : D bk = none) :
    Calls Try.prog 29 #[.pointer (some ⟨b, j, none⟩), .int .i64 c, .pointer x] w fun e w' => e = .returned (.bool (!hasL L r c)) ∧ Own w' bk K ∧ w'.cell? ⟨S, i, none⟩ = some (.pointer (some ⟨b, 0, none⟩)) ∧ w'.cell? ⟨S, 64, none⟩ = some (.int .i64 L.length) ∧ w'.frozen? ⟨S, 64, none⟩ = false ∧
      ((!hasL L r c) = true → SOut w D S (putL L r c x) (w'.setCell ⟨S, 64, none⟩ (.int .i64 ((L.length : Int) + 1)))) ∧ ((!hasL L r c) = false → SOut w D S (putL L r c x) w') := by
  obtain ⟨u, u1, u2, u3⟩ := hrows j hj
  have hne : u.ownBlock ≠ some b := by intro q; have := u3 b q; rw [hDb] at this; injection this with q; omega
  refine (rput_any w b j B u (rowL L ((i * 64 + j + 1 : Nat) : Int)) c x hB u1 u2 hne (by have := row_few h.srt h.ins ((i * 64 + j + 1 : Nat) : Int); omega) (row_srt h.srt _)).mono ?_
  intro e w' hp
  rw [← hr] at hp
  have hf := put_fin h hi hj hr hm hA hv hDb hB hBs hrows u1 hp rfl
  refine ⟨hp.1, ?_, (hf.1.cell i).trans hv, (hf.1.cell 64).trans hf.2.1, hf.1.fro 64, hf.2.2.1, hf.2.2.2⟩
  obtain ⟨_, v', _, _, _, o4⟩ := hp
  refine hK.mut o4 ?_
  rintro (q | q)
  · subst q; rw [hDb] at hbk; cases hbk
  · have := u3 bk q; rw [this] at hbk; cases hbk
set_option maxRecDepth 100000 in
set_option maxHeartbeats 2000000 in
theorem put_old (w : World) (D : Nat → Option Nat) (S i j b : Nat) (L : List It) (A B : Array Value) (r c : Int) (x : Addr) (h : Hid (SW w D S L)) (hi : i < 64) (hj : j < 64) (hr : Hid (r = ((i * 64 + j + 1 : Nat) : Int))) (hm : mayC r c = true)
    (hA : Hid (Own w S A)) (hv : A[i]? = some (.pointer (some ⟨b, 0, none⟩))) (hDb : D b = some (1 + i)) (hB : Hid (Own w b B)) (hBs : B.size = 64)
    (hrows : Hid (∀ j, j < 64 → ∃ u, B[j]? = some u ∧ RowW w u (rowL L ((i * 64 + j + 1 : Nat) : Int)) ∧ ∀ g, u.ownBlock = some g → D g = some (65 + (i * 64 + j)))) :
    Calls Try.prog 14 #[.pointer (some ⟨S, 0, none⟩), .agg #[.int .i64 r, .int .i64 c], .pointer (some x)] w fun e w' => e = .returned (.int .i64 0) ∧ SOut w D S (putL L r c (some x)) w' := by
  have h1 := hA.out.lt
  have h2 : w.cell? ⟨S, i, none⟩ = some (.pointer (some ⟨b, 0, none⟩)) := (hA.out.cell i).trans hv
  have hi' : (i : Int) < 64 := by omega
  have hj' : (j : Int) < 64 := by omega
  have mixed : Try.prog.follows .mixedOrders = true := by kernel_rfl
  have hfew := all_few h.out.srt h.out.ins
  have hnD : D w.heap.size = none := by
    cases q : D w.heap.size with
    | none => rfl
    | some t => have := h.out.dom _ _ q; omega
  have HK : Hid (∀ w1, Below w.heap.size w w1 → Own w1 w.heap.size #[.int .i64 r, .int .i64 c] → Calls Try.prog 29 #[.pointer (some ⟨b, j, none⟩), .int .i64 c, .pointer (some x)] w1 fun e w' => e = .returned (.bool (!hasL L r c)) ∧ Own w' w.heap.size #[.int .i64 r, .int .i64 c] ∧ w'.cell? ⟨S, i, none⟩ = some (.pointer (some ⟨b, 0, none⟩)) ∧ w'.cell? ⟨S, 64, none⟩ = some (.int .i64 L.length) ∧ w'.frozen? ⟨S, 64, none⟩ = false ∧
      ((!hasL L r c) = true → SOut w D S (putL L r c (some x)) (w'.setCell ⟨S, 64, none⟩ (.int .i64 ((L.length : Int) + 1)))) ∧ ((!hasL L r c) = false → SOut w D S (putL L r c (some x)) w')) := fun w1 hb hO => by
    refine (rput_in w1 D S i j b L A B (.pointer none) r c (some x) (h.out.keep hb) hi hj hr.out hm (hA.out.keep hb) hv hDb (hB.out.keep hb) hBs (fun m hm2 => by
      obtain ⟨u, u1, u2, u3⟩ := hrows.out m hm2
      exact ⟨u, u1, u2.keep hb, u3⟩) w.heap.size _ hO hnD).mono ?_
    rintro e w' ⟨k1, k2, k3, k4, k5, k6, k7⟩
    exact ⟨k1, k2, k3, k4, k5, fun q => (k6 q).pre hb, fun q => (k7 q).pre hb⟩
  revert HK
  generalize SOut w D S (putL L r c (some x)) = PP
  generalize (!hasL L r c) = f
  generalize L.length = n at *
  intro HK
  clear hv hA hDb hB hBs hrows h hnD
  cases f
  · go_enter Try.func14, Try.ntmps14
    go_wp2_with (first | ((go_at_call 27; refine (may_any _ _ _).mono ?_; rintro e wa ⟨rfl, hbwa⟩; have hBwa : Below w.heap.size w wa := bup (by with_reducible (repeat' first | assumption | exact Below.refl _ _ | refine Below.drew ?_ | refine bdrewN ?_ _ | refine Below.setCell ?_ (by first | exact Nat.le_refl _ | (simp; done) | (simp; omega) | omega) _ | refine Below.alloc ?_ (by first | exact Nat.le_refl _ | (simp; done) | (simp; omega) | omega) _)) hbwa; have zwa := hBwa.size; have o0wa : Own wa (w.heap.size) #[.int .i64 r, .int .i64 c] := Own.keep (by with_reducible (repeat' first | assumption | refine Own.drew ?_ | refine Own.drewN ?_ _ | (refine Own.at ?_; first | rfl | (simp; done)) | refine Own.past ?_ _)) hbwa; have c0 := o0wa.cell; have f0 := o0wa.fro; have l0 := o0wa.lt; try rw [hm]); have y0 := (hBwa.cell (p := ⟨S, i, none⟩) h1).trans h2) | (go_at_call 28; refine (split_ij _ i j r hi hj hr.out).mono ?_; rintro e w5 ⟨rfl, rfl⟩))
    go_region_held3 (fun w' => w'.cell? ⟨S, i, none⟩ = some (.pointer (some ⟨b, 0, none⟩)) ∧ w'.cell? ⟨w.heap.size, 0, none⟩ = some (.int .i64 r) ∧ w'.cell? ⟨w.heap.size, 1, none⟩ = some (.int .i64 c)) ((repeat' apply And.intro) <;> (first | (go_keep; done) | (go_simp; done))) (first | (go_at_call 29; refine (HK.out _ (by with_reducible (repeat' first | assumption | exact Below.refl _ _ | refine Below.drew ?_ | refine bdrewN ?_ _ | refine Below.setCell ?_ (by first | exact Nat.le_refl _ | (simp; done) | (simp; omega) | omega) _ | refine Below.alloc ?_ (by first | exact Nat.le_refl _ | (simp; done) | (simp; omega) | omega) _)) (by with_reducible (repeat' first | assumption | refine Own.drew ?_ | refine Own.drewN ?_ _ | (refine Own.at ?_; first | rfl | (simp; done)) | refine Own.past ?_ _))).mono ?_; rintro e wb ⟨rfl, ob, k3, k4, k5, k6, k7⟩; have d1 := ob.cell; have K7 : Hid _ := k7 (by first | rfl | trivial); clear k6 k7))
    go_wp2
    all_goals (go_ret; exact ⟨rfl, K7.out⟩)
  · go_enter Try.func14, Try.ntmps14
    go_wp2_with (first | ((go_at_call 27; refine (may_any _ _ _).mono ?_; rintro e wa ⟨rfl, hbwa⟩; have hBwa : Below w.heap.size w wa := bup (by with_reducible (repeat' first | assumption | exact Below.refl _ _ | refine Below.drew ?_ | refine bdrewN ?_ _ | refine Below.setCell ?_ (by first | exact Nat.le_refl _ | (simp; done) | (simp; omega) | omega) _ | refine Below.alloc ?_ (by first | exact Nat.le_refl _ | (simp; done) | (simp; omega) | omega) _)) hbwa; have zwa := hBwa.size; have o0wa : Own wa (w.heap.size) #[.int .i64 r, .int .i64 c] := Own.keep (by with_reducible (repeat' first | assumption | refine Own.drew ?_ | refine Own.drewN ?_ _ | (refine Own.at ?_; first | rfl | (simp; done)) | refine Own.past ?_ _)) hbwa; have c0 := o0wa.cell; have f0 := o0wa.fro; have l0 := o0wa.lt; try rw [hm]); have y0 := (hBwa.cell (p := ⟨S, i, none⟩) h1).trans h2) | (go_at_call 28; refine (split_ij _ i j r hi hj hr.out).mono ?_; rintro e w5 ⟨rfl, rfl⟩))
    go_region_held3 (fun w' => w'.cell? ⟨S, i, none⟩ = some (.pointer (some ⟨b, 0, none⟩)) ∧ w'.cell? ⟨w.heap.size, 0, none⟩ = some (.int .i64 r) ∧ w'.cell? ⟨w.heap.size, 1, none⟩ = some (.int .i64 c)) ((repeat' apply And.intro) <;> (first | (go_keep; done) | (go_simp; done))) (first | (go_at_call 29; refine (HK.out _ (by with_reducible (repeat' first | assumption | exact Below.refl _ _ | refine Below.drew ?_ | refine bdrewN ?_ _ | refine Below.setCell ?_ (by first | exact Nat.le_refl _ | (simp; done) | (simp; omega) | omega) _ | refine Below.alloc ?_ (by first | exact Nat.le_refl _ | (simp; done) | (simp; omega) | omega) _)) (by with_reducible (repeat' first | assumption | refine Own.drew ?_ | refine Own.drewN ?_ _ | (refine Own.at ?_; first | rfl | (simp; done)) | refine Own.past ?_ _))).mono ?_; rintro e wb ⟨rfl, ob, k3, k4, k5, k6, k7⟩; have d1 := ob.cell; have K6 : Hid _ := k6 (by first | rfl | trivial); clear k6 k7))
    go_wp2
    all_goals (go_ret; exact ⟨rfl, K6.out⟩)
end Go.Proofs.Ytaafpfjmnhmalaa
