/- The contracts of the comparison of a seat with a cell, of crowd.find and crowd.get. New memory alone is made. -/
import Derived.Test.YtgojnijpjfdocaaGreatBBs
namespace Go.Proofs.YtgojnijpjfdocaaGreat
open Go.RowKit
set_option linter.all false
/-- What a block is: the bands' own (0), a crowd's row (1, its number), the looker of a cell (2), its rectangles' row (3). -/
abbrev Tag := Nat × Int × Int
def rOf (D : Nat → Option Tag) (g : Nat) : Int := match D g with | some (_, r, _) => r | none => 0
def cOf (D : Nat → Option Tag) (g : Nat) : Int := match D g with | some (_, _, c) => c | none => 0
/-- How a seat's cell stands to a cell. -/
def fC (D : Nat → Option Tag) (r c : Int) (s : Seat) : Int := cmpC (rOf D s.g) (cOf D s.g) r c
/-- The cells of the lookers that have a seat. -/
def SeesW (w : World) (D : Nat → Option Tag) (l : List Seat) : Prop := ∀ s ∈ l, s.g < w.heap.size ∧ w.cell? ⟨s.g, 0, none⟩ = some (.int .i64 (rOf D s.g)) ∧ w.cell? ⟨s.g, 1, none⟩ = some (.int .i64 (cOf D s.g))
theorem SeesW.keep {w w' : World} {D : Nat → Option Tag} {l : List Seat} (h : SeesW w D l) (hb : Below w.heap.size w w') : SeesW w' D l := fun s hs => by
  obtain ⟨h1, h2, h3⟩ := h s hs
  exact ⟨Nat.lt_of_lt_of_le h1 hb.size, (hb.cell (p := ⟨s.g, 0, none⟩) h1).trans h2, (hb.cell (p := ⟨s.g, 1, none⟩) h1).trans h3⟩
set_option maxRecDepth 100000 in
theorem fcmp_any (w : World) (g : Nat) (n a b r c : Int) (hg : g < w.heap.size) (h0 : w.cell? ⟨g, 0, none⟩ = some (.int .i64 a)) (h1 : w.cell? ⟨g, 1, none⟩ = some (.int .i64 b)) :
    Calls Tryz.prog 122 #[.agg #[.pointer (some ⟨g, 0, none⟩), .int .i64 n], .agg #[.int .i64 r, .int .i64 c]] w fun e w' => e = .returned (.int .i64 (cmpC a b r c)) ∧ Below w.heap.size w w' := by
  have mixed : Tryz.prog.follows .mixedOrders = true := by kernel_rfl
  have HO : Hid (∀ W, Calls Tryz.prog 34 #[.agg #[.int .i64 a, .int .i64 b], .agg #[.int .i64 r, .int .i64 c]] W fun e w' => e = .returned (.int .i64 (cmpC a b r c)) ∧ Below W.heap.size W w') := fun W => ocel_any a b r c W
  have hgn : ¬ g = w.heap.size := by omega
  have hgn1 : ¬ g = w.heap.size + 1 := by omega
  go_enter Tryz.func122, Tryz.ntmps122
  go_wp2
  go_region_held3 (fun w' => w'.cell? ⟨w.heap.size, 0, none⟩ = some (.pointer (some ⟨g, 0, none⟩)) ∧ w'.cell? ⟨w.heap.size, 1, none⟩ = some (.int .i64 n) ∧ w'.cell? ⟨w.heap.size + 1, 0, none⟩ = some (.int .i64 r) ∧ w'.cell? ⟨w.heap.size + 1, 1, none⟩ = some (.int .i64 c) ∧ w'.cell? ⟨g, 0, none⟩ = some (.int .i64 a) ∧ w'.cell? ⟨g, 1, none⟩ = some (.int .i64 b)) ((repeat' apply And.intro) <;> (first | (go_keep; done) | (go_simp; done))) ((go_at_call 34; refine (HO.out _).mono ?_; rintro e wa ⟨rfl, hbwa⟩; have hBwa : Below w.heap.size w wa := bup (by with_reducible (repeat' first | assumption | exact Below.refl _ _ | refine Below.drew ?_ | refine bdrewN ?_ _ | refine Below.setCell ?_ (by first | exact Nat.le_refl _ | (simp; done) | (simp; omega) | omega) _ | refine Below.alloc ?_ (by first | exact Nat.le_refl _ | (simp; done) | (simp; omega) | omega) _)) hbwa; have o1 : Own wa w.heap.size #[.pointer (some ⟨g, 0, none⟩), .int .i64 n] := Own.keep (by with_reducible (repeat' first | assumption | refine Own.drew ?_ | refine Own.drewN ?_ _ | (refine Own.at ?_; first | rfl | (simp; done)) | refine Own.past ?_ _)) hbwa; have o2 : Own wa (w.heap.size + 1) #[.int .i64 r, .int .i64 c] := Own.keep (by with_reducible (repeat' first | assumption | refine Own.drew ?_ | refine Own.drewN ?_ _ | (refine Own.at ?_; first | rfl | (simp; done)) | refine Own.past ?_ _)) hbwa; have c1 := o1.cell; have c2 := o2.cell; have x0 := (hBwa.cell (p := ⟨g, 0, none⟩) hg).trans h0; have x1 := (hBwa.cell (p := ⟨g, 1, none⟩) hg).trans h1))
  go_wp2
  go_ret
  exact ⟨rfl, hBwa⟩
theorem sees_cmp {w : World} {D : Nat → Option Tag} {l : List Seat} (h : SeesW w D l) (r c : Int) : (∀ W : World, Below w.heap.size w W → ∀ x ∈ l, Calls Tryz.prog 122 #[.agg #[.pointer (some ⟨x.g, 0, none⟩), .int .i64 x.n], .agg #[.int .i64 r, .int .i64 c]] W fun e w' => e = .returned (.int .i64 (fC D r c x)) ∧ Below W.heap.size W w') := fun W hb x hx => by
  obtain ⟨h1, h2, h3⟩ := (h.keep hb) x hx
  exact fcmp_any W x.g x.n _ _ r c h1 h2 h3
set_option maxRecDepth 100000 in
theorem find_any (w : World) (D : Nat → Option Tag) (v : Value) (l : List Seat) (r c : Int) (hv : Hid (RowS w v l)) (hl : l.length ≤ 4000000000000) (hS : Hid (MonoF (fC D r c) l)) (hD : Hid (SeesW w D l)) :
    Calls Tryz.prog 92 #[v, .agg #[.int .i64 r, .int .i64 c]] w fun e w' => e = .returned (.tuple #[.int .i64 (idxF (fC D r c) l), .bool (hasF (fC D r c) l)]) ∧ Below w.heap.size w w' := by
  obtain ⟨i, hi⟩ : ∃ i : Nat, i = idxF (fC D r c) l := ⟨_, rfl⟩
  obtain ⟨f, hf⟩ : ∃ f : Bool, f = hasF (fC D r c) l := ⟨_, rfl⟩
  have H : Hid (∀ W, Below w.heap.size w W → Calls Tryz.prog 121 #[v, .agg #[.int .i64 r, .int .i64 c], .func (.func 122) #[] #[]] W fun e w' => e = .returned (.tuple #[.int .i64 i, .bool f]) ∧ Below W.heap.size W w') := (show _ from fun W hb => by
    have := bs_anys W v l r c (fC D r c) (hv.out.keep hb) hl hS.out (sees_cmp (hD.out.keep hb) r c)
    rw [← hi, ← hf] at this
    exact this)
  rw [← hi, ← hf]
  clear hi hf
  go_enter Tryz.func92, Tryz.ntmps92
  go_wp2_with (go_at_call 121; refine (H.out _ (by with_reducible (repeat' first | assumption | exact Below.refl _ _ | refine Below.drew ?_ | refine bdrewN ?_ _ | refine Below.setCell ?_ (by first | exact Nat.le_refl _ | (simp; done) | (simp; omega) | omega) _ | refine Below.alloc ?_ (by first | exact Nat.le_refl _ | (simp; done) | (simp; omega) | omega) _))).mono ?_; rintro e wa ⟨rfl, hbwa⟩; have hBwa : Below w.heap.size w wa := bup (by with_reducible (repeat' first | assumption | exact Below.refl _ _ | refine Below.drew ?_ | refine bdrewN ?_ _ | refine Below.setCell ?_ (by first | exact Nat.le_refl _ | (simp; done) | (simp; omega) | omega) _ | refine Below.alloc ?_ (by first | exact Nat.le_refl _ | (simp; done) | (simp; omega) | omega) _)) hbwa)
  exact bodyPost_ret (v := .tuple #[.int .i64 i, .bool f]) (by simp [results, Tryz.results92, go_sem]) rfl ⟨rfl, hBwa⟩
/-- Whose seat there is. -/
def getG (D : Nat → Option Tag) (r c : Int) (l : List Seat) : Option Addr := (l.find? (fun s => decide (fC D r c s = 0))).map (fun s => ⟨s.g, 0, none⟩)
theorem getG_no {D : Nat → Option Tag} {r c : Int} {l : List Seat} (h : hasF (fC D r c) l = false) : getG D r c l = none := by
  unfold getG
  rw [List.find?_eq_none.2 (fun x hx => by
    unfold hasF at h
    rw [List.any_eq_false] at h
    exact h x hx)]
  rfl
theorem getG_yes {D : Nat → Option Tag} {r c : Int} {l : List Seat} (hS : MonoF (fC D r c) l) {x : Seat} (hx : l[idxF (fC D r c) l]? = some x) (h0 : fC D r c x = 0) : getG D r c l = some ⟨x.g, 0, none⟩ := by
  unfold getG
  have e : l.find? (fun s => decide (fC D r c s = 0)) = some x := by
    rw [parts hS]
    obtain ⟨h1, h2⟩ := List.getElem?_eq_some_iff.1 hx
    have e2 : geF (fC D r c) l = x :: l.drop (idxF (fC D r c) l + 1) := by
      rw [← drop_idx hS, ← h2]
      exact List.drop_eq_getElem_cons h1
    rw [e2, List.find?_append, List.find?_cons, show decide (fC D r c x = 0) = true from decide_eq_true h0]
    rw [List.find?_eq_none.2 (fun y hy => by
      have := of_decide_eq_true (List.mem_filter.1 hy).2
      simp; omega)]
    rfl
  rw [e]
  rfl
set_option maxRecDepth 100000 in
theorem get_any (w : World) (D : Nat → Option Tag) (v : Value) (l : List Seat) (r c : Int) (hv : Hid (RowS w v l)) (hl : l.length ≤ 4000000000000) (hS : Hid (MonoF (fC D r c) l)) (hD : Hid (SeesW w D l)) :
    Calls Tryz.prog 64 #[v, .agg #[.int .i64 r, .int .i64 c]] w fun e w' => e = .returned (.pointer (getG D r c l)) ∧ Below w.heap.size w w' := by
  have mixed : Tryz.prog.follows .mixedOrders = true := by kernel_rfl
  have H : Hid (∀ W, Below w.heap.size w W → Calls Tryz.prog 92 #[v, .agg #[.int .i64 r, .int .i64 c]] W fun e w' => e = .returned (.tuple #[.int .i64 (idxF (fC D r c) l), .bool (hasF (fC D r c) l)]) ∧ Below W.heap.size W w') := (show _ from fun W hb => find_any W D v l r c (hv.out.keep hb) hl hS (hD.out.keep hb))
  cases hh : hasF (fC D r c) l
  · rw [getG_no hh]
    rw [hh] at H
    generalize idxF (fC D r c) l = i at *
    go_enter Tryz.func64, Tryz.ntmps64
    go_wp2_with (go_at_call 92; refine (H.out _ (by with_reducible (repeat' first | assumption | exact Below.refl _ _ | refine Below.drew ?_ | refine bdrewN ?_ _ | refine Below.setCell ?_ (by first | exact Nat.le_refl _ | (simp; done) | (simp; omega) | omega) _ | refine Below.alloc ?_ (by first | exact Nat.le_refl _ | (simp; done) | (simp; omega) | omega) _))).mono ?_; rintro e wa ⟨rfl, hbwa⟩; have hBwa : Below w.heap.size w wa := bup (by with_reducible (repeat' first | assumption | exact Below.refl _ _ | refine Below.drew ?_ | refine bdrewN ?_ _ | refine Below.setCell ?_ (by first | exact Nat.le_refl _ | (simp; done) | (simp; omega) | omega) _ | refine Below.alloc ?_ (by first | exact Nat.le_refl _ | (simp; done) | (simp; omega) | omega) _)) hbwa)
    go_ret
    exact ⟨rfl, hBwa⟩
  · obtain ⟨x, hx, h0, hlt⟩ := has_idx hS.out hh
    rw [getG_yes hS.out hx h0]
    rw [hh] at H
    rcases hv.out.two with ⟨rfl, rfl⟩ | ⟨g, cap, cur, rfl, _, h1, h2, h3, h4, h5, h6⟩
    · simp at hlt
    · have y0 : w.cell? ⟨g, idxF (fC D r c) l * 2, none⟩ = some (.pointer (some ⟨x.g, 0, none⟩)) := row_cellsG Seat.len h2 h6 _ x 0 _ hx rfl
      clear h0 h2 h4 h5 h6 hx hh
      generalize idxF (fC D r c) l = i at *
      have HL : Hid (i < l.length) := hlt
      clear hS hD hv
      generalize l.length = n at *
      have hlt' : (i : Int) < n := by omega
      go_enter Tryz.func64, Tryz.ntmps64
      go_wp2_with (go_at_call 92; refine (H.out _ (by with_reducible (repeat' first | assumption | exact Below.refl _ _ | refine Below.drew ?_ | refine bdrewN ?_ _ | refine Below.setCell ?_ (by first | exact Nat.le_refl _ | (simp; done) | (simp; omega) | omega) _ | refine Below.alloc ?_ (by first | exact Nat.le_refl _ | (simp; done) | (simp; omega) | omega) _))).mono ?_; rintro e wa ⟨rfl, hbwa⟩; have hBwa : Below w.heap.size w wa := bup (by with_reducible (repeat' first | assumption | exact Below.refl _ _ | refine Below.drew ?_ | refine bdrewN ?_ _ | refine Below.setCell ?_ (by first | exact Nat.le_refl _ | (simp; done) | (simp; omega) | omega) _ | refine Below.alloc ?_ (by first | exact Nat.le_refl _ | (simp; done) | (simp; omega) | omega) _)) hbwa; have ya := (hBwa.cell (p := ⟨g, i * 2, none⟩) h1).trans y0)
      go_ret
      exact ⟨rfl, hBwa⟩
end Go.Proofs.YtgojnijpjfdocaaGreat
