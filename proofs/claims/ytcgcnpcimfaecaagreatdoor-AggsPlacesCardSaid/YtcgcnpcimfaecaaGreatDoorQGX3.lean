/- Plain facts of a rectangle's entries: as many as it has cells at most; those that are Blank and those that are not are all. No function. The contract of the document's MayRect: of every rectangle whether it may be. New memory alone is made. No condition. -/
import Derived.Test.YtcgcnpcimfaecaaGreatDoorQGX1
import Derived.Test.YtcgcnpcimfaecaaGreatDoorQAdA2
namespace Go.Proofs.YtcgcnpcimfaecaaGreatDoor
open Go.RowKit
set_option linter.all false
theorem ent_parts {r0 r1 r2 r3 : Int} {es : List En} {j : Nat} {x : En} (h : entA r0 r1 r2 r3 es j x = true) : (r0 ≤ x.r ∧ x.r ≤ r2 ∧ r1 ≤ x.k ∧ x.k ≤ r3) ∧ mayB x.t x.n x.s x.b x.c = true := by
  unfold entA at h
  simp only [Bool.and_eq_true] at h
  exact ⟨by simpa [Ad.inB] using h.1.1, h.1.2⟩
theorem ent_next {r0 r1 r2 r3 : Int} {es : List En} {j : Nat} {p x : En} (h : entA r0 r1 r2 r3 es (j + 1) x = true) (hp : es[j]? = some p) : p.r < x.r ∨ p.r = x.r ∧ p.k < x.k := by
  unfold entA at h
  simp only [Bool.and_eq_true, Nat.add_sub_cancel, hp] at h
  have q := h.2
  simp [Ad.befB] at q
  omega
theorem pos_le {r0 r1 r2 r3 : Int} {es : List En} (h : entsB r0 r1 r2 r3 es = true) : ∀ (j : Nat) (x : En), es[j]? = some x → (j : Int) ≤ (x.r - r0) * (r3 - r1 + 1) + (x.k - r1) := by
  intro j
  induction j with
  | zero =>
    intro x hx
    obtain ⟨⟨a1, _, a3, a4⟩, _⟩ := ent_parts ((ents_all _ _ _ _ _).1 h 0 x hx)
    have : 0 ≤ (x.r - r0) * (r3 - r1 + 1) := Int.mul_nonneg (by omega) (by omega)
    omega
  | succ j ih =>
    intro x hx
    have hj : j < es.length := by have := (List.getElem?_eq_some_iff.1 hx).1; omega
    have hp : es[j]? = some es[j] := List.getElem?_eq_getElem hj
    generalize es[j] = p at hp
    have hi := ih p hp
    obtain ⟨⟨a1, a2, a3, a4⟩, _⟩ := ent_parts ((ents_all _ _ _ _ _).1 h (j + 1) x hx)
    obtain ⟨⟨b1, b2, b3, b4⟩, _⟩ := ent_parts ((ents_all _ _ _ _ _).1 h j p hp)
    rcases ent_next ((ents_all _ _ _ _ _).1 h (j + 1) x hx) hp with g | ⟨g1, g2⟩
    · have e : (x.r - r0) * (r3 - r1 + 1) = (p.r - r0) * (r3 - r1 + 1) + (x.r - p.r) * (r3 - r1 + 1) := by rw [← Int.add_mul]; congr 1; omega
      have e2 : (r3 - r1 + 1) ≤ (x.r - p.r) * (r3 - r1 + 1) := by
        have := Int.mul_le_mul_of_nonneg_right (show (1 : Int) ≤ x.r - p.r by omega) (show 0 ≤ r3 - r1 + 1 by omega)
        rwa [Int.one_mul] at this
      omega
    · rw [← g1]; omega
theorem ents_fit {r0 r1 r2 r3 : Int} {es : List En} (h : entsB r0 r1 r2 r3 es = true) (h1 : r0 ≤ r2) (h2 : r1 ≤ r3) : (es.length : Int) ≤ (r2 - r0 + 1) * (r3 - r1 + 1) := by
  by_cases h0 : es.length = 0
  · rw [h0]; exact Int.mul_nonneg (by omega) (by omega)
  · have hj : es.length - 1 < es.length := by omega
    have hp : es[es.length - 1]? = some es[es.length - 1] := List.getElem?_eq_getElem hj
    generalize es[es.length - 1] = x at hp
    have hi := pos_le h _ x hp
    obtain ⟨⟨a1, a2, a3, a4⟩, _⟩ := ent_parts ((ents_all _ _ _ _ _).1 h _ x hp)
    have e : (x.r - r0) * (r3 - r1 + 1) ≤ (r2 - r0) * (r3 - r1 + 1) := Int.mul_le_mul_of_nonneg_right (by omega) (by omega)
    rw [Int.add_mul, Int.one_mul]
    omega
theorem sm_blank {x : En} (h : mayB x.t x.n x.s x.b x.c = true) : smE 0 0 ⟨#[]⟩ false 0 x = (x.t == 0) := by
  have q := of_decide_eq_true h
  unfold smE sameB
  rw [Bool.eq_iff_iff, decide_eq_true_iff, beq_iff_eq]
  constructor
  · intro g; exact g.1
  · intro g
    exact ⟨g, q.1 (by omega), q.2.1 (by omega), q.2.2.1 (by omega), q.2.2.2.1 (by omega)⟩
theorem cw_fil : ∀ {es : List En}, (∀ x ∈ es, mayB x.t x.n x.s x.b x.c = true) → cwI 0 0 ⟨#[]⟩ false 0 es + filI (es.map itE) = es.length
  | [], _ => rfl
  | x :: es, h => by
    have ih := cw_fil (es := es) (fun y hy => h y (List.mem_cons_of_mem _ hy))
    have e := sm_blank (h x List.mem_cons_self)
    unfold cwI filI at ih ⊢
    rw [List.map_cons, List.filter_cons, List.filter_cons, e, show (itE x).t = x.t from rfl]
    cases (x.t == 0)
    · simp only [Bool.not_false, if_true, Bool.false_eq_true, if_false, List.length_cons]; omega
    · simp only [Bool.not_true, if_true, Bool.false_eq_true, if_false, List.length_cons]; omega
theorem nums_fil : ∀ (l : List It), (numsI l).length ≤ filI l
  | [] => Nat.le_refl _
  | x :: l => by
    have ih := nums_fil l
    unfold numsI filI at ih ⊢
    rw [List.length_map] at ih ⊢
    rw [List.filter_cons, List.filter_cons]
    by_cases g : x.t = 1
    · rw [g]; simp; omega
    · have e : (x.t == 1) = false := by simpa using g
      rw [e]
      simp only [Bool.false_eq_true, if_false]
      split
      · rw [List.length_cons]; omega
      · exact ih
end Go.Proofs.YtcgcnpcimfaecaaGreatDoor
namespace Go.Proofs.YtcgcnpcimfaecaaGreatDoor.Ad
open Go.RowKit
set_option linter.all false
set_option maxHeartbeats 1000000 in
theorem rmayR1 (t l b r : Int) (w : World) (h1 : mayC t l = false) : Calls Tryz.prog 50 #[(.agg #[.int .i64 (t), .int .i64 (l), .int .i64 (b), .int .i64 (r)])] w fun e w' => e = .returned (.bool false) ∧ Below w.heap.size w w' := by
  go_enter Tryz.func50, Tryz.ntmps50
  go_wp2_with (go_at_call 75; refine (rmay_any _ _ _).mono ?_; rintro e w1 ⟨rfl, hb⟩; have hB : Below w.heap.size w w1 := bup (by with_reducible (repeat' first | assumption | exact Below.refl _ _ | refine Below.drew ?_ | refine Below.setCell ?_ (by first | exact Nat.le_refl _ | (simp; done) | (simp; omega) | omega) _ | refine Below.alloc ?_ (by first | exact Nat.le_refl _ | (simp; done) | (simp; omega) | omega) _)) hb; have o0 : Own w1 (w.heap.size) #[.int .i64 (t), .int .i64 (l), .int .i64 (b), .int .i64 (r)] := Own.keep (by with_reducible (repeat' first | assumption | refine Own.drew ?_ | (refine Own.at ?_; first | rfl | (simp; done)) | refine Own.past ?_ _)) hb; have c0 := o0.cell; have f0 := o0.fro; have l0 := o0.lt)
  all_goals go_ret
  all_goals exact ⟨rfl, by with_reducible (repeat' first | assumption | exact Below.refl _ _ | refine Below.drew ?_ | refine Below.setCell ?_ (by first | exact Nat.le_refl _ | (simp; done) | (simp; omega) | omega) _ | refine Below.alloc ?_ (by first | exact Nat.le_refl _ | (simp; done) | (simp; omega) | omega) _)⟩
set_option maxHeartbeats 1000000 in
theorem rmayR2 (t l b r : Int) (w : World) (h1 : mayC t l = true) (h2 : mayC b r = false) : Calls Tryz.prog 50 #[(.agg #[.int .i64 (t), .int .i64 (l), .int .i64 (b), .int .i64 (r)])] w fun e w' => e = .returned (.bool false) ∧ Below w.heap.size w w' := by
  go_enter Tryz.func50, Tryz.ntmps50
  go_wp2_with (go_at_call 75; refine (rmay_any _ _ _).mono ?_; rintro e w1 ⟨rfl, hb⟩; have hB : Below w.heap.size w w1 := bup (by with_reducible (repeat' first | assumption | exact Below.refl _ _ | refine Below.drew ?_ | refine Below.setCell ?_ (by first | exact Nat.le_refl _ | (simp; done) | (simp; omega) | omega) _ | refine Below.alloc ?_ (by first | exact Nat.le_refl _ | (simp; done) | (simp; omega) | omega) _)) hb; have o0 : Own w1 (w.heap.size) #[.int .i64 (t), .int .i64 (l), .int .i64 (b), .int .i64 (r)] := Own.keep (by with_reducible (repeat' first | assumption | refine Own.drew ?_ | (refine Own.at ?_; first | rfl | (simp; done)) | refine Own.past ?_ _)) hb; have c0 := o0.cell; have f0 := o0.fro; have l0 := o0.lt)
  all_goals go_ret
  all_goals exact ⟨rfl, by with_reducible (repeat' first | assumption | exact Below.refl _ _ | refine Below.drew ?_ | refine Below.setCell ?_ (by first | exact Nat.le_refl _ | (simp; done) | (simp; omega) | omega) _ | refine Below.alloc ?_ (by first | exact Nat.le_refl _ | (simp; done) | (simp; omega) | omega) _)⟩
set_option maxHeartbeats 1000000 in
theorem rmayR3 (t l b r : Int) (w : World) (h1 : mayC t l = true) (h2 : mayC b r = true) (h3 : decide (t ≤ b) = false) : Calls Tryz.prog 50 #[(.agg #[.int .i64 (t), .int .i64 (l), .int .i64 (b), .int .i64 (r)])] w fun e w' => e = .returned (.bool false) ∧ Below w.heap.size w w' := by
  go_enter Tryz.func50, Tryz.ntmps50
  go_wp2_with (go_at_call 75; refine (rmay_any _ _ _).mono ?_; rintro e w1 ⟨rfl, hb⟩; have hB : Below w.heap.size w w1 := bup (by with_reducible (repeat' first | assumption | exact Below.refl _ _ | refine Below.drew ?_ | refine Below.setCell ?_ (by first | exact Nat.le_refl _ | (simp; done) | (simp; omega) | omega) _ | refine Below.alloc ?_ (by first | exact Nat.le_refl _ | (simp; done) | (simp; omega) | omega) _)) hb; have o0 : Own w1 (w.heap.size) #[.int .i64 (t), .int .i64 (l), .int .i64 (b), .int .i64 (r)] := Own.keep (by with_reducible (repeat' first | assumption | refine Own.drew ?_ | (refine Own.at ?_; first | rfl | (simp; done)) | refine Own.past ?_ _)) hb; have c0 := o0.cell; have f0 := o0.fro; have l0 := o0.lt)
  all_goals go_ret
  all_goals exact ⟨rfl, by with_reducible (repeat' first | assumption | exact Below.refl _ _ | refine Below.drew ?_ | refine Below.setCell ?_ (by first | exact Nat.le_refl _ | (simp; done) | (simp; omega) | omega) _ | refine Below.alloc ?_ (by first | exact Nat.le_refl _ | (simp; done) | (simp; omega) | omega) _)⟩
set_option maxHeartbeats 1000000 in
theorem rmayR4 (t l b r : Int) (w : World) (h1 : mayC t l = true) (h2 : mayC b r = true) (h3 : t ≤ b) : Calls Tryz.prog 50 #[(.agg #[.int .i64 (t), .int .i64 (l), .int .i64 (b), .int .i64 (r)])] w fun e w' => e = .returned (.bool (decide (l ≤ r))) ∧ Below w.heap.size w w' := by
  go_enter Tryz.func50, Tryz.ntmps50
  go_wp2_with (go_at_call 75; refine (rmay_any _ _ _).mono ?_; rintro e w1 ⟨rfl, hb⟩; have hB : Below w.heap.size w w1 := bup (by with_reducible (repeat' first | assumption | exact Below.refl _ _ | refine Below.drew ?_ | refine Below.setCell ?_ (by first | exact Nat.le_refl _ | (simp; done) | (simp; omega) | omega) _ | refine Below.alloc ?_ (by first | exact Nat.le_refl _ | (simp; done) | (simp; omega) | omega) _)) hb; have o0 : Own w1 (w.heap.size) #[.int .i64 (t), .int .i64 (l), .int .i64 (b), .int .i64 (r)] := Own.keep (by with_reducible (repeat' first | assumption | refine Own.drew ?_ | (refine Own.at ?_; first | rfl | (simp; done)) | refine Own.past ?_ _)) hb; have c0 := o0.cell; have f0 := o0.fro; have l0 := o0.lt)
  all_goals go_ret
  all_goals exact ⟨rfl, by with_reducible (repeat' first | assumption | exact Below.refl _ _ | refine Below.drew ?_ | refine Below.setCell ?_ (by first | exact Nat.le_refl _ | (simp; done) | (simp; omega) | omega) _ | refine Below.alloc ?_ (by first | exact Nat.le_refl _ | (simp; done) | (simp; omega) | omega) _)⟩
theorem rmayR_any (t l b r : Int) (w : World) : Calls Tryz.prog 50 #[(.agg #[.int .i64 (t), .int .i64 (l), .int .i64 (b), .int .i64 (r)])] w fun e w' => e = .returned (.bool (mayR t l b r)) ∧ Below w.heap.size w w' := by
  cases h1 : mayC t l
  · rw [mayR_no1 h1]; exact rmayR1 t l b r w h1
  cases h2 : mayC b r
  · rw [mayR_no2 h2]; exact rmayR2 t l b r w h1 h2
  by_cases h3 : t ≤ b
  · rw [mayR_yes h1 h2 h3]; exact rmayR4 t l b r w h1 h2 h3
  · rw [mayR_no3 h3]; exact rmayR3 t l b r w h1 h2 (by simpa using h3)
end Go.Proofs.YtcgcnpcimfaecaaGreatDoor.Ad
