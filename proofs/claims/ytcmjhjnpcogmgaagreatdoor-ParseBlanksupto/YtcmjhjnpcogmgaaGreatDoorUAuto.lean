/- Tactic blocks that stand often, as lemmas with an automatic argument. -/
import Derived.Test.YtcmjhjnpcogmgaaGreatDoorRows
set_option linter.all false
theorem zq0 {P : Prop} (h : P := by first | assumption | (with_reducible (repeat' first | assumption | exact Below.refl _ _ | refine Below.drew ?_ | refine bdrewN ?_ _ | refine Below.setCell ?_ (by first | exact Nat.le_refl _ | (simp; done) | (simp; omega) | omega) _ | refine Below.alloc ?_ (by first | exact Nat.le_refl _ | (simp; done) | (simp; omega) | omega) _))) : P := h
theorem zq1 {P : Prop} (h : P := by with_reducible (repeat' first | assumption | exact Below.refl _ _ | refine Below.drew ?_ | refine bdrewN ?_ _ | refine Below.setCell ?_ (by first | exact Nat.le_refl _ | (simp; done) | (simp; omega) | omega) _ | refine Below.alloc ?_ (by first | exact Nat.le_refl _ | (simp; done) | (simp; omega) | omega) _)) : P := h
theorem zq2 {P : Prop} (h : P := by with_reducible (repeat' first | assumption | exact Below.refl _ _ | refine Below.drew ?_ | refine Below.setCell ?_ (by first | exact Nat.le_refl _ | (simp; done) | (simp; omega) | omega) _ | refine Below.alloc ?_ (by first | exact Nat.le_refl _ | (simp; done) | (simp; omega) | omega) _)) : P := h
theorem zq3 {P : Prop} (h : P := by with_reducible (repeat' first | assumption | exact Mut.refl _ _ | refine Mut.drew ?_ | refine Mut.drewN ?_ _ | refine Mut.alloc ?_ _ | refine Mut.set ?_ (by first | (simp; done) | (simp; omega) | (left; simp; done) | (right; simp; omega)) _)) : P := h
theorem zq4 {P : Prop} (h : P := by with_reducible (repeat' first | assumption | refine Own.drew ?_ | refine Own.drewN ?_ _ | (refine Own.at ?_; first | rfl | (simp; done)) | refine Own.past ?_ _ | refine Own.aside ?_ (by first | (simp; done) | (simp; omega) | omega) _)) : P := h
theorem zq5 {P : Prop} (h : P := by with_reducible (repeat' first | assumption | refine Own.drew ?_ | (refine Own.at ?_; first | rfl | (simp; done)) | refine Own.past ?_ _)) : P := h
theorem zq6 {P : Prop} (h : P := by with_reducible (repeat' first | assumption | refine Rf.Row.drew ?_ | refine Rf.Row.past ?_ _ | refine Rf.Row.drewN ?_ _)) : P := h
theorem zq7 {P : Prop} (h : P := by with_reducible (repeat' first | assumption | refine ownsRow_drew ?_ | refine World.ownsRow.alloc ?_ _)) : P := h
theorem zq8 {P : Prop} (h : P := by with_reducible (repeat' first | assumption | refine Rf.Row.drew ?_ | refine Rf.Row.past ?_ _)) : P := h
theorem zq9 {P : Prop} (h : P := by with_reducible (repeat' first | assumption | refine Row.drew ?_ | refine Row.past ?_ _)) : P := h
theorem zq10 {P : Prop} (h : P := by first | (simp; done) | (simp; omega) | (left; simp; done) | (right; simp; omega)) : P := h
theorem zq11 {P : Prop} (h : P := by first | exact Nat.le_refl _ | (simp; done) | (simp; omega) | omega) : P := h
theorem zq12 {P : Prop} (h : P := by first | rfl | (apply retB; simp; done) | (apply retB; simp; omega)) : P := h
theorem zq13 {P : Prop} (h : P := by first | (simp; done) | (simp; omega) | omega) : P := h
theorem zq14 {P : Prop} (h : P := by kernel_rfl) : P := h
theorem zq15 {P : Prop} (h : P := by assumption) : P := h
theorem zq16 {P : Prop} (h : P := by decide) : P := h
theorem zq17 {P : Prop} (h : P := by omega) : P := h
