/- The contracts of deps.mayRef and deps.refTo. New memory alone is made. -/
import Derived.Test.YtgojnijpjfdocaaGreatEC
namespace Go.Proofs.YtgojnijpjfdocaaGreat
open Go.RowKit
set_option linter.all false
set_option maxRecDepth 100000 in
theorem mayf_no (t l b q : Int) (w : World) (m : Bool) (hm : mayR t l b q = false) : Calls Tryz.prog 25 #[.agg #[.bool m, .int .i64 t, .int .i64 l, .int .i64 b, .int .i64 q]] w fun e w' => e = .returned (.bool false) ∧ Below w.heap.size w w' := by
  have HM : Hid (∀ W, Calls Tryz.prog 40 #[.agg #[.int .i64 t, .int .i64 l, .int .i64 b, .int .i64 q]] W fun e w' => e = .returned (.bool false) ∧ Below W.heap.size W w') := (show _ from fun W => by rw [← hm]; exact mayR_any t l b q W)
  clear hm
  go_enter Tryz.func25, Tryz.ntmps25
  go_wp2_with (go_at_call 40; refine (HM.out _).mono ?_; rintro e wa ⟨rfl, hba⟩; have hBa : Below w.heap.size w wa := bup (by with_reducible (repeat' first | assumption | exact Below.refl _ _ | refine Below.drew ?_ | refine bdrewN ?_ _ | refine Below.setCell ?_ (by first | exact Nat.le_refl _ | (simp; done) | (simp; omega) | omega) _ | refine Below.alloc ?_ (by first | exact Nat.le_refl _ | (simp; done) | (simp; omega) | omega) _)) hba; have oXa : Own wa w.heap.size #[.bool m, .int .i64 t, .int .i64 l, .int .i64 b, .int .i64 q] := Own.keep (by with_reducible (repeat' first | assumption | refine Own.drew ?_ | refine Own.drewN ?_ _ | (refine Own.at ?_; first | rfl | (simp; done)) | refine Own.past ?_ _)) hba; have oRa : Own wa (w.heap.size + 1) #[.int .i64 t, .int .i64 l, .int .i64 b, .int .i64 q] := Own.keep (by with_reducible (repeat' first | assumption | refine Own.drew ?_ | refine Own.drewN ?_ _ | (refine Own.at ?_; first | rfl | (simp; done)) | refine Own.past ?_ _)) hba; have cXa := oXa.cell; have cRa := oRa.cell; have lXa := oXa.lt; have lRa := oRa.lt; clear hba)
  go_ret
  exact ⟨rfl, by with_reducible (repeat' first | assumption | exact Below.refl _ _ | refine Below.drew ?_ | refine bdrewN ?_ _ | refine Below.setCell ?_ (by first | exact Nat.le_refl _ | (simp; done) | (simp; omega) | omega) _ | refine Below.alloc ?_ (by first | exact Nat.le_refl _ | (simp; done) | (simp; omega) | omega) _)⟩
set_option maxRecDepth 100000 in
theorem mayf_many (t l b q : Int) (w : World) (hm : mayR t l b q = true) : Calls Tryz.prog 25 #[.agg #[.bool true, .int .i64 t, .int .i64 l, .int .i64 b, .int .i64 q]] w fun e w' => e = .returned (.bool true) ∧ Below w.heap.size w w' := by
  have HM : Hid (∀ W, Calls Tryz.prog 40 #[.agg #[.int .i64 t, .int .i64 l, .int .i64 b, .int .i64 q]] W fun e w' => e = .returned (.bool true) ∧ Below W.heap.size W w') := (show _ from fun W => by rw [← hm]; exact mayR_any t l b q W)
  clear hm
  go_enter Tryz.func25, Tryz.ntmps25
  go_wp2_with (go_at_call 40; refine (HM.out _).mono ?_; rintro e wa ⟨rfl, hba⟩; have hBa : Below w.heap.size w wa := bup (by with_reducible (repeat' first | assumption | exact Below.refl _ _ | refine Below.drew ?_ | refine bdrewN ?_ _ | refine Below.setCell ?_ (by first | exact Nat.le_refl _ | (simp; done) | (simp; omega) | omega) _ | refine Below.alloc ?_ (by first | exact Nat.le_refl _ | (simp; done) | (simp; omega) | omega) _)) hba; have oXa : Own wa w.heap.size #[.bool true, .int .i64 t, .int .i64 l, .int .i64 b, .int .i64 q] := Own.keep (by with_reducible (repeat' first | assumption | refine Own.drew ?_ | refine Own.drewN ?_ _ | (refine Own.at ?_; first | rfl | (simp; done)) | refine Own.past ?_ _)) hba; have oRa : Own wa (w.heap.size + 1) #[.int .i64 t, .int .i64 l, .int .i64 b, .int .i64 q] := Own.keep (by with_reducible (repeat' first | assumption | refine Own.drew ?_ | refine Own.drewN ?_ _ | (refine Own.at ?_; first | rfl | (simp; done)) | refine Own.past ?_ _)) hba; have cXa := oXa.cell; have cRa := oRa.cell; have lXa := oXa.lt; have lRa := oRa.lt; clear hba)
  go_ret
  exact ⟨rfl, by with_reducible (repeat' first | assumption | exact Below.refl _ _ | refine Below.drew ?_ | refine bdrewN ?_ _ | refine Below.setCell ?_ (by first | exact Nat.le_refl _ | (simp; done) | (simp; omega) | omega) _ | refine Below.alloc ?_ (by first | exact Nat.le_refl _ | (simp; done) | (simp; omega) | omega) _)⟩
set_option maxRecDepth 100000 in
theorem mayf_row (t l b q : Int) (w : World) (hm : mayR t l b q = true) (h1 : ¬ t = b) : Calls Tryz.prog 25 #[.agg #[.bool false, .int .i64 t, .int .i64 l, .int .i64 b, .int .i64 q]] w fun e w' => e = .returned (.bool false) ∧ Below w.heap.size w w' := by
  have HM : Hid (∀ W, Calls Tryz.prog 40 #[.agg #[.int .i64 t, .int .i64 l, .int .i64 b, .int .i64 q]] W fun e w' => e = .returned (.bool true) ∧ Below W.heap.size W w') := (show _ from fun W => by rw [← hm]; exact mayR_any t l b q W)
  have h1' : (t == b) = false := by simpa using h1
  clear hm
  go_enter Tryz.func25, Tryz.ntmps25
  go_wp2_with (go_at_call 40; refine (HM.out _).mono ?_; rintro e wa ⟨rfl, hba⟩; have hBa : Below w.heap.size w wa := bup (by with_reducible (repeat' first | assumption | exact Below.refl _ _ | refine Below.drew ?_ | refine bdrewN ?_ _ | refine Below.setCell ?_ (by first | exact Nat.le_refl _ | (simp; done) | (simp; omega) | omega) _ | refine Below.alloc ?_ (by first | exact Nat.le_refl _ | (simp; done) | (simp; omega) | omega) _)) hba; have oXa : Own wa w.heap.size #[.bool false, .int .i64 t, .int .i64 l, .int .i64 b, .int .i64 q] := Own.keep (by with_reducible (repeat' first | assumption | refine Own.drew ?_ | refine Own.drewN ?_ _ | (refine Own.at ?_; first | rfl | (simp; done)) | refine Own.past ?_ _)) hba; have oRa : Own wa (w.heap.size + 1) #[.int .i64 t, .int .i64 l, .int .i64 b, .int .i64 q] := Own.keep (by with_reducible (repeat' first | assumption | refine Own.drew ?_ | refine Own.drewN ?_ _ | (refine Own.at ?_; first | rfl | (simp; done)) | refine Own.past ?_ _)) hba; have cXa := oXa.cell; have cRa := oRa.cell; have lXa := oXa.lt; have lRa := oRa.lt; clear hba)
  go_ret
  exact ⟨rfl, by with_reducible (repeat' first | assumption | exact Below.refl _ _ | refine Below.drew ?_ | refine bdrewN ?_ _ | refine Below.setCell ?_ (by first | exact Nat.le_refl _ | (simp; done) | (simp; omega) | omega) _ | refine Below.alloc ?_ (by first | exact Nat.le_refl _ | (simp; done) | (simp; omega) | omega) _)⟩
set_option maxRecDepth 100000 in
theorem mayf_col (t l b q : Int) (w : World) (hm : mayR t l b q = true) (h1 : t = b) (h2 : ¬ l = q) : Calls Tryz.prog 25 #[.agg #[.bool false, .int .i64 t, .int .i64 l, .int .i64 b, .int .i64 q]] w fun e w' => e = .returned (.bool false) ∧ Below w.heap.size w w' := by
  have HM : Hid (∀ W, Calls Tryz.prog 40 #[.agg #[.int .i64 t, .int .i64 l, .int .i64 b, .int .i64 q]] W fun e w' => e = .returned (.bool true) ∧ Below W.heap.size W w') := (show _ from fun W => by rw [← hm]; exact mayR_any t l b q W)
  have h1' : (t == b) = true := by simpa using h1
  have h2' : (l == q) = false := by simpa using h2
  clear h1
  clear hm
  go_enter Tryz.func25, Tryz.ntmps25
  go_wp2_with (go_at_call 40; refine (HM.out _).mono ?_; rintro e wa ⟨rfl, hba⟩; have hBa : Below w.heap.size w wa := bup (by with_reducible (repeat' first | assumption | exact Below.refl _ _ | refine Below.drew ?_ | refine bdrewN ?_ _ | refine Below.setCell ?_ (by first | exact Nat.le_refl _ | (simp; done) | (simp; omega) | omega) _ | refine Below.alloc ?_ (by first | exact Nat.le_refl _ | (simp; done) | (simp; omega) | omega) _)) hba; have oXa : Own wa w.heap.size #[.bool false, .int .i64 t, .int .i64 l, .int .i64 b, .int .i64 q] := Own.keep (by with_reducible (repeat' first | assumption | refine Own.drew ?_ | refine Own.drewN ?_ _ | (refine Own.at ?_; first | rfl | (simp; done)) | refine Own.past ?_ _)) hba; have oRa : Own wa (w.heap.size + 1) #[.int .i64 t, .int .i64 l, .int .i64 b, .int .i64 q] := Own.keep (by with_reducible (repeat' first | assumption | refine Own.drew ?_ | refine Own.drewN ?_ _ | (refine Own.at ?_; first | rfl | (simp; done)) | refine Own.past ?_ _)) hba; have cXa := oXa.cell; have cRa := oRa.cell; have lXa := oXa.lt; have lRa := oRa.lt; clear hba)
  go_ret
  exact ⟨rfl, by with_reducible (repeat' first | assumption | exact Below.refl _ _ | refine Below.drew ?_ | refine bdrewN ?_ _ | refine Below.setCell ?_ (by first | exact Nat.le_refl _ | (simp; done) | (simp; omega) | omega) _ | refine Below.alloc ?_ (by first | exact Nat.le_refl _ | (simp; done) | (simp; omega) | omega) _)⟩
set_option maxRecDepth 100000 in
theorem mayf_one (t l b q : Int) (w : World) (hm : mayR t l b q = true) (h1 : t = b) (h2 : l = q) : Calls Tryz.prog 25 #[.agg #[.bool false, .int .i64 t, .int .i64 l, .int .i64 b, .int .i64 q]] w fun e w' => e = .returned (.bool true) ∧ Below w.heap.size w w' := by
  have HM : Hid (∀ W, Calls Tryz.prog 40 #[.agg #[.int .i64 t, .int .i64 l, .int .i64 b, .int .i64 q]] W fun e w' => e = .returned (.bool true) ∧ Below W.heap.size W w') := (show _ from fun W => by rw [← hm]; exact mayR_any t l b q W)
  have h1' : (t == b) = true := by simpa using h1
  have h2' : (l == q) = true := by simpa using h2
  clear h1 h2
  clear hm
  go_enter Tryz.func25, Tryz.ntmps25
  go_wp2_with (go_at_call 40; refine (HM.out _).mono ?_; rintro e wa ⟨rfl, hba⟩; have hBa : Below w.heap.size w wa := bup (by with_reducible (repeat' first | assumption | exact Below.refl _ _ | refine Below.drew ?_ | refine bdrewN ?_ _ | refine Below.setCell ?_ (by first | exact Nat.le_refl _ | (simp; done) | (simp; omega) | omega) _ | refine Below.alloc ?_ (by first | exact Nat.le_refl _ | (simp; done) | (simp; omega) | omega) _)) hba; have oXa : Own wa w.heap.size #[.bool false, .int .i64 t, .int .i64 l, .int .i64 b, .int .i64 q] := Own.keep (by with_reducible (repeat' first | assumption | refine Own.drew ?_ | refine Own.drewN ?_ _ | (refine Own.at ?_; first | rfl | (simp; done)) | refine Own.past ?_ _)) hba; have oRa : Own wa (w.heap.size + 1) #[.int .i64 t, .int .i64 l, .int .i64 b, .int .i64 q] := Own.keep (by with_reducible (repeat' first | assumption | refine Own.drew ?_ | refine Own.drewN ?_ _ | (refine Own.at ?_; first | rfl | (simp; done)) | refine Own.past ?_ _)) hba; have cXa := oXa.cell; have cRa := oRa.cell; have lXa := oXa.lt; have lRa := oRa.lt; clear hba)
  go_ret
  exact ⟨rfl, by with_reducible (repeat' first | assumption | exact Below.refl _ _ | refine Below.drew ?_ | refine bdrewN ?_ _ | refine Below.setCell ?_ (by first | exact Nat.le_refl _ | (simp; done) | (simp; omega) | omega) _ | refine Below.alloc ?_ (by first | exact Nat.le_refl _ | (simp; done) | (simp; omega) | omega) _)⟩
theorem mayf_any (x : Rf) (w : World) : Calls Tryz.prog 25 #[.agg #[.bool x.m, .int .i64 x.t, .int .i64 x.l, .int .i64 x.b, .int .i64 x.q]] w fun e w' => e = .returned (.bool (mayF x)) ∧ Below w.heap.size w w' := by
  obtain ⟨m, t, l, b, q⟩ := x
  cases hm : mayR t l b q
  · have e : mayF ⟨m, t, l, b, q⟩ = false := by simp [mayF, hm]
    rw [e]; exact mayf_no t l b q w m hm
  · cases m
    · by_cases h1 : t = b
      · by_cases h2 : l = q
        · subst h1; subst h2
          have e : mayF ⟨false, t, l, t, l⟩ = true := by simp [mayF, hm]
          rw [e]; exact mayf_one t l t l w hm rfl rfl
        · have e : mayF ⟨false, t, l, b, q⟩ = false := by simp [mayF, h2]
          rw [e]; exact mayf_col t l b q w hm h1 h2
      · have e : mayF ⟨false, t, l, b, q⟩ = false := by simp [mayF, h1]
        rw [e]; exact mayf_row t l b q w hm h1
    · have e : mayF ⟨true, t, l, b, q⟩ = true := by simp [mayF, hm]
      rw [e]; exact mayf_many t l b q w hm
end Go.Proofs.YtgojnijpjfdocaaGreat
