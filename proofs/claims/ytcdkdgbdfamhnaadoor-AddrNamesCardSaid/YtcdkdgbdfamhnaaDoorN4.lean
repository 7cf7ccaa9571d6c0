/- The contracts of NameRect (of package addr and of the document's answer): of every rectangle its name, of one that may not be the empty text. New memory alone is made. The condition (of addr's): the library's table of powers of ten lies as its initialiser lays it. -/
import Derived.Test.YtcdkdgbdfamhnaaDoorN3
import Derived.Test.YtcdkdgbdfamhnaaDoorA3
namespace Go.Proofs.YtcdkdgbdfamhnaaDoor
open Go.RowKit
set_option linter.all false
/-- A rectangle's name. -/
def nameR (t l b r : Int) : ByteArray := if mayR t l b r then nameS t l ++ ⟨#[58]⟩ ++ nameS b r else ⟨#[]⟩
theorem nameR_t {t l b r : Int} (h : mayR t l b r = true) : nameR t l b r = nameS t l ++ ⟨#[58]⟩ ++ nameS b r := by unfold nameR; rw [h]; rfl
theorem nameR_f {t l b r : Int} (h : mayR t l b r = false) : nameR t l b r = ⟨#[]⟩ := by unfold nameR; rw [h]; rfl
theorem nameS_size (r c : Int) : (nameS r c).size ≤ 6 := by
  cases h : mayC r c
  · rw [nameS_f h]; decide
  · rw [nameS_t h]
    have k := mayC_is h
    have a := colS_size c
    have b := digS_size r k.1 k.2.1
    rw [ByteArray.size_append]; omega
set_option maxHeartbeats 1000000 in
theorem rnameR1 (t l b r : Int) (w : World) (h : mayR t l b r = false) : Calls Tryd.prog 9 #[(.agg #[.int .i64 (t), .int .i64 (l), .int .i64 (b), .int .i64 (r)])] w fun e w' => e = .returned (.string ⟨#[]⟩) ∧ Below w.heap.size w w' := by
  go_enter Tryd.func9, Tryd.ntmps9
  go_wp2_with (go_at_call 20; refine (rmayR_any _ _ _ _ _).mono ?_; rintro e w1 ⟨rfl, hb⟩; have hB : Below w.heap.size w w1 := bup (by with_reducible (repeat' first | assumption | exact Below.refl _ _ | refine Below.drew ?_ | refine Below.setCell ?_ (by first | exact Nat.le_refl _ | (simp; done) | (simp; omega) | omega) _ | refine Below.alloc ?_ (by first | exact Nat.le_refl _ | (simp; done) | (simp; omega) | omega) _)) hb; have o0 : Own w1 (w.heap.size) #[.int .i64 (t), .int .i64 (l), .int .i64 (b), .int .i64 (r)] := Own.keep (by with_reducible (repeat' first | assumption | refine Own.drew ?_ | (refine Own.at ?_; first | rfl | (simp; done)) | refine Own.past ?_ _)) hb; have c0 := o0.cell; have f0 := o0.fro; have l0 := o0.lt)
  all_goals go_ret
  all_goals exact ⟨rfl, by with_reducible (repeat' first | assumption | exact Below.refl _ _ | refine Below.drew ?_ | refine Below.setCell ?_ (by first | exact Nat.le_refl _ | (simp; done) | (simp; omega) | omega) _ | refine Below.alloc ?_ (by first | exact Nat.le_refl _ | (simp; done) | (simp; omega) | omega) _)⟩
set_option maxHeartbeats 1000000 in
theorem rnameR2 (t l b r : Int) (w : World) (h : mayR t l b r = true) (hq : ¬ (9223372036854775807 < (nameS t l).size + 1)) (hq2 : ¬ (9223372036854775807 < (nameS t l).size + 1 + (nameS b r).size)) : Calls Tryd.prog 9 #[(.agg #[.int .i64 (t), .int .i64 (l), .int .i64 (b), .int .i64 (r)])] w fun e w' => e = .returned (.string (nameS t l ++ ⟨#[58]⟩ ++ nameS b r)) ∧ Below w.heap.size w w' := by
  go_enter Tryd.func9, Tryd.ntmps9
  go_wp2_with (first | (go_at_call 20; refine (rmayR_any _ _ _ _ _).mono ?_; rintro e w1 ⟨rfl, hb⟩; have hB : Below w.heap.size w w1 := bup (by with_reducible (repeat' first | assumption | exact Below.refl _ _ | refine Below.drew ?_ | refine Below.setCell ?_ (by first | exact Nat.le_refl _ | (simp; done) | (simp; omega) | omega) _ | refine Below.alloc ?_ (by first | exact Nat.le_refl _ | (simp; done) | (simp; omega) | omega) _)) hb; have o0 : Own w1 (w.heap.size) #[.int .i64 (t), .int .i64 (l), .int .i64 (b), .int .i64 (r)] := Own.keep (by with_reducible (repeat' first | assumption | refine Own.drew ?_ | (refine Own.at ?_; first | rfl | (simp; done)) | refine Own.past ?_ _)) hb; have c0 := o0.cell; have f0 := o0.fro; have l0 := o0.lt) | (go_at_call 7; refine (rname_any _ _ _).mono ?_; rintro e w1 ⟨rfl, hb⟩; have hB : Below w.heap.size w w1 := bup (by with_reducible (repeat' first | assumption | exact Below.refl _ _ | refine Below.drew ?_ | refine Below.setCell ?_ (by first | exact Nat.le_refl _ | (simp; done) | (simp; omega) | omega) _ | refine Below.alloc ?_ (by first | exact Nat.le_refl _ | (simp; done) | (simp; omega) | omega) _)) hb; have o0 : Own w1 (w.heap.size) #[.int .i64 (t), .int .i64 (l), .int .i64 (b), .int .i64 (r)] := Own.keep (by with_reducible (repeat' first | assumption | refine Own.drew ?_ | (refine Own.at ?_; first | rfl | (simp; done)) | refine Own.past ?_ _)) hb; have c0 := o0.cell; have f0 := o0.fro; have l0 := o0.lt))
  all_goals go_ret
  all_goals exact ⟨rfl, by with_reducible (repeat' first | assumption | exact Below.refl _ _ | refine Below.drew ?_ | refine Below.setCell ?_ (by first | exact Nat.le_refl _ | (simp; done) | (simp; omega) | omega) _ | refine Below.alloc ?_ (by first | exact Nat.le_refl _ | (simp; done) | (simp; omega) | omega) _)⟩
set_option maxHeartbeats 1000000 in
theorem nameR1 (t l b r : Int) (w : World) (h : mayR t l b r = false) : Calls Tryd.prog 8 #[(.agg #[.int .i64 (t), .int .i64 (l), .int .i64 (b), .int .i64 (r)])] w fun e w' => e = .returned (.string ⟨#[]⟩) ∧ Below w.heap.size w w' := by
  go_enter Tryd.func8, Tryd.ntmps8
  go_wp2_with (go_at_call 13; refine (mayR_any _ _ _ _ _).mono ?_; rintro e w1 ⟨rfl, hb⟩; have hB : Below w.heap.size w w1 := bup (by with_reducible (repeat' first | assumption | exact Below.refl _ _ | refine Below.drew ?_ | refine Below.setCell ?_ (by first | exact Nat.le_refl _ | (simp; done) | (simp; omega) | omega) _ | refine Below.alloc ?_ (by first | exact Nat.le_refl _ | (simp; done) | (simp; omega) | omega) _)) hb; have o0 : Own w1 (w.heap.size) #[.int .i64 (t), .int .i64 (l), .int .i64 (b), .int .i64 (r)] := Own.keep (by with_reducible (repeat' first | assumption | refine Own.drew ?_ | (refine Own.at ?_; first | rfl | (simp; done)) | refine Own.past ?_ _)) hb; have c0 := o0.cell; have f0 := o0.fro; have l0 := o0.lt)
  all_goals go_ret
  all_goals exact ⟨rfl, by with_reducible (repeat' first | assumption | exact Below.refl _ _ | refine Below.drew ?_ | refine Below.setCell ?_ (by first | exact Nat.le_refl _ | (simp; done) | (simp; omega) | omega) _ | refine Below.alloc ?_ (by first | exact Nat.le_refl _ | (simp; done) | (simp; omega) | omega) _)⟩
set_option maxHeartbeats 1000000 in
theorem nameR2 (t l b r : Int) (w : World) (hP : Pow w) (h : mayR t l b r = true) (hq : ¬ (9223372036854775807 < (nameS t l).size + 1)) (hq2 : ¬ (9223372036854775807 < (nameS t l).size + 1 + (nameS b r).size)) : Calls Tryd.prog 8 #[(.agg #[.int .i64 (t), .int .i64 (l), .int .i64 (b), .int .i64 (r)])] w fun e w' => e = .returned (.string (nameS t l ++ ⟨#[58]⟩ ++ nameS b r)) ∧ Below w.heap.size w w' := by
  go_enter Tryd.func8, Tryd.ntmps8
  go_wp2_with (first | (go_at_call 13; refine (mayR_any _ _ _ _ _).mono ?_; rintro e w1 ⟨rfl, hb⟩; have hB : Below w.heap.size w w1 := bup (by with_reducible (repeat' first | assumption | exact Below.refl _ _ | refine Below.drew ?_ | refine Below.setCell ?_ (by first | exact Nat.le_refl _ | (simp; done) | (simp; omega) | omega) _ | refine Below.alloc ?_ (by first | exact Nat.le_refl _ | (simp; done) | (simp; omega) | omega) _)) hb; have o0 : Own w1 (w.heap.size) #[.int .i64 (t), .int .i64 (l), .int .i64 (b), .int .i64 (r)] := Own.keep (by with_reducible (repeat' first | assumption | refine Own.drew ?_ | (refine Own.at ?_; first | rfl | (simp; done)) | refine Own.past ?_ _)) hb; have c0 := o0.cell; have f0 := o0.fro; have l0 := o0.lt) | (go_at_call 19; refine (corners_any _ _ _ _ _).mono ?_; rintro e w0 ⟨rfl, hb⟩; have hB : Below w.heap.size w w0 := bup (by with_reducible (repeat' first | assumption | exact Below.refl _ _ | refine Below.drew ?_ | refine Below.setCell ?_ (by first | exact Nat.le_refl _ | (simp; done) | (simp; omega) | omega) _ | refine Below.alloc ?_ (by first | exact Nat.le_refl _ | (simp; done) | (simp; omega) | omega) _)) hb; have z0 := hB.size))
  all_goals go_region_held3 (fun w' => w'.cell? ⟨w0.heap.size, 0, none⟩ = some (.int .i64 (t)) ∧ w'.cell? ⟨w0.heap.size, 1, none⟩ = some (.int .i64 (l)) ∧ w'.cell? ⟨w0.heap.size + 1, 0, none⟩ = some (.int .i64 (b)) ∧ w'.cell? ⟨w0.heap.size + 1, 1, none⟩ = some (.int .i64 (r))) ((repeat' apply And.intro) <;> (first | (go_keep; done) | (go_simp; done)))
    ((go_at_call 6; refine (name_any _ _ _ (by exact hP.stays (by with_reducible (repeat' first | assumption | exact Below.refl _ _ | refine Below.drew ?_ | refine Below.setCell ?_ (by first | exact Nat.le_refl _ | (simp; done) | (simp; omega) | omega) _ | refine Below.alloc ?_ (by first | exact Nat.le_refl _ | (simp; done) | (simp; omega) | omega) _)))).mono ?_; rintro e w1 ⟨rfl, hb⟩; have hB : Below w.heap.size w w1 := bup (by with_reducible (repeat' first | assumption | exact Below.refl _ _ | refine Below.drew ?_ | refine Below.setCell ?_ (by first | exact Nat.le_refl _ | (simp; done) | (simp; omega) | omega) _ | refine Below.alloc ?_ (by first | exact Nat.le_refl _ | (simp; done) | (simp; omega) | omega) _)) hb; have o0 : Own w1 (w0.heap.size) #[.int .i64 (t), .int .i64 (l)] := Own.keep (by with_reducible (repeat' first | assumption | refine Own.drew ?_ | (refine Own.at ?_; first | rfl | (simp; done)) | refine Own.past ?_ _)) hb; have c0 := o0.cell; have f0 := o0.fro; have l0 := o0.lt; have o1 : Own w1 (w0.heap.size + 1) #[.int .i64 (b), .int .i64 (r)] := Own.keep (by with_reducible (repeat' first | assumption | refine Own.drew ?_ | (refine Own.at ?_; first | rfl | (simp; done)) | refine Own.past ?_ _)) hb; have c1 := o1.cell; have f1 := o1.fro; have l1 := o1.lt))
  all_goals go_wp2
  all_goals go_ret
  all_goals exact ⟨rfl, by with_reducible (repeat' first | assumption | exact Below.refl _ _ | refine Below.drew ?_ | refine Below.setCell ?_ (by first | exact Nat.le_refl _ | (simp; done) | (simp; omega) | omega) _ | refine Below.alloc ?_ (by first | exact Nat.le_refl _ | (simp; done) | (simp; omega) | omega) _)⟩
theorem rnameR_any (t l b r : Int) (w : World)  : Calls Tryd.prog 9 #[(.agg #[.int .i64 (t), .int .i64 (l), .int .i64 (b), .int .i64 (r)])] w fun e w' => e = .returned (.string (nameR t l b r)) ∧ Below w.heap.size w w' := by
  cases h : mayR t l b r
  · rw [nameR_f h]; exact rnameR1 t l b r w h
  · have a := nameS_size t l
    have b' := nameS_size b r
    rw [nameR_t h]; exact rnameR2 t l b r w  h (by omega) (by omega)
theorem nameR_any (t l b r : Int) (w : World) (hP : Pow w) : Calls Tryd.prog 8 #[(.agg #[.int .i64 (t), .int .i64 (l), .int .i64 (b), .int .i64 (r)])] w fun e w' => e = .returned (.string (nameR t l b r)) ∧ Below w.heap.size w w' := by
  cases h : mayR t l b r
  · rw [nameR_f h]; exact nameR1 t l b r w h
  · have a := nameS_size t l
    have b' := nameS_size b r
    rw [nameR_t h]; exact nameR2 t l b r w hP h (by omega) (by omega)
end Go.Proofs.YtcdkdgbdfamhnaaDoor
