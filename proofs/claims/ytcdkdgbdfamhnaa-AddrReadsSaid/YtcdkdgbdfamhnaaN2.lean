/- The contract of the document's Name: of every cell its name, of one that may not be the empty text. New memory alone is made. No condition. -/
import Derived.Test.YtcdkdgbdfamhnaaN1
namespace Go.Proofs.Ytcdkdgbdfamhnaa
open Go.RowKit
set_option linter.all false
/-- A cell's name. -/
def nameS (r c : Int) : ByteArray := if mayC r c then colS c ++ digS r else ⟨#[]⟩
theorem nameS_t {r c : Int} (h : mayC r c = true) : nameS r c = colS c ++ digS r := by unfold nameS; rw [h]; rfl
theorem nameS_f {r c : Int} (h : mayC r c = false) : nameS r c = ⟨#[]⟩ := by unfold nameS; rw [h]; rfl
theorem colS_size (c : Int) : (colS c).size ≤ 2 := by
  show (colL c.toNat).toArray.size ≤ 2
  unfold colL
  split
  · simp
  · split <;> simp
theorem digS_size (r : Int) (h1 : 1 ≤ r) (h2 : r ≤ 4096) : (digS r).size ≤ 4 := by
  show (Lib.decDigits r.toNat).toArray.size ≤ 4
  have := dec_len r.toNat (by omega) (by omega)
  simp; omega
set_option maxHeartbeats 1000000 in
theorem rname1 (r c : Int) (w : World) (h : mayC r c = false) : Calls Try.prog 21 #[(.agg #[.int .i64 (r), .int .i64 (c)])] w fun e w' => e = .returned (.string ⟨#[]⟩) ∧ Below w.heap.size w w' := by
  go_enter Try.func21, Try.ntmps21
  go_wp2_with (go_at_call 7; refine (rmay_any _ _ _).mono ?_; rintro e w1 ⟨rfl, hb⟩; have hB : Below w.heap.size w w1 := bup (by with_reducible (repeat' first | assumption | exact Below.refl _ _ | refine Below.drew ?_ | refine Below.setCell ?_ (by first | exact Nat.le_refl _ | (simp; done) | (simp; omega) | omega) _ | refine Below.alloc ?_ (by first | exact Nat.le_refl _ | (simp; done) | (simp; omega) | omega) _)) hb; have o0 : Own w1 (w.heap.size) #[.int .i64 (r), .int .i64 (c)] := Own.keep (by with_reducible (repeat' first | assumption | refine Own.drew ?_ | (refine Own.at ?_; first | rfl | (simp; done)) | refine Own.past ?_ _)) hb; have c0 := o0.cell; have f0 := o0.fro; have l0 := o0.lt)
  all_goals go_ret
  all_goals exact ⟨rfl, by with_reducible (repeat' first | assumption | exact Below.refl _ _ | refine Below.drew ?_ | refine Below.setCell ?_ (by first | exact Nat.le_refl _ | (simp; done) | (simp; omega) | omega) _ | refine Below.alloc ?_ (by first | exact Nat.le_refl _ | (simp; done) | (simp; omega) | omega) _)⟩
set_option maxHeartbeats 1000000 in
theorem rname2 (r c : Int) (w : World) (h : mayC r c = true) (k1 : 1 ≤ r) (k2 : r ≤ 4096) (k3 : 1 ≤ c) (k4 : c ≤ 256) (hq : ¬ (9223372036854775807 < (colS c).size + (digS r).size)) : Calls Try.prog 21 #[(.agg #[.int .i64 (r), .int .i64 (c)])] w fun e w' => e = .returned (.string (colS c ++ digS r)) ∧ Below w.heap.size w w' := by
  go_enter Try.func21, Try.ntmps21
  go_wp2_with (go_at_call 7; refine (rmay_any _ _ _).mono ?_; rintro e w1 ⟨rfl, hb⟩; have hB : Below w.heap.size w w1 := bup (by with_reducible (repeat' first | assumption | exact Below.refl _ _ | refine Below.drew ?_ | refine Below.setCell ?_ (by first | exact Nat.le_refl _ | (simp; done) | (simp; omega) | omega) _ | refine Below.alloc ?_ (by first | exact Nat.le_refl _ | (simp; done) | (simp; omega) | omega) _)) hb; have o0 : Own w1 (w.heap.size) #[.int .i64 (r), .int .i64 (c)] := Own.keep (by with_reducible (repeat' first | assumption | refine Own.drew ?_ | (refine Own.at ?_; first | rfl | (simp; done)) | refine Own.past ?_ _)) hb; have c0 := o0.cell; have f0 := o0.fro; have l0 := o0.lt)
  all_goals go_region_held3 (fun w' => w'.cell? ⟨w.heap.size, 0, none⟩ = some (.int .i64 (r)) ∧ w'.cell? ⟨w.heap.size, 1, none⟩ = some (.int .i64 (c))) ((repeat' apply And.intro) <;> (first | (go_keep; done) | (go_simp; done)))
    (first | (go_at_call 20; refine (rcol_any _ _ (by assumption) (by assumption)).mono ?_; rintro e w1 ⟨rfl, hb⟩; have hB : Below w.heap.size w w1 := bup (by with_reducible (repeat' first | assumption | exact Below.refl _ _ | refine Below.drew ?_ | refine Below.setCell ?_ (by first | exact Nat.le_refl _ | (simp; done) | (simp; omega) | omega) _ | refine Below.alloc ?_ (by first | exact Nat.le_refl _ | (simp; done) | (simp; omega) | omega) _)) hb; have o0 : Own w1 (w.heap.size) #[.int .i64 (r), .int .i64 (c)] := Own.keep (by with_reducible (repeat' first | assumption | refine Own.drew ?_ | (refine Own.at ?_; first | rfl | (simp; done)) | refine Own.past ?_ _)) hb; have c0 := o0.cell; have f0 := o0.fro; have l0 := o0.lt) | (go_at_call 23; refine (rdig_any _ _ (by assumption) (by assumption)).mono ?_; rintro e w5 ⟨rfl, rfl⟩))
  all_goals go_wp2
  all_goals go_ret
  all_goals exact ⟨rfl, by with_reducible (repeat' first | assumption | exact Below.refl _ _ | refine Below.drew ?_ | refine Below.setCell ?_ (by first | exact Nat.le_refl _ | (simp; done) | (simp; omega) | omega) _ | refine Below.alloc ?_ (by first | exact Nat.le_refl _ | (simp; done) | (simp; omega) | omega) _)⟩
theorem rname_any (r c : Int) (w : World) : Calls Try.prog 21 #[(.agg #[.int .i64 (r), .int .i64 (c)])] w fun e w' => e = .returned (.string (nameS r c)) ∧ Below w.heap.size w w' := by
  cases h : mayC r c
  · rw [nameS_f h]; exact rname1 r c w h
  · obtain ⟨k1, k2, k3, k4⟩ := mayC_is h
    have a := colS_size c
    have b := digS_size r k1 k2
    rw [nameS_t h]; exact rname2 r c w h k1 k2 k3 k4 (by omega)
end Go.Proofs.Ytcdkdgbdfamhnaa
