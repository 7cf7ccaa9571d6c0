/- The contracts of columnName and Name of package addr: of every column that may be its letters, of every cell its name, of one that may not be the empty text. New memory alone is made. The condition (of Name): the library's table of powers of ten lies as its initialiser lays it. -/
import Derived.Test.YtcdkdgbdfamhnaaDoorN2
import Derived.Test.YtcdkdgbdfamhnaaDoorShelfD
import Derived.Lib.AppendIntMem
import Derived.Lib.SmallJoins
import Derived.Lib.ItoaMem
import Derived.Laws.Runes
namespace Go.Proofs.YtcdkdgbdfamhnaaDoor
open Go.Shelf Go.RowKit Go.Sort Go.Lib Go.Joins
set_option linter.all false
theorem gPow : Tryd.prog.globalNamed "internal/strconv.uint64pow10" = some 1 := by kernel_rfl
/-- The library's table of powers of ten lies as it is laid. -/
abbrev Pow (w : World) : Prop := Lib.TabIs Tryd.prog w "internal/strconv.uint64pow10" .u64 Lib.pow10Tab
theorem Pow.stays {w w' : World} (h : Pow w) (hb : Below w.heap.size w w') : Pow w' := tab_stays gPow h hb (Nat.le_refl _)
theorem itoa_any (r : Int) (w : World) (h1 : 1 ≤ r) (h2 : r ≤ 4096) (hP : Pow w) : Calls Tryd.prog 15 #[.int .i64 r] w fun e w' => e = .returned (.string (digS r)) ∧ Below w.heap.size w w' := by
  refine (Any.strconv_Itoa Tryd.laysM171 r (by omega) (by omega) w hP).mono fun e w' ⟨he, k, os, hw⟩ => ⟨?_, by rw [hw]; exact below_grow _ w (Nat.le_refl _) k os⟩
  rw [he]
  unfold digS Lib.itoa
  rw [if_neg (by omega)]
theorem enc_fin : ∀ k : Fin 26, Utf8.encode (65 + (k.val : Int)) = ⟨#[UInt8.ofNat (65 + k.val)]⟩ := by decide +kernel
theorem enc_az (x : Int) (h1 : 65 ≤ x) (h2 : x ≤ 90) : Utf8.encode x = ⟨#[UInt8.ofNat x.toNat]⟩ := by
  have h := enc_fin ⟨(x - 65).toNat, by omega⟩
  have e1 : (65 : Int) + ((x - 65).toNat : Int) = x := by omega
  have e2 : 65 + (x - 65).toNat = x.toNat := by omega
  simp only [e1, e2] at h
  exact h
theorem colS_3 (n : Int) (h1 : 1 ≤ n) (h2 : n ≤ 26) : (⟨#[UInt8.ofNat (65 + (n - 1) % 26).toNat]⟩ : ByteArray) = colS n := by
  unfold colS colL
  rw [if_neg (by omega), if_pos (by omega), show (65 + (n - 1) % 26).toNat = 64 + n.toNat by omega]
theorem colS_4 (n : Int) (h1 : 26 < n) (h2 : n ≤ 256) : (⟨#[UInt8.ofNat (65 + (n - 1) / 26 - 1).toNat]⟩ : ByteArray) ++ (⟨#[UInt8.ofNat (65 + (n - 1) % 26).toNat]⟩ : ByteArray) = colS n := by
  unfold colS colL
  rw [if_neg (by omega), if_neg (by omega), show (65 + (n - 1) / 26 - 1).toNat = 64 + (n.toNat - 1) / 26 by omega, show (65 + (n - 1) % 26).toNat = 65 + (n.toNat - 1) % 26 by omega]
  exact app_list [_] [_]
set_option maxHeartbeats 1000000 in
theorem col1 (n : Int) (w : World) (h1 : 1 ≤ n) (h2 : n ≤ 26) : Calls Tryd.prog 14 #[.int .i64 n] w fun e w' => e = .returned (.string (colS n)) ∧ w' = w := by
  go_enter Tryd.func14, Tryd.ntmps14
  go_wp2
  all_goals go_ret
  all_goals exact ⟨retS ((enc_az _ (by omega) (by omega)).trans (colS_3 n h1 h2)), rfl⟩
set_option maxHeartbeats 1000000 in
theorem col2 (n : Int) (w : World) (h1 : 26 < n) (h2 : n ≤ 256) (hz : ((n - 1) / 26 == 0) = false) (hq : ¬ (9223372036854775807 < (Utf8.encode (65 + (n - 1) / 26 - 1)).size + (Utf8.encode (65 + (n - 1) % 26)).size)) : Calls Tryd.prog 14 #[.int .i64 n] w fun e w' => e = .returned (.string (colS n)) ∧ w' = w := by
  go_enter Tryd.func14, Tryd.ntmps14
  go_wp2
  all_goals go_ret
  all_goals exact ⟨retS (by rw [enc_az _ (by omega) (by omega), enc_az _ (by omega) (by omega)]; exact colS_4 n h1 h2), rfl⟩
theorem col_any (n : Int) (w : World) (h1 : 1 ≤ n) (h2 : n ≤ 256) : Calls Tryd.prog 14 #[.int .i64 n] w fun e w' => e = .returned (.string (colS n)) ∧ w' = w := by
  by_cases h : n ≤ 26
  · exact col1 n w h1 h
  · have a : (Utf8.encode (65 + (n - 1) / 26 - 1)).size = 1 := by rw [enc_az _ (by omega) (by omega)]; rfl
    have b : (Utf8.encode (65 + (n - 1) % 26)).size = 1 := by rw [enc_az _ (by omega) (by omega)]; rfl
    exact col2 n w (by omega) h2 (by simp; omega) (by rw [a, b]; decide)
theorem pow_drew {w : World} (h : Pow w) : Pow w.drew := h.stays (Below.refl _ _).drew
set_option maxHeartbeats 1000000 in
theorem name1 (r c : Int) (w : World) (h : mayC r c = false) : Calls Tryd.prog 6 #[(.agg #[.int .i64 (r), .int .i64 (c)])] w fun e w' => e = .returned (.string ⟨#[]⟩) ∧ Below w.heap.size w w' := by
  go_enter Tryd.func6, Tryd.ntmps6
  go_wp2_with (go_at_call 11; refine (may_any _ _ _).mono ?_; rintro e w1 ⟨rfl, hb⟩; have hB : Below w.heap.size w w1 := bup (by with_reducible (repeat' first | assumption | exact Below.refl _ _ | refine Below.drew ?_ | refine Below.setCell ?_ (by first | exact Nat.le_refl _ | (simp; done) | (simp; omega) | omega) _ | refine Below.alloc ?_ (by first | exact Nat.le_refl _ | (simp; done) | (simp; omega) | omega) _)) hb; have o0 : Own w1 (w.heap.size) #[.int .i64 (r), .int .i64 (c)] := Own.keep (by with_reducible (repeat' first | assumption | refine Own.drew ?_ | (refine Own.at ?_; first | rfl | (simp; done)) | refine Own.past ?_ _)) hb; have c0 := o0.cell; have f0 := o0.fro; have l0 := o0.lt)
  all_goals go_ret
  all_goals exact ⟨rfl, by with_reducible (repeat' first | assumption | exact Below.refl _ _ | refine Below.drew ?_ | refine Below.setCell ?_ (by first | exact Nat.le_refl _ | (simp; done) | (simp; omega) | omega) _ | refine Below.alloc ?_ (by first | exact Nat.le_refl _ | (simp; done) | (simp; omega) | omega) _)⟩
set_option maxHeartbeats 1000000 in
theorem name2 (r c : Int) (w : World) (hP : Pow w) (h : mayC r c = true) (k1 : 1 ≤ r) (k2 : r ≤ 4096) (k3 : 1 ≤ c) (k4 : c ≤ 256) (hq : ¬ (9223372036854775807 < (colS c).size + (digS r).size)) : Calls Tryd.prog 6 #[(.agg #[.int .i64 (r), .int .i64 (c)])] w fun e w' => e = .returned (.string (colS c ++ digS r)) ∧ Below w.heap.size w w' := by
  go_enter Tryd.func6, Tryd.ntmps6
  go_wp2_with (go_at_call 11; refine (may_any _ _ _).mono ?_; rintro e w1 ⟨rfl, hb⟩; have hB : Below w.heap.size w w1 := bup (by with_reducible (repeat' first | assumption | exact Below.refl _ _ | refine Below.drew ?_ | refine Below.setCell ?_ (by first | exact Nat.le_refl _ | (simp; done) | (simp; omega) | omega) _ | refine Below.alloc ?_ (by first | exact Nat.le_refl _ | (simp; done) | (simp; omega) | omega) _)) hb; have o0 : Own w1 (w.heap.size) #[.int .i64 (r), .int .i64 (c)] := Own.keep (by with_reducible (repeat' first | assumption | refine Own.drew ?_ | (refine Own.at ?_; first | rfl | (simp; done)) | refine Own.past ?_ _)) hb; have c0 := o0.cell; have f0 := o0.fro; have l0 := o0.lt; have hP1 := hP.stays hB)
  all_goals go_region_held3 (fun w' => w'.cell? ⟨w.heap.size, 0, none⟩ = some (.int .i64 (r)) ∧ w'.cell? ⟨w.heap.size, 1, none⟩ = some (.int .i64 (c))) ((repeat' apply And.intro) <;> (first | (go_keep; done) | (go_simp; done)))
    (first | (go_at_call 14; refine (col_any _ _ (by assumption) (by assumption)).mono ?_; rintro e w5 ⟨rfl, rfl⟩) | (go_at_call 15; refine (itoa_any _ _ (by assumption) (by assumption) (by with_reducible (first | assumption | exact pow_drew (by assumption)))).mono ?_; rintro e w1 ⟨rfl, hb⟩; have hB : Below w.heap.size w w1 := bup (by with_reducible (repeat' first | assumption | exact Below.refl _ _ | refine Below.drew ?_ | refine Below.setCell ?_ (by first | exact Nat.le_refl _ | (simp; done) | (simp; omega) | omega) _ | refine Below.alloc ?_ (by first | exact Nat.le_refl _ | (simp; done) | (simp; omega) | omega) _)) hb; have o0 : Own w1 (w.heap.size) #[.int .i64 (r), .int .i64 (c)] := Own.keep (by with_reducible (repeat' first | assumption | refine Own.drew ?_ | (refine Own.at ?_; first | rfl | (simp; done)) | refine Own.past ?_ _)) hb; have c0 := o0.cell; have f0 := o0.fro; have l0 := o0.lt; have hP1 := hP.stays hB))
  all_goals go_wp2
  all_goals go_ret
  all_goals exact ⟨rfl, by with_reducible (repeat' first | assumption | exact Below.refl _ _ | refine Below.drew ?_ | refine Below.setCell ?_ (by first | exact Nat.le_refl _ | (simp; done) | (simp; omega) | omega) _ | refine Below.alloc ?_ (by first | exact Nat.le_refl _ | (simp; done) | (simp; omega) | omega) _)⟩
theorem name_any (r c : Int) (w : World) (hP : Pow w) : Calls Tryd.prog 6 #[(.agg #[.int .i64 (r), .int .i64 (c)])] w fun e w' => e = .returned (.string (nameS r c)) ∧ Below w.heap.size w w' := by
  cases h : mayC r c
  · rw [nameS_f h]; exact name1 r c w h
  · obtain ⟨k1, k2, k3, k4⟩ := mayC_is h
    have a := colS_size c
    have b := digS_size r k1 k2
    rw [nameS_t h]; exact name2 r c w hP h k1 k2 k3 k4 (by omega)
end Go.Proofs.YtcdkdgbdfamhnaaDoor
