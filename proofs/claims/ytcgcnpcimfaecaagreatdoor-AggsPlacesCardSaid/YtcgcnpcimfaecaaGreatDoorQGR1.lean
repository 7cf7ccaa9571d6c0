/- The contracts of aggs.counted, count, rows, cols, countRows and countCols. New memory alone is made. The contract of aggs.cellsWith: how many cells of a rectangle have just a value. New memory alone is made. -/
import Derived.Test.YtcgcnpcimfaecaaGreatDoorQShelfA
import Derived.Test.YtcgcnpcimfaecaaGreatDoorQAdA5
import Derived.Test.YtcgcnpcimfaecaaGreatDoorQV3
namespace Go.Proofs.YtcgcnpcimfaecaaGreatDoor
open Go.RowKit
set_option linter.all false
theorem counted_any (n : Int) (w : World) (h0 : 0 ≤ n) (h40 : n ≤ 1099511627776) : Calls Tryz.prog 121 #[.int .i64 n] w fun e w' => e = .returned (.agg #[.int .i64 (1), .int .i64 ((n * 10000)), .string ⟨#[]⟩, .bool false, .int .i64 (0)]) ∧ Below w.heap.size w w' := by
  have hI : I64 (n * 10000) := (show -9223372036854775808 ≤ n * 10000 ∧ n * 10000 ≤ 9223372036854775807 by omega)
  have hN := fun W => num_t (n * 10000) W hI (by omega)
  go_enter Tryz.func121, Tryz.ntmps121
  go_wp2_with (go_at_call 115; refine (hN _).mono ?_; rintro e wb ⟨rfl, hbwb⟩; have hBwb : Below w.heap.size w wb := bup (by with_reducible (repeat' first | assumption | exact Below.refl _ _ | refine Below.drew ?_ | refine bdrewN ?_ _ | refine Below.setCell ?_ (by first | exact Nat.le_refl _ | (simp; done) | (simp; omega) | omega) _ | refine Below.alloc ?_ (by first | exact Nat.le_refl _ | (simp; done) | (simp; omega) | omega) _)) hbwb; have zwb := hBwb.size; have o0wb : Own wb (w.heap.size) #[.int .i64 0, .int .i64 0, .string ⟨#[]⟩, .bool false, .int .i64 0] := Own.keep (by with_reducible (repeat' first | assumption | refine Own.drew ?_ | refine Own.drewN ?_ _ | (refine Own.at ?_; first | rfl | (simp; done)) | refine Own.past ?_ _)) hbwb; have c0 := o0wb.cell; have f0 := o0wb.fro; have l0 := o0wb.lt)
  exact bodyPost_ret (v := (.agg #[.int .i64 (1), .int .i64 ((n * 10000)), .string ⟨#[]⟩, .bool false, .int .i64 (0)])) (by simp [results, Tryz.results121, go_sem, c0, f0, l0]) rfl ⟨rfl, by with_reducible (repeat' first | assumption | exact Below.refl _ _ | refine Below.drew ?_ | refine bdrewN ?_ _ | refine Below.setCell ?_ (by first | exact Nat.le_refl _ | (simp; done) | (simp; omega) | omega) _ | refine Below.alloc ?_ (by first | exact Nat.le_refl _ | (simp; done) | (simp; omega) | omega) _)⟩
theorem count_any (w : World) (p : Option Addr) (n c : Nat) (h40 : n ≤ 1099511627776) : Calls Tryz.prog 85 #[.slice p n c] w fun e w' => e = .returned (.agg #[.int .i64 (1), .int .i64 (((n : Int) * 10000)), .string ⟨#[]⟩, .bool false, .int .i64 (0)]) ∧ Below w.heap.size w w' := by
  have hN := fun W => counted_any (n : Int) W (by omega) (by omega)
  go_enter Tryz.func85, Tryz.ntmps85
  go_wp2_with (go_at_call 121; refine (hN _).mono ?_; rintro e wb ⟨rfl, hbwb⟩; have hBwb : Below w.heap.size w wb := bup (by with_reducible (repeat' first | assumption | exact Below.refl _ _ | refine Below.drew ?_ | refine bdrewN ?_ _ | refine Below.setCell ?_ (by first | exact Nat.le_refl _ | (simp; done) | (simp; omega) | omega) _ | refine Below.alloc ?_ (by first | exact Nat.le_refl _ | (simp; done) | (simp; omega) | omega) _)) hbwb; have zwb := hBwb.size; have o0wb : Own wb (w.heap.size) #[.int .i64 0, .int .i64 0, .string ⟨#[]⟩, .bool false, .int .i64 0] := Own.keep (by with_reducible (repeat' first | assumption | refine Own.drew ?_ | refine Own.drewN ?_ _ | (refine Own.at ?_; first | rfl | (simp; done)) | refine Own.past ?_ _)) hbwb; have c0 := o0wb.cell; have f0 := o0wb.fro; have l0 := o0wb.lt)
  exact bodyPost_ret (v := (.agg #[.int .i64 (1), .int .i64 (((n : Int) * 10000)), .string ⟨#[]⟩, .bool false, .int .i64 (0)])) (by simp [results, Tryz.results85, go_sem, c0, f0, l0]) rfl ⟨rfl, by with_reducible (repeat' first | assumption | exact Below.refl _ _ | refine Below.drew ?_ | refine bdrewN ?_ _ | refine Below.setCell ?_ (by first | exact Nat.le_refl _ | (simp; done) | (simp; omega) | omega) _ | refine Below.alloc ?_ (by first | exact Nat.le_refl _ | (simp; done) | (simp; omega) | omega) _)⟩
theorem rows_any (t l b r : Int) (w : World) (h1 : 0 ≤ t) (h2 : t ≤ 1099511627776) (h3 : 0 ≤ b) (h4 : b ≤ 1099511627776) : Calls Tryz.prog 131 #[.agg #[.int .i64 t, .int .i64 l, .int .i64 b, .int .i64 r]] w fun e w' => e = .returned (.int .i64 (b - t + 1)) ∧ Below w.heap.size w w' := by
  go_enter Tryz.func131, Tryz.ntmps131
  go_wp2
  go_ret
  exact ⟨rfl, by with_reducible (repeat' first | assumption | exact Below.refl _ _ | refine Below.drew ?_ | refine bdrewN ?_ _ | refine Below.setCell ?_ (by first | exact Nat.le_refl _ | (simp; done) | (simp; omega) | omega) _ | refine Below.alloc ?_ (by first | exact Nat.le_refl _ | (simp; done) | (simp; omega) | omega) _)⟩
theorem cols_any (t l b r : Int) (w : World) (h1 : 0 ≤ l) (h2 : l ≤ 1099511627776) (h3 : 0 ≤ r) (h4 : r ≤ 1099511627776) : Calls Tryz.prog 132 #[.agg #[.int .i64 t, .int .i64 l, .int .i64 b, .int .i64 r]] w fun e w' => e = .returned (.int .i64 (r - l + 1)) ∧ Below w.heap.size w w' := by
  go_enter Tryz.func132, Tryz.ntmps132
  go_wp2
  go_ret
  exact ⟨rfl, by with_reducible (repeat' first | assumption | exact Below.refl _ _ | refine Below.drew ?_ | refine bdrewN ?_ _ | refine Below.setCell ?_ (by first | exact Nat.le_refl _ | (simp; done) | (simp; omega) | omega) _ | refine Below.alloc ?_ (by first | exact Nat.le_refl _ | (simp; done) | (simp; omega) | omega) _)⟩
theorem crows_any (w : World) (ab ao an ac : Nat) (uq : Option Addr) (un uc : Nat) (x t l b r : Int) (hab : ab < w.heap.size) (han : 0 < an) (y6 : w.cell? ⟨ab, ao + 6, none⟩ = some (.int .i64 t)) (y7 : w.cell? ⟨ab, ao + 7, none⟩ = some (.int .i64 l)) (y8 : w.cell? ⟨ab, ao + 8, none⟩ = some (.int .i64 b)) (y9 : w.cell? ⟨ab, ao + 9, none⟩ = some (.int .i64 r)) (h1 : 0 ≤ t) (h2 : t ≤ b) (h3 : b ≤ 1099511627775) : Calls Tryz.prog 95 #[.agg #[.slice (some ⟨ab, ao, none⟩) an ac, .slice uq un uc, .int .i64 x]] w fun e w' => e = .returned (.agg #[.int .i64 (1), .int .i64 (((b - t + 1) * 10000)), .string ⟨#[]⟩, .bool false, .int .i64 (0)]) ∧ Below w.heap.size w w' := by
  have mixed : Tryz.prog.follows .mixedOrders = true := by kernel_rfl
  have hA := fun W => rows_any t l b r W h1 (by omega) (by omega) (by omega)
  have hB := fun W => counted_any (b - t + 1) W (by omega) (by omega)
  have han' : (0 : Int) < (an : Int) := by omega
  go_enter Tryz.func95, Tryz.ntmps95
  go_wp2_with (first | (go_at_call 131; refine (hA _).mono ?_; rintro e wa ⟨rfl, hbwa⟩; have hBwa : Below w.heap.size w wa := bup (by with_reducible (repeat' first | assumption | exact Below.refl _ _ | refine Below.drew ?_ | refine bdrewN ?_ _ | refine Below.setCell ?_ (by first | exact Nat.le_refl _ | (simp; done) | (simp; omega) | omega) _ | refine Below.alloc ?_ (by first | exact Nat.le_refl _ | (simp; done) | (simp; omega) | omega) _)) hbwa; have zwa := hBwa.size; have o0wa : Own wa (w.heap.size) #[.slice (some ⟨ab, ao, none⟩) an ac, .slice uq un uc, .int .i64 x] := Own.keep (by with_reducible (repeat' first | assumption | refine Own.drew ?_ | refine Own.drewN ?_ _ | (refine Own.at ?_; first | rfl | (simp; done)) | refine Own.past ?_ _)) hbwa; have c0 := o0wa.cell; have f0 := o0wa.fro; have l0 := o0wa.lt; have o1wa : Own wa (w.heap.size + 1) #[.int .i64 0, .int .i64 0, .string ⟨#[]⟩, .bool false, .int .i64 0] := Own.keep (by with_reducible (repeat' first | assumption | refine Own.drew ?_ | refine Own.drewN ?_ _ | (refine Own.at ?_; first | rfl | (simp; done)) | refine Own.past ?_ _)) hbwa; have c1 := o1wa.cell; have f1 := o1wa.fro; have l1 := o1wa.lt) | (go_at_call 121; refine (hB _).mono ?_; rintro e wb ⟨rfl, hbwb⟩; have hBwb : Below w.heap.size w wb := bup (by with_reducible (repeat' first | assumption | exact Below.refl _ _ | refine Below.drew ?_ | refine bdrewN ?_ _ | refine Below.setCell ?_ (by first | exact Nat.le_refl _ | (simp; done) | (simp; omega) | omega) _ | refine Below.alloc ?_ (by first | exact Nat.le_refl _ | (simp; done) | (simp; omega) | omega) _)) hbwb; have zwb := hBwb.size; have o0wb : Own wb (w.heap.size + 1) #[.int .i64 0, .int .i64 0, .string ⟨#[]⟩, .bool false, .int .i64 0] := Own.keep (by with_reducible (repeat' first | assumption | refine Own.drew ?_ | refine Own.drewN ?_ _ | (refine Own.at ?_; first | rfl | (simp; done)) | refine Own.past ?_ _)) hbwb; have c0 := o0wb.cell; have f0 := o0wb.fro; have l0 := o0wb.lt))
  exact bodyPost_ret (v := (.agg #[.int .i64 (1), .int .i64 (((b - t + 1) * 10000)), .string ⟨#[]⟩, .bool false, .int .i64 (0)])) (by simp [results, Tryz.results95, go_sem, c0, f0, l0]) rfl ⟨rfl, by with_reducible (repeat' first | assumption | exact Below.refl _ _ | refine Below.drew ?_ | refine bdrewN ?_ _ | refine Below.setCell ?_ (by first | exact Nat.le_refl _ | (simp; done) | (simp; omega) | omega) _ | refine Below.alloc ?_ (by first | exact Nat.le_refl _ | (simp; done) | (simp; omega) | omega) _)⟩
theorem ccols_any (w : World) (ab ao an ac : Nat) (uq : Option Addr) (un uc : Nat) (x t l b r : Int) (hab : ab < w.heap.size) (han : 0 < an) (y6 : w.cell? ⟨ab, ao + 6, none⟩ = some (.int .i64 t)) (y7 : w.cell? ⟨ab, ao + 7, none⟩ = some (.int .i64 l)) (y8 : w.cell? ⟨ab, ao + 8, none⟩ = some (.int .i64 b)) (y9 : w.cell? ⟨ab, ao + 9, none⟩ = some (.int .i64 r)) (h1 : 0 ≤ l) (h2 : l ≤ r) (h3 : r ≤ 1099511627775) : Calls Tryz.prog 96 #[.agg #[.slice (some ⟨ab, ao, none⟩) an ac, .slice uq un uc, .int .i64 x]] w fun e w' => e = .returned (.agg #[.int .i64 (1), .int .i64 (((r - l + 1) * 10000)), .string ⟨#[]⟩, .bool false, .int .i64 (0)]) ∧ Below w.heap.size w w' := by
  have mixed : Tryz.prog.follows .mixedOrders = true := by kernel_rfl
  have hA := fun W => cols_any t l b r W h1 (by omega) (by omega) (by omega)
  have hB := fun W => counted_any (r - l + 1) W (by omega) (by omega)
  have han' : (0 : Int) < (an : Int) := by omega
  go_enter Tryz.func96, Tryz.ntmps96
  go_wp2_with (first | (go_at_call 132; refine (hA _).mono ?_; rintro e wa ⟨rfl, hbwa⟩; have hBwa : Below w.heap.size w wa := bup (by with_reducible (repeat' first | assumption | exact Below.refl _ _ | refine Below.drew ?_ | refine bdrewN ?_ _ | refine Below.setCell ?_ (by first | exact Nat.le_refl _ | (simp; done) | (simp; omega) | omega) _ | refine Below.alloc ?_ (by first | exact Nat.le_refl _ | (simp; done) | (simp; omega) | omega) _)) hbwa; have zwa := hBwa.size; have o0wa : Own wa (w.heap.size) #[.slice (some ⟨ab, ao, none⟩) an ac, .slice uq un uc, .int .i64 x] := Own.keep (by with_reducible (repeat' first | assumption | refine Own.drew ?_ | refine Own.drewN ?_ _ | (refine Own.at ?_; first | rfl | (simp; done)) | refine Own.past ?_ _)) hbwa; have c0 := o0wa.cell; have f0 := o0wa.fro; have l0 := o0wa.lt; have o1wa : Own wa (w.heap.size + 1) #[.int .i64 0, .int .i64 0, .string ⟨#[]⟩, .bool false, .int .i64 0] := Own.keep (by with_reducible (repeat' first | assumption | refine Own.drew ?_ | refine Own.drewN ?_ _ | (refine Own.at ?_; first | rfl | (simp; done)) | refine Own.past ?_ _)) hbwa; have c1 := o1wa.cell; have f1 := o1wa.fro; have l1 := o1wa.lt) | (go_at_call 121; refine (hB _).mono ?_; rintro e wb ⟨rfl, hbwb⟩; have hBwb : Below w.heap.size w wb := bup (by with_reducible (repeat' first | assumption | exact Below.refl _ _ | refine Below.drew ?_ | refine bdrewN ?_ _ | refine Below.setCell ?_ (by first | exact Nat.le_refl _ | (simp; done) | (simp; omega) | omega) _ | refine Below.alloc ?_ (by first | exact Nat.le_refl _ | (simp; done) | (simp; omega) | omega) _)) hbwb; have zwb := hBwb.size; have o0wb : Own wb (w.heap.size + 1) #[.int .i64 0, .int .i64 0, .string ⟨#[]⟩, .bool false, .int .i64 0] := Own.keep (by with_reducible (repeat' first | assumption | refine Own.drew ?_ | refine Own.drewN ?_ _ | (refine Own.at ?_; first | rfl | (simp; done)) | refine Own.past ?_ _)) hbwb; have c0 := o0wb.cell; have f0 := o0wb.fro; have l0 := o0wb.lt))
  exact bodyPost_ret (v := (.agg #[.int .i64 (1), .int .i64 (((r - l + 1) * 10000)), .string ⟨#[]⟩, .bool false, .int .i64 (0)])) (by simp [results, Tryz.results96, go_sem, c0, f0, l0]) rfl ⟨rfl, by with_reducible (repeat' first | assumption | exact Below.refl _ _ | refine Below.drew ?_ | refine bdrewN ?_ _ | refine Below.setCell ?_ (by first | exact Nat.le_refl _ | (simp; done) | (simp; omega) | omega) _ | refine Below.alloc ?_ (by first | exact Nat.le_refl _ | (simp; done) | (simp; omega) | omega) _)⟩
end Go.Proofs.YtcgcnpcimfaecaaGreatDoor
namespace Go.Proofs.YtcgcnpcimfaecaaGreatDoor
open Go.RowKit
set_option linter.all false
def smE (t k : Int) (s : ByteArray) (q : Bool) (d : Int) (x : En) : Bool := sameB x.t x.n x.s x.b x.c t k s q d
def cwI (t k : Int) (s : ByteArray) (q : Bool) (d : Int) (l : List En) : Nat := (l.filter (smE t k s q d)).length
theorem cw_snoc {t k : Int} {s : ByteArray} {q : Bool} {d : Int} {l : List En} {i : Nat} {x : En} (h : l[i]? = some x) : cwI t k s q d (l.take (i + 1)) = cwI t k s q d (l.take i) + (if smE t k s q d x then 1 else 0) := by
  unfold cwI
  rw [List.take_succ, h, Option.toList_some, List.filter_append, List.length_append]
  congr 1
  simp only [List.filter_cons, List.filter_nil]
  split <;> rfl
theorem cw_le (t k : Int) (s : ByteArray) (q : Bool) (d : Int) (l : List En) : cwI t k s q d l ≤ l.length := List.length_filter_le ..
set_option maxRecDepth 100000 in
set_option maxHeartbeats 2000000 in
theorem cw_y (w : World) (m : Bool) (t0 n0 : Int) (s0 : ByteArray) (b0 : Bool) (c0' r0 r1 r2 r3 : Int) (b o n c : Nat) (l : List En) (k : Int) (s : ByteArray) (q : Bool) (d : Int) (hla : b < w.heap.size) (HA : ∀ i x, l[i]? = some x → ∀ j, j < 7 → w.cell? ⟨b, o + i * 7 + j, none⟩ = (En.cells x)[j]?) (hn : l.length = n) (hc : n ≤ c) (h0 : 0 < n) (hl : n ≤ 1099511627776) (h1 : 0 ≤ r0) (h2 : r0 ≤ r2) (h3 : r2 ≤ 1048576) (h4 : 0 ≤ r1) (h5 : r1 ≤ r3) (h6 : r3 ≤ 1048576) : Calls Tryz.prog 122 #[.agg #[.bool m, .int .i64 t0, .int .i64 n0, .string s0, .bool b0, .int .i64 c0', .int .i64 r0, .int .i64 r1, .int .i64 r2, .int .i64 r3, .slice (some ⟨b, o, none⟩) n c], .agg #[.int .i64 0, .int .i64 k, .string s, .bool q, .int .i64 d]] w fun e w' => e = .returned (.int .i64 ((r2 - r0 + 1) * (r3 - r1 + 1) - n + cwI 0 k s q d l)) ∧ Below w.heap.size w w' := by
  have mixed : Tryz.prog.follows .mixedOrders = true := by kernel_rfl
  have HA' : Hid _ := HA
  have HL : Hid (l.length = n) := hn
  clear HA hn
  have hA := fun W => rows_any r0 r1 r2 r3 W h1 (by omega) (by omega) (by omega)
  have hB := fun W => cols_any r0 r1 r2 r3 W h4 (by omega) (by omega) (by omega)
  have hp0 : 0 ≤ (r2 - r0 + 1) * (r3 - r1 + 1) := Int.mul_nonneg (by omega) (by omega)
  have hp1 : (r2 - r0 + 1) * (r3 - r1 + 1) ≤ 1099514675202 := Int.le_trans (Int.mul_le_mul (show r2 - r0 + 1 ≤ 1048577 by omega) (show r3 - r1 + 1 ≤ 1048577 by omega) (by omega) (by omega)) (by decide)
  generalize r2 - r0 + 1 = RR at hA hp0 hp1 ⊢
  generalize r3 - r1 + 1 = KK at hB hp0 hp1 ⊢
  go_enter Tryz.func122, Tryz.ntmps122
  go_wp2
  go_region_held3 (fun w' => w'.cell? ⟨w.heap.size, 6, none⟩ = some (.int .i64 r0) ∧ w'.cell? ⟨w.heap.size, 7, none⟩ = some (.int .i64 r1) ∧ w'.cell? ⟨w.heap.size, 8, none⟩ = some (.int .i64 r2) ∧ w'.cell? ⟨w.heap.size, 9, none⟩ = some (.int .i64 r3) ∧ w'.cell? ⟨w.heap.size, 10, none⟩ = some (.slice (some ⟨b, o, none⟩) n c)) ((repeat' apply And.intro) <;> (first | (go_keep; done) | (go_simp; done))) (first | (go_at_call 131; refine (hA _).mono ?_; rintro e wa ⟨rfl, hbwa⟩; have hBwa : Below w.heap.size w wa := bup (by with_reducible (repeat' first | assumption | exact Below.refl _ _ | refine Below.drew ?_ | refine bdrewN ?_ _ | refine Below.setCell ?_ (by first | exact Nat.le_refl _ | (simp; done) | (simp; omega) | omega) _ | refine Below.alloc ?_ (by first | exact Nat.le_refl _ | (simp; done) | (simp; omega) | omega) _)) hbwa; have zwa := hBwa.size; have o0wa : Own wa (w.heap.size) #[.bool m, .int .i64 t0, .int .i64 n0, .string s0, .bool b0, .int .i64 c0', .int .i64 r0, .int .i64 r1, .int .i64 r2, .int .i64 r3, .slice (some ⟨b, o, none⟩) n c] := Own.keep (by with_reducible (repeat' first | assumption | refine Own.drew ?_ | refine Own.drewN ?_ _ | (refine Own.at ?_; first | rfl | (simp; done)) | refine Own.past ?_ _)) hbwa; have c0 := o0wa.cell; have f0 := o0wa.fro; have l0 := o0wa.lt; have o1wa : Own wa (w.heap.size + 1) #[.int .i64 0, .int .i64 k, .string s, .bool q, .int .i64 d] := Own.keep (by with_reducible (repeat' first | assumption | refine Own.drew ?_ | refine Own.drewN ?_ _ | (refine Own.at ?_; first | rfl | (simp; done)) | refine Own.past ?_ _)) hbwa; have c1 := o1wa.cell; have f1 := o1wa.fro; have l1 := o1wa.lt) | (go_at_call 132; refine (hB _).mono ?_; rintro e wb ⟨rfl, hbwb⟩; have hBwb : Below w.heap.size w wb := bup (by with_reducible (repeat' first | assumption | exact Below.refl _ _ | refine Below.drew ?_ | refine bdrewN ?_ _ | refine Below.setCell ?_ (by first | exact Nat.le_refl _ | (simp; done) | (simp; omega) | omega) _ | refine Below.alloc ?_ (by first | exact Nat.le_refl _ | (simp; done) | (simp; omega) | omega) _)) hbwb; have zwb := hBwb.size; have o0wb : Own wb (w.heap.size) #[.bool m, .int .i64 t0, .int .i64 n0, .string s0, .bool b0, .int .i64 c0', .int .i64 r0, .int .i64 r1, .int .i64 r2, .int .i64 r3, .slice (some ⟨b, o, none⟩) n c] := Own.keep (by with_reducible (repeat' first | assumption | refine Own.drew ?_ | refine Own.drewN ?_ _ | (refine Own.at ?_; first | rfl | (simp; done)) | refine Own.past ?_ _)) hbwb; have c0 := o0wb.cell; have f0 := o0wb.fro; have l0 := o0wb.lt; have o1wb : Own wb (w.heap.size + 1) #[.int .i64 0, .int .i64 k, .string s, .bool q, .int .i64 d] := Own.keep (by with_reducible (repeat' first | assumption | refine Own.drew ?_ | refine Own.drewN ?_ _ | (refine Own.at ?_; first | rfl | (simp; done)) | refine Own.past ?_ _)) hbwb; have c1 := o1wb.cell; have f1 := o1wb.fro; have l1 := o1wb.lt))
  go_wp2
  go_loopw [5, 25] (fun a j w' => ∃ i : Nat, j = .int .i64 i ∧ i ≤ n ∧ a = .int .i64 (RR * KK - n + cwI 0 k s q d (l.take i)) ∧ Below w.heap.size w w' ∧ Own w' (w.heap.size + 1) #[.int .i64 0, .int .i64 k, .string s, .bool q, .int .i64 d]) (fun _ j _ => n - (intOf j).toNat)
  case atStart => exact ⟨0, rfl, by omega, by (simp only [cwI, List.take_zero, List.filter_nil, List.length_nil]; generalize RR * KK = P at hp0 hp1 ⊢; rw [show IntKind.i64.wrap (IntKind.i64.wrap P - (n : Int)) = P - (n : Int) by (rw [show IntKind.i64.wrap P = P by (rw [IntKind.wrap_i64]; omega), IntKind.wrap_i64]; omega)]; simp), by with_reducible (repeat' first | assumption | exact Below.refl _ _ | refine Below.drew ?_ | refine bdrewN ?_ _ | refine Below.setCell ?_ (by first | exact Nat.le_refl _ | (simp; done) | (simp; omega) | omega) _ | refine Below.alloc ?_ (by first | exact Nat.le_refl _ | (simp; done) | (simp; omega) | omega) _), by with_reducible (repeat' first | assumption | refine Own.drew ?_ | refine Own.drewN ?_ _ | (refine Own.at ?_; first | rfl | (simp; done)) | refine Own.past ?_ _)⟩
  case round =>
    obtain ⟨i, rfl, hi, rfl, hB3, o1⟩ := hrel
    have c1 := o1.cell
    have f1 := o1.fro
    have l1 := o1.lt
    have z3 := hB3.size
    by_cases hlt : i < n
    · have hlt' : (i : Int) < n := by omega
      have hai : l[i]? = some (l[i]'(by rw [HL.out]; exact hlt)) := List.getElem?_eq_getElem _
      have ca := HA'.out i _ hai
      have HAi : Hid _ := hai
      revert ca HAi
      generalize (l[i]'(by rw [HL.out]; exact hlt)) = x
      intro ca HAi
      clear hai
      have y0 : wr.cell? ⟨b, o + i * 7, none⟩ = some (.int .i64 x.r) := (hB3.cell (p := ⟨b, o + i * 7, none⟩) hla).trans (ca 0 (by decide))
      have y1 : wr.cell? ⟨b, o + i * 7 + 1, none⟩ = some (.int .i64 x.k) := (hB3.cell (p := ⟨b, o + i * 7 + 1, none⟩) hla).trans (ca 1 (by decide))
      have y2 : wr.cell? ⟨b, o + i * 7 + 2, none⟩ = some (.int .i64 x.t) := (hB3.cell (p := ⟨b, o + i * 7 + 2, none⟩) hla).trans (ca 2 (by decide))
      have y3 : wr.cell? ⟨b, o + i * 7 + 3, none⟩ = some (.int .i64 x.n) := (hB3.cell (p := ⟨b, o + i * 7 + 3, none⟩) hla).trans (ca 3 (by decide))
      have y4 : wr.cell? ⟨b, o + i * 7 + 4, none⟩ = some (.string x.s) := (hB3.cell (p := ⟨b, o + i * 7 + 4, none⟩) hla).trans (ca 4 (by decide))
      have y5 : wr.cell? ⟨b, o + i * 7 + 5, none⟩ = some (.bool x.b) := (hB3.cell (p := ⟨b, o + i * 7 + 5, none⟩) hla).trans (ca 5 (by decide))
      have y6 : wr.cell? ⟨b, o + i * 7 + 6, none⟩ = some (.int .i64 x.c) := (hB3.cell (p := ⟨b, o + i * 7 + 6, none⟩) hla).trans (ca 6 (by decide))
      clear ca
      have hS := fun W => sameV x.t x.n x.s x.b x.c 0 k s q d W
      have hsn := cw_snoc (t := 0) (k := k) (s := s) (q := q) (d := d) HAi.out
      have hle := cw_le 0 k s q d (l.take i)
      rw [List.length_take] at hle
      unfold smE at hsn
      generalize sameB x.t x.n x.s x.b x.c 0 k s q d = sm at hS hsn
      have HSN : Hid _ := hsn
      clear hsn
      generalize cwI 0 k s q d (l.take i) = N at hle HSN ⊢
      have hle2 : N ≤ n := by omega
      clear hle
      cases sm
      · go_wp2_with (go_at_call 124; refine (hS _).mono ?_; rintro e wc ⟨rfl, hbwc⟩; have hBwc : Below w.heap.size w wc := bup (by with_reducible (repeat' first | assumption | exact Below.refl _ _ | refine Below.drew ?_ | refine bdrewN ?_ _ | refine Below.setCell ?_ (by first | exact Nat.le_refl _ | (simp; done) | (simp; omega) | omega) _ | refine Below.alloc ?_ (by first | exact Nat.le_refl _ | (simp; done) | (simp; omega) | omega) _)) hbwc; have zwc := hBwc.size; have o0wc : Own wc (w.heap.size + 1) #[.int .i64 0, .int .i64 k, .string s, .bool q, .int .i64 d] := Own.keep (by with_reducible (repeat' first | assumption | refine Own.drew ?_ | refine Own.drewN ?_ _ | (refine Own.at ?_; first | rfl | (simp; done)) | refine Own.past ?_ _)) hbwc; have c0 := o0wc.cell; have f0 := o0wc.fro; have l0 := o0wc.lt)
        exact ⟨⟨i + 1, by go_num, by omega, by rw [HSN.out]; rfl, by with_reducible (repeat' first | assumption | exact Below.refl _ _ | refine Below.drew ?_ | refine bdrewN ?_ _ | refine Below.setCell ?_ (by first | exact Nat.le_refl _ | (simp; done) | (simp; omega) | omega) _ | refine Below.alloc ?_ (by first | exact Nat.le_refl _ | (simp; done) | (simp; omega) | omega) _), by with_reducible (repeat' first | assumption | refine Own.drew ?_ | refine Own.drewN ?_ _ | (refine Own.at ?_; first | rfl | (simp; done)) | refine Own.past ?_ _)⟩, by simp [intOf]; omega⟩
      · go_wp2_with (go_at_call 124; refine (hS _).mono ?_; rintro e wc ⟨rfl, hbwc⟩; have hBwc : Below w.heap.size w wc := bup (by with_reducible (repeat' first | assumption | exact Below.refl _ _ | refine Below.drew ?_ | refine bdrewN ?_ _ | refine Below.setCell ?_ (by first | exact Nat.le_refl _ | (simp; done) | (simp; omega) | omega) _ | refine Below.alloc ?_ (by first | exact Nat.le_refl _ | (simp; done) | (simp; omega) | omega) _)) hbwc; have zwc := hBwc.size; have o0wc : Own wc (w.heap.size + 1) #[.int .i64 0, .int .i64 k, .string s, .bool q, .int .i64 d] := Own.keep (by with_reducible (repeat' first | assumption | refine Own.drew ?_ | refine Own.drewN ?_ _ | (refine Own.at ?_; first | rfl | (simp; done)) | refine Own.past ?_ _)) hbwc; have c0 := o0wc.cell; have f0 := o0wc.fro; have l0 := o0wc.lt)
        exact ⟨⟨i + 1, by go_num, by omega, by rw [HSN.out]; go_num, by with_reducible (repeat' first | assumption | exact Below.refl _ _ | refine Below.drew ?_ | refine bdrewN ?_ _ | refine Below.setCell ?_ (by first | exact Nat.le_refl _ | (simp; done) | (simp; omega) | omega) _ | refine Below.alloc ?_ (by first | exact Nat.le_refl _ | (simp; done) | (simp; omega) | omega) _), by with_reducible (repeat' first | assumption | refine Own.drew ?_ | refine Own.drewN ?_ _ | (refine Own.at ?_; first | rfl | (simp; done)) | refine Own.past ?_ _)⟩, by simp [intOf]; omega⟩
    · have hlt' : ¬ (i : Int) < n := by omega
      have e : l.take i = l := List.take_of_length_le (by rw [HL.out]; omega)
      rw [e]
      go_wp2
      go_ret
      exact ⟨rfl, by with_reducible (repeat' first | assumption | exact Below.refl _ _ | refine Below.drew ?_ | refine bdrewN ?_ _ | refine Below.setCell ?_ (by first | exact Nat.le_refl _ | (simp; done) | (simp; omega) | omega) _ | refine Below.alloc ?_ (by first | exact Nat.le_refl _ | (simp; done) | (simp; omega) | omega) _)⟩
set_option maxRecDepth 100000 in
set_option maxHeartbeats 2000000 in
theorem cw_0 (w : World) (m : Bool) (t0 n0 : Int) (s0 : ByteArray) (b0 : Bool) (c0' r0 r1 r2 r3 : Int) (p : Option Addr) (c : Nat) (k : Int) (s : ByteArray) (q : Bool) (d : Int) (h1 : 0 ≤ r0) (h2 : r0 ≤ r2) (h3 : r2 ≤ 1048576) (h4 : 0 ≤ r1) (h5 : r1 ≤ r3) (h6 : r3 ≤ 1048576) : Calls Tryz.prog 122 #[.agg #[.bool m, .int .i64 t0, .int .i64 n0, .string s0, .bool b0, .int .i64 c0', .int .i64 r0, .int .i64 r1, .int .i64 r2, .int .i64 r3, .slice p 0 c], .agg #[.int .i64 0, .int .i64 k, .string s, .bool q, .int .i64 d]] w fun e w' => e = .returned (.int .i64 ((r2 - r0 + 1) * (r3 - r1 + 1))) ∧ Below w.heap.size w w' := by
  have mixed : Tryz.prog.follows .mixedOrders = true := by kernel_rfl
  have hA := fun W => rows_any r0 r1 r2 r3 W h1 (by omega) (by omega) (by omega)
  have hB := fun W => cols_any r0 r1 r2 r3 W h4 (by omega) (by omega) (by omega)
  have hp0 : 0 ≤ (r2 - r0 + 1) * (r3 - r1 + 1) := Int.mul_nonneg (by omega) (by omega)
  have hp1 : (r2 - r0 + 1) * (r3 - r1 + 1) ≤ 1099514675202 := Int.le_trans (Int.mul_le_mul (show r2 - r0 + 1 ≤ 1048577 by omega) (show r3 - r1 + 1 ≤ 1048577 by omega) (by omega) (by omega)) (by decide)
  generalize r2 - r0 + 1 = RR at hA hp0 hp1 ⊢
  generalize r3 - r1 + 1 = KK at hB hp0 hp1 ⊢
  go_enter Tryz.func122, Tryz.ntmps122
  go_wp2
  go_region_held3 (fun w' => w'.cell? ⟨w.heap.size, 6, none⟩ = some (.int .i64 r0) ∧ w'.cell? ⟨w.heap.size, 7, none⟩ = some (.int .i64 r1) ∧ w'.cell? ⟨w.heap.size, 8, none⟩ = some (.int .i64 r2) ∧ w'.cell? ⟨w.heap.size, 9, none⟩ = some (.int .i64 r3) ∧ w'.cell? ⟨w.heap.size, 10, none⟩ = some (.slice p 0 c)) ((repeat' apply And.intro) <;> (first | (go_keep; done) | (go_simp; done))) (first | (go_at_call 131; refine (hA _).mono ?_; rintro e wa ⟨rfl, hbwa⟩; have hBwa : Below w.heap.size w wa := bup (by with_reducible (repeat' first | assumption | exact Below.refl _ _ | refine Below.drew ?_ | refine bdrewN ?_ _ | refine Below.setCell ?_ (by first | exact Nat.le_refl _ | (simp; done) | (simp; omega) | omega) _ | refine Below.alloc ?_ (by first | exact Nat.le_refl _ | (simp; done) | (simp; omega) | omega) _)) hbwa; have zwa := hBwa.size; have o0wa : Own wa (w.heap.size) #[.bool m, .int .i64 t0, .int .i64 n0, .string s0, .bool b0, .int .i64 c0', .int .i64 r0, .int .i64 r1, .int .i64 r2, .int .i64 r3, .slice p 0 c] := Own.keep (by with_reducible (repeat' first | assumption | refine Own.drew ?_ | refine Own.drewN ?_ _ | (refine Own.at ?_; first | rfl | (simp; done)) | refine Own.past ?_ _)) hbwa; have c0 := o0wa.cell; have f0 := o0wa.fro; have l0 := o0wa.lt; have o1wa : Own wa (w.heap.size + 1) #[.int .i64 0, .int .i64 k, .string s, .bool q, .int .i64 d] := Own.keep (by with_reducible (repeat' first | assumption | refine Own.drew ?_ | refine Own.drewN ?_ _ | (refine Own.at ?_; first | rfl | (simp; done)) | refine Own.past ?_ _)) hbwa; have c1 := o1wa.cell; have f1 := o1wa.fro; have l1 := o1wa.lt) | (go_at_call 132; refine (hB _).mono ?_; rintro e wb ⟨rfl, hbwb⟩; have hBwb : Below w.heap.size w wb := bup (by with_reducible (repeat' first | assumption | exact Below.refl _ _ | refine Below.drew ?_ | refine bdrewN ?_ _ | refine Below.setCell ?_ (by first | exact Nat.le_refl _ | (simp; done) | (simp; omega) | omega) _ | refine Below.alloc ?_ (by first | exact Nat.le_refl _ | (simp; done) | (simp; omega) | omega) _)) hbwb; have zwb := hBwb.size; have o0wb : Own wb (w.heap.size) #[.bool m, .int .i64 t0, .int .i64 n0, .string s0, .bool b0, .int .i64 c0', .int .i64 r0, .int .i64 r1, .int .i64 r2, .int .i64 r3, .slice p 0 c] := Own.keep (by with_reducible (repeat' first | assumption | refine Own.drew ?_ | refine Own.drewN ?_ _ | (refine Own.at ?_; first | rfl | (simp; done)) | refine Own.past ?_ _)) hbwb; have c0 := o0wb.cell; have f0 := o0wb.fro; have l0 := o0wb.lt; have o1wb : Own wb (w.heap.size + 1) #[.int .i64 0, .int .i64 k, .string s, .bool q, .int .i64 d] := Own.keep (by with_reducible (repeat' first | assumption | refine Own.drew ?_ | refine Own.drewN ?_ _ | (refine Own.at ?_; first | rfl | (simp; done)) | refine Own.past ?_ _)) hbwb; have c1 := o1wb.cell; have f1 := o1wb.fro; have l1 := o1wb.lt))
  go_wp2
  go_loopw [5, 25] (fun a j w' => j = .int .i64 0 ∧ a = .int .i64 (RR * KK) ∧ Below w.heap.size w w') (fun _ _ _ => 0)
  case atStart => exact ⟨rfl, by (generalize RR * KK = P at hp0 hp1 ⊢; rw [show IntKind.i64.wrap P = P by (rw [IntKind.wrap_i64]; omega), show IntKind.i64.wrap P = P by (rw [IntKind.wrap_i64]; omega)]), by with_reducible (repeat' first | assumption | exact Below.refl _ _ | refine Below.drew ?_ | refine bdrewN ?_ _ | refine Below.setCell ?_ (by first | exact Nat.le_refl _ | (simp; done) | (simp; omega) | omega) _ | refine Below.alloc ?_ (by first | exact Nat.le_refl _ | (simp; done) | (simp; omega) | omega) _)⟩
  case round =>
    obtain ⟨rfl, rfl, hB3⟩ := hrel
    go_wp2
    go_ret
    exact ⟨rfl, by with_reducible (repeat' first | assumption | exact Below.refl _ _ | refine Below.drew ?_ | refine bdrewN ?_ _ | refine Below.setCell ?_ (by first | exact Nat.le_refl _ | (simp; done) | (simp; omega) | omega) _ | refine Below.alloc ?_ (by first | exact Nat.le_refl _ | (simp; done) | (simp; omega) | omega) _)⟩
theorem cw_any (w : World) (m : Bool) (t0 n0 : Int) (s0 : ByteArray) (b0 : Bool) (c0' r0 r1 r2 r3 : Int) (p : Option Addr) (n c : Nat) (l : List En) (k : Int) (s : ByteArray) (q : Bool) (d : Int) (hv : View En.cells 7 w (.slice p n c) l) (hl : l.length ≤ 1099511627776) (h1 : 0 ≤ r0) (h2 : r0 ≤ r2) (h3 : r2 ≤ 1048576) (h4 : 0 ≤ r1) (h5 : r1 ≤ r3) (h6 : r3 ≤ 1048576) : Calls Tryz.prog 122 #[.agg #[.bool m, .int .i64 t0, .int .i64 n0, .string s0, .bool b0, .int .i64 c0', .int .i64 r0, .int .i64 r1, .int .i64 r2, .int .i64 r3, .slice p n c], .agg #[.int .i64 0, .int .i64 k, .string s, .bool q, .int .i64 d]] w fun e w' => e = .returned (.int .i64 ((r2 - r0 + 1) * (r3 - r1 + 1) - (l.length : Int) + cwI 0 k s q d l)) ∧ Below w.heap.size w w' := by
  obtain ⟨p', c', e, hc, hf⟩ := hv
  injection e with e1 e2 e3
  subst e1 e2 e3
  by_cases h0 : 0 < l.length
  · obtain ⟨b, o, rfl, hlt, HA⟩ := hf h0
    exact cw_y w m t0 n0 s0 b0 c0' r0 r1 r2 r3 b o l.length c l k s q d hlt HA rfl hc h0 hl h1 h2 h3 h4 h5 h6
  · have e : l = [] := List.eq_nil_of_length_eq_zero (by omega)
    subst e
    have hx := cw_0 w m t0 n0 s0 b0 c0' r0 r1 r2 r3 p c k s q d h1 h2 h3 h4 h5 h6
    refine hx.mono fun e w' ⟨he, hb⟩ => ⟨?_, hb⟩
    rw [he]
    simp [cwI]
end Go.Proofs.YtcgcnpcimfaecaaGreatDoor
