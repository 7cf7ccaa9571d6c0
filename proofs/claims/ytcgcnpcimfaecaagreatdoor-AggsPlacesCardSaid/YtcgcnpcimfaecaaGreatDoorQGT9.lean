/- The contracts of aggs.find and Known: of every text the row of the table. New memory alone is made. The contracts of aggs.kind, takes and rectsOf: of what kind a place is, whether so many arguments are taken, which are rectangles. New memory alone is made. -/
import Derived.Test.YtcgcnpcimfaecaaGreatDoorQGJ
import Derived.Test.YtcgcnpcimfaecaaGreatDoorQNT2
import Derived.Test.YtcgcnpcimfaecaaGreatDoorQNT4
namespace Go.Proofs.YtcgcnpcimfaecaaGreatDoor
open Go.RowKit
set_option linter.all false
def plI (k : Nat) : ByteArray := [⟨#[120]⟩, ⟨#[120]⟩, ⟨#[120]⟩, ⟨#[120]⟩, ⟨#[120]⟩, ⟨#[120]⟩, ⟨#[120]⟩, ⟨#[120]⟩, ⟨#[114]⟩, ⟨#[114, 118]⟩, ⟨#[114, 118, 114]⟩, ⟨#[118, 114]⟩, ⟨#[118, 114, 114]⟩, ⟨#[114, 110, 110]⟩, ⟨#[114, 110]⟩, ⟨#[118, 120]⟩, ⟨#[114]⟩, ⟨#[114]⟩].getD k ⟨#[]⟩
def moI (k : Nat) : Int := [16, 16, 16, 16, 16, 16, 16, 16, 1, 2, 3, 2, 3, 3, 2, 16, 1, 1].getD k 0
def stI (k : Nat) : Bool := [true, true, true, true, true, true, false, false, false, false, false, false, false, false, true, true, false, false].getD k false
def fvI (k : Nat) (b0 b1 b2 b3 b4 b5 b6 : Nat) : Value := [.func (.func 110) #[] #[.pointer (some ⟨b0, 0, none⟩)], .func (.func 110) #[] #[.pointer (some ⟨b1, 0, none⟩)], .func (.func 110) #[] #[.pointer (some ⟨b2, 0, none⟩)], .func (.func 110) #[] #[.pointer (some ⟨b3, 0, none⟩)], .func (.func 110) #[] #[.pointer (some ⟨b4, 0, none⟩)], .func (.func 110) #[] #[.pointer (some ⟨b5, 0, none⟩)], .func (.func 110) #[] #[.pointer (some ⟨b6, 0, none⟩)], .func (.func 86) #[] #[], .func (.func 87) #[] #[], .func (.func 88) #[] #[], .func (.func 89) #[] #[], .func (.func 90) #[] #[], .func (.func 91) #[] #[], .func (.func 92) #[] #[], .func (.func 93) #[] #[], .func (.func 94) #[] #[], .func (.func 95) #[] #[], .func (.func 96) #[] #[]].getD k .nilFunc
/-- What find answers: the row of a place. -/
def FndP (k : Nat) (e : Ending) (w : World) : Prop := ∃ b0 b1 b2 b3 b4 b5 b6, e = .returned (.tuple #[.agg #[.string (plI k), .int .i64 (moI k), .bool (stI k), fvI k b0 b1 b2 b3 b4 b5 b6], .bool true]) ∧ TabW b0 b1 b2 b3 b4 b5 b6 w
theorem AllV.set {W : World} {b : Nat} {f : Value} (h : AllV W f b) {c : Nat} {j : Nat} (hn : c ≠ b) (x : Value) : AllV (W.setCell ⟨c, j, none⟩ x) f b := Own.aside h (fun e => hn e.symm) x
theorem put4 {b0 b1 b2 b3 b4 b5 b6 : Nat} {W : World} (h : TabW b0 b1 b2 b3 b4 b5 b6 W) {c : Nat} (o : Own W c #[.string ⟨#[]⟩, .int .i64 0, .bool false, .nilFunc]) {x0 x1 x2 x3 : Value} : TabW b0 b1 b2 b3 b4 b5 b6 ((((W.setCell ⟨c, 0, none⟩ x0).setCell ⟨c, 1, none⟩ x1).setCell ⟨c, 2, none⟩ x2).setCell ⟨c, 3, none⟩ x3) := by
  have hz : 1 < (#[.string ⟨#[]⟩, .int .i64 0, .bool false, .nilFunc] : Array Value).size := by decide
  have e : ((((W.setCell ⟨c, 0, none⟩ x0).setCell ⟨c, 1, none⟩ x1).setCell ⟨c, 2, none⟩ x2).setCell ⟨c, 3, none⟩ x3) = W.setCells c 0 [x0, x1, x2, x3] := rfl
  rw [e]
  exact ⟨h.h0.cells o hz _, h.h1.cells o hz _, h.h2.cells o hz _, h.h3.cells o hz _, h.h4.cells o hz _, h.h5.cells o hz _, h.h6.cells o hz _⟩
theorem idx_0 (b0 b1 b2 b3 b4 b5 b6 : Nat) (w : World) : (Instr.index 90 (.agg (tabA b0 b1 b2 b3 b4 b5 b6)) (.int .i64 0)).run Tryz.prog w = .ok (.agg #[.string ⟨#[120]⟩, .int .i64 16, .bool true, .func (.func 110) #[] #[.pointer (some ⟨b0, 0, none⟩)]]) w := by kernel_rfl
theorem find_0 (w : World) : Calls Tryz.prog 22 #[.string ⟨#[83, 85, 77]⟩] w fun e w' => FndP 0 e w' ∧ Below w.heap.size w w' := by
  have hix := idx_0
  go_enter Tryz.func22, Tryz.ntmps22
  go_wp2_with (first | (go_at_call 47; refine (place_0 _).mono ?_; rintro e w5 ⟨rfl, rfl⟩) | (go_at_call 53; refine (table_any _).mono ?_; rintro e w1 ⟨⟨b0, b1, b2, b3, b4, b5, b6, rfl, hT⟩, hb⟩; have hB : Below w.heap.size w w1 := bup (by with_reducible (repeat' first | assumption | exact Below.refl _ _ | refine Below.drew ?_ | refine bdrewN ?_ _ | refine Below.setCell ?_ (by first | exact Nat.le_refl _ | (simp; done) | (simp; omega) | omega) _ | refine Below.alloc ?_ (by first | exact Nat.le_refl _ | (simp; done) | (simp; omega) | omega) _)) hb; have o0 : Own w1 w.heap.size #[.string ⟨#[]⟩, .int .i64 0, .bool false, .nilFunc] := Own.keep (by with_reducible (repeat' first | assumption | refine Own.drew ?_ | refine Own.drewN ?_ _ | (refine Own.at ?_; first | rfl | (simp; done)) | refine Own.past ?_ _)) hb; have c0 := o0.cell; have f0 := o0.fro; have l0 := o0.lt))
  refine bodyPost_ret (v := .tuple #[.agg #[.string ⟨#[120]⟩, .int .i64 16, .bool true, .func (.func 110) #[] #[.pointer (some ⟨b0, 0, none⟩)]], .bool true]) (by simp [results, Tryz.results22, go_sem, c0, f0, l0]) rfl ⟨⟨b0, b1, b2, b3, b4, b5, b6, rfl, ?_⟩, by with_reducible (repeat' first | assumption | exact Below.refl _ _ | refine Below.drew ?_ | refine bdrewN ?_ _ | refine Below.setCell ?_ (by first | exact Nat.le_refl _ | (simp; done) | (simp; omega) | omega) _ | refine Below.alloc ?_ (by first | exact Nat.le_refl _ | (simp; done) | (simp; omega) | omega) _)⟩
  have hz : 1 < (#[.string ⟨#[]⟩, .int .i64 0, .bool false, .nilFunc] : Array Value).size := by decide
  exact put4 hT o0
theorem idx_1 (b0 b1 b2 b3 b4 b5 b6 : Nat) (w : World) : (Instr.index 90 (.agg (tabA b0 b1 b2 b3 b4 b5 b6)) (.int .i64 1)).run Tryz.prog w = .ok (.agg #[.string ⟨#[120]⟩, .int .i64 16, .bool true, .func (.func 110) #[] #[.pointer (some ⟨b1, 0, none⟩)]]) w := by kernel_rfl
theorem find_1 (w : World) : Calls Tryz.prog 22 #[.string ⟨#[80, 82, 79, 68]⟩] w fun e w' => FndP 1 e w' ∧ Below w.heap.size w w' := by
  have hix := idx_1
  go_enter Tryz.func22, Tryz.ntmps22
  go_wp2_with (first | (go_at_call 47; refine (place_1 _).mono ?_; rintro e w5 ⟨rfl, rfl⟩) | (go_at_call 53; refine (table_any _).mono ?_; rintro e w1 ⟨⟨b0, b1, b2, b3, b4, b5, b6, rfl, hT⟩, hb⟩; have hB : Below w.heap.size w w1 := bup (by with_reducible (repeat' first | assumption | exact Below.refl _ _ | refine Below.drew ?_ | refine bdrewN ?_ _ | refine Below.setCell ?_ (by first | exact Nat.le_refl _ | (simp; done) | (simp; omega) | omega) _ | refine Below.alloc ?_ (by first | exact Nat.le_refl _ | (simp; done) | (simp; omega) | omega) _)) hb; have o0 : Own w1 w.heap.size #[.string ⟨#[]⟩, .int .i64 0, .bool false, .nilFunc] := Own.keep (by with_reducible (repeat' first | assumption | refine Own.drew ?_ | refine Own.drewN ?_ _ | (refine Own.at ?_; first | rfl | (simp; done)) | refine Own.past ?_ _)) hb; have c0 := o0.cell; have f0 := o0.fro; have l0 := o0.lt))
  refine bodyPost_ret (v := .tuple #[.agg #[.string ⟨#[120]⟩, .int .i64 16, .bool true, .func (.func 110) #[] #[.pointer (some ⟨b1, 0, none⟩)]], .bool true]) (by simp [results, Tryz.results22, go_sem, c0, f0, l0]) rfl ⟨⟨b0, b1, b2, b3, b4, b5, b6, rfl, ?_⟩, by with_reducible (repeat' first | assumption | exact Below.refl _ _ | refine Below.drew ?_ | refine bdrewN ?_ _ | refine Below.setCell ?_ (by first | exact Nat.le_refl _ | (simp; done) | (simp; omega) | omega) _ | refine Below.alloc ?_ (by first | exact Nat.le_refl _ | (simp; done) | (simp; omega) | omega) _)⟩
  have hz : 1 < (#[.string ⟨#[]⟩, .int .i64 0, .bool false, .nilFunc] : Array Value).size := by decide
  exact put4 hT o0
theorem idx_2 (b0 b1 b2 b3 b4 b5 b6 : Nat) (w : World) : (Instr.index 90 (.agg (tabA b0 b1 b2 b3 b4 b5 b6)) (.int .i64 2)).run Tryz.prog w = .ok (.agg #[.string ⟨#[120]⟩, .int .i64 16, .bool true, .func (.func 110) #[] #[.pointer (some ⟨b2, 0, none⟩)]]) w := by kernel_rfl
theorem find_2 (w : World) : Calls Tryz.prog 22 #[.string ⟨#[77, 73, 78]⟩] w fun e w' => FndP 2 e w' ∧ Below w.heap.size w w' := by
  have hix := idx_2
  go_enter Tryz.func22, Tryz.ntmps22
  go_wp2_with (first | (go_at_call 47; refine (place_2 _).mono ?_; rintro e w5 ⟨rfl, rfl⟩) | (go_at_call 53; refine (table_any _).mono ?_; rintro e w1 ⟨⟨b0, b1, b2, b3, b4, b5, b6, rfl, hT⟩, hb⟩; have hB : Below w.heap.size w w1 := bup (by with_reducible (repeat' first | assumption | exact Below.refl _ _ | refine Below.drew ?_ | refine bdrewN ?_ _ | refine Below.setCell ?_ (by first | exact Nat.le_refl _ | (simp; done) | (simp; omega) | omega) _ | refine Below.alloc ?_ (by first | exact Nat.le_refl _ | (simp; done) | (simp; omega) | omega) _)) hb; have o0 : Own w1 w.heap.size #[.string ⟨#[]⟩, .int .i64 0, .bool false, .nilFunc] := Own.keep (by with_reducible (repeat' first | assumption | refine Own.drew ?_ | refine Own.drewN ?_ _ | (refine Own.at ?_; first | rfl | (simp; done)) | refine Own.past ?_ _)) hb; have c0 := o0.cell; have f0 := o0.fro; have l0 := o0.lt))
  refine bodyPost_ret (v := .tuple #[.agg #[.string ⟨#[120]⟩, .int .i64 16, .bool true, .func (.func 110) #[] #[.pointer (some ⟨b2, 0, none⟩)]], .bool true]) (by simp [results, Tryz.results22, go_sem, c0, f0, l0]) rfl ⟨⟨b0, b1, b2, b3, b4, b5, b6, rfl, ?_⟩, by with_reducible (repeat' first | assumption | exact Below.refl _ _ | refine Below.drew ?_ | refine bdrewN ?_ _ | refine Below.setCell ?_ (by first | exact Nat.le_refl _ | (simp; done) | (simp; omega) | omega) _ | refine Below.alloc ?_ (by first | exact Nat.le_refl _ | (simp; done) | (simp; omega) | omega) _)⟩
  have hz : 1 < (#[.string ⟨#[]⟩, .int .i64 0, .bool false, .nilFunc] : Array Value).size := by decide
  exact put4 hT o0
theorem idx_3 (b0 b1 b2 b3 b4 b5 b6 : Nat) (w : World) : (Instr.index 90 (.agg (tabA b0 b1 b2 b3 b4 b5 b6)) (.int .i64 3)).run Tryz.prog w = .ok (.agg #[.string ⟨#[120]⟩, .int .i64 16, .bool true, .func (.func 110) #[] #[.pointer (some ⟨b3, 0, none⟩)]]) w := by kernel_rfl
theorem find_3 (w : World) : Calls Tryz.prog 22 #[.string ⟨#[77, 65, 88]⟩] w fun e w' => FndP 3 e w' ∧ Below w.heap.size w w' := by
  have hix := idx_3
  go_enter Tryz.func22, Tryz.ntmps22
  go_wp2_with (first | (go_at_call 47; refine (place_3 _).mono ?_; rintro e w5 ⟨rfl, rfl⟩) | (go_at_call 53; refine (table_any _).mono ?_; rintro e w1 ⟨⟨b0, b1, b2, b3, b4, b5, b6, rfl, hT⟩, hb⟩; have hB : Below w.heap.size w w1 := bup (by with_reducible (repeat' first | assumption | exact Below.refl _ _ | refine Below.drew ?_ | refine bdrewN ?_ _ | refine Below.setCell ?_ (by first | exact Nat.le_refl _ | (simp; done) | (simp; omega) | omega) _ | refine Below.alloc ?_ (by first | exact Nat.le_refl _ | (simp; done) | (simp; omega) | omega) _)) hb; have o0 : Own w1 w.heap.size #[.string ⟨#[]⟩, .int .i64 0, .bool false, .nilFunc] := Own.keep (by with_reducible (repeat' first | assumption | refine Own.drew ?_ | refine Own.drewN ?_ _ | (refine Own.at ?_; first | rfl | (simp; done)) | refine Own.past ?_ _)) hb; have c0 := o0.cell; have f0 := o0.fro; have l0 := o0.lt))
  refine bodyPost_ret (v := .tuple #[.agg #[.string ⟨#[120]⟩, .int .i64 16, .bool true, .func (.func 110) #[] #[.pointer (some ⟨b3, 0, none⟩)]], .bool true]) (by simp [results, Tryz.results22, go_sem, c0, f0, l0]) rfl ⟨⟨b0, b1, b2, b3, b4, b5, b6, rfl, ?_⟩, by with_reducible (repeat' first | assumption | exact Below.refl _ _ | refine Below.drew ?_ | refine bdrewN ?_ _ | refine Below.setCell ?_ (by first | exact Nat.le_refl _ | (simp; done) | (simp; omega) | omega) _ | refine Below.alloc ?_ (by first | exact Nat.le_refl _ | (simp; done) | (simp; omega) | omega) _)⟩
  have hz : 1 < (#[.string ⟨#[]⟩, .int .i64 0, .bool false, .nilFunc] : Array Value).size := by decide
  exact put4 hT o0
theorem idx_4 (b0 b1 b2 b3 b4 b5 b6 : Nat) (w : World) : (Instr.index 90 (.agg (tabA b0 b1 b2 b3 b4 b5 b6)) (.int .i64 4)).run Tryz.prog w = .ok (.agg #[.string ⟨#[120]⟩, .int .i64 16, .bool true, .func (.func 110) #[] #[.pointer (some ⟨b4, 0, none⟩)]]) w := by kernel_rfl
theorem find_4 (w : World) : Calls Tryz.prog 22 #[.string ⟨#[65, 86, 71]⟩] w fun e w' => FndP 4 e w' ∧ Below w.heap.size w w' := by
  have hix := idx_4
  go_enter Tryz.func22, Tryz.ntmps22
  go_wp2_with (first | (go_at_call 47; refine (place_4 _).mono ?_; rintro e w5 ⟨rfl, rfl⟩) | (go_at_call 53; refine (table_any _).mono ?_; rintro e w1 ⟨⟨b0, b1, b2, b3, b4, b5, b6, rfl, hT⟩, hb⟩; have hB : Below w.heap.size w w1 := bup (by with_reducible (repeat' first | assumption | exact Below.refl _ _ | refine Below.drew ?_ | refine bdrewN ?_ _ | refine Below.setCell ?_ (by first | exact Nat.le_refl _ | (simp; done) | (simp; omega) | omega) _ | refine Below.alloc ?_ (by first | exact Nat.le_refl _ | (simp; done) | (simp; omega) | omega) _)) hb; have o0 : Own w1 w.heap.size #[.string ⟨#[]⟩, .int .i64 0, .bool false, .nilFunc] := Own.keep (by with_reducible (repeat' first | assumption | refine Own.drew ?_ | refine Own.drewN ?_ _ | (refine Own.at ?_; first | rfl | (simp; done)) | refine Own.past ?_ _)) hb; have c0 := o0.cell; have f0 := o0.fro; have l0 := o0.lt))
  refine bodyPost_ret (v := .tuple #[.agg #[.string ⟨#[120]⟩, .int .i64 16, .bool true, .func (.func 110) #[] #[.pointer (some ⟨b4, 0, none⟩)]], .bool true]) (by simp [results, Tryz.results22, go_sem, c0, f0, l0]) rfl ⟨⟨b0, b1, b2, b3, b4, b5, b6, rfl, ?_⟩, by with_reducible (repeat' first | assumption | exact Below.refl _ _ | refine Below.drew ?_ | refine bdrewN ?_ _ | refine Below.setCell ?_ (by first | exact Nat.le_refl _ | (simp; done) | (simp; omega) | omega) _ | refine Below.alloc ?_ (by first | exact Nat.le_refl _ | (simp; done) | (simp; omega) | omega) _)⟩
  have hz : 1 < (#[.string ⟨#[]⟩, .int .i64 0, .bool false, .nilFunc] : Array Value).size := by decide
  exact put4 hT o0
theorem idx_5 (b0 b1 b2 b3 b4 b5 b6 : Nat) (w : World) : (Instr.index 90 (.agg (tabA b0 b1 b2 b3 b4 b5 b6)) (.int .i64 5)).run Tryz.prog w = .ok (.agg #[.string ⟨#[120]⟩, .int .i64 16, .bool true, .func (.func 110) #[] #[.pointer (some ⟨b5, 0, none⟩)]]) w := by kernel_rfl
theorem find_5 (w : World) : Calls Tryz.prog 22 #[.string ⟨#[77, 69, 68, 73, 65, 78]⟩] w fun e w' => FndP 5 e w' ∧ Below w.heap.size w w' := by
  have hix := idx_5
  go_enter Tryz.func22, Tryz.ntmps22
  go_wp2_with (first | (go_at_call 47; refine (place_5 _).mono ?_; rintro e w5 ⟨rfl, rfl⟩) | (go_at_call 53; refine (table_any _).mono ?_; rintro e w1 ⟨⟨b0, b1, b2, b3, b4, b5, b6, rfl, hT⟩, hb⟩; have hB : Below w.heap.size w w1 := bup (by with_reducible (repeat' first | assumption | exact Below.refl _ _ | refine Below.drew ?_ | refine bdrewN ?_ _ | refine Below.setCell ?_ (by first | exact Nat.le_refl _ | (simp; done) | (simp; omega) | omega) _ | refine Below.alloc ?_ (by first | exact Nat.le_refl _ | (simp; done) | (simp; omega) | omega) _)) hb; have o0 : Own w1 w.heap.size #[.string ⟨#[]⟩, .int .i64 0, .bool false, .nilFunc] := Own.keep (by with_reducible (repeat' first | assumption | refine Own.drew ?_ | refine Own.drewN ?_ _ | (refine Own.at ?_; first | rfl | (simp; done)) | refine Own.past ?_ _)) hb; have c0 := o0.cell; have f0 := o0.fro; have l0 := o0.lt))
  refine bodyPost_ret (v := .tuple #[.agg #[.string ⟨#[120]⟩, .int .i64 16, .bool true, .func (.func 110) #[] #[.pointer (some ⟨b5, 0, none⟩)]], .bool true]) (by simp [results, Tryz.results22, go_sem, c0, f0, l0]) rfl ⟨⟨b0, b1, b2, b3, b4, b5, b6, rfl, ?_⟩, by with_reducible (repeat' first | assumption | exact Below.refl _ _ | refine Below.drew ?_ | refine bdrewN ?_ _ | refine Below.setCell ?_ (by first | exact Nat.le_refl _ | (simp; done) | (simp; omega) | omega) _ | refine Below.alloc ?_ (by first | exact Nat.le_refl _ | (simp; done) | (simp; omega) | omega) _)⟩
  have hz : 1 < (#[.string ⟨#[]⟩, .int .i64 0, .bool false, .nilFunc] : Array Value).size := by decide
  exact put4 hT o0
theorem idx_6 (b0 b1 b2 b3 b4 b5 b6 : Nat) (w : World) : (Instr.index 90 (.agg (tabA b0 b1 b2 b3 b4 b5 b6)) (.int .i64 6)).run Tryz.prog w = .ok (.agg #[.string ⟨#[120]⟩, .int .i64 16, .bool false, .func (.func 110) #[] #[.pointer (some ⟨b6, 0, none⟩)]]) w := by kernel_rfl
theorem find_6 (w : World) : Calls Tryz.prog 22 #[.string ⟨#[67, 79, 85, 78, 84]⟩] w fun e w' => FndP 6 e w' ∧ Below w.heap.size w w' := by
  have hix := idx_6
  go_enter Tryz.func22, Tryz.ntmps22
  go_wp2_with (first | (go_at_call 47; refine (place_6 _).mono ?_; rintro e w5 ⟨rfl, rfl⟩) | (go_at_call 53; refine (table_any _).mono ?_; rintro e w1 ⟨⟨b0, b1, b2, b3, b4, b5, b6, rfl, hT⟩, hb⟩; have hB : Below w.heap.size w w1 := bup (by with_reducible (repeat' first | assumption | exact Below.refl _ _ | refine Below.drew ?_ | refine bdrewN ?_ _ | refine Below.setCell ?_ (by first | exact Nat.le_refl _ | (simp; done) | (simp; omega) | omega) _ | refine Below.alloc ?_ (by first | exact Nat.le_refl _ | (simp; done) | (simp; omega) | omega) _)) hb; have o0 : Own w1 w.heap.size #[.string ⟨#[]⟩, .int .i64 0, .bool false, .nilFunc] := Own.keep (by with_reducible (repeat' first | assumption | refine Own.drew ?_ | refine Own.drewN ?_ _ | (refine Own.at ?_; first | rfl | (simp; done)) | refine Own.past ?_ _)) hb; have c0 := o0.cell; have f0 := o0.fro; have l0 := o0.lt))
  refine bodyPost_ret (v := .tuple #[.agg #[.string ⟨#[120]⟩, .int .i64 16, .bool false, .func (.func 110) #[] #[.pointer (some ⟨b6, 0, none⟩)]], .bool true]) (by simp [results, Tryz.results22, go_sem, c0, f0, l0]) rfl ⟨⟨b0, b1, b2, b3, b4, b5, b6, rfl, ?_⟩, by with_reducible (repeat' first | assumption | exact Below.refl _ _ | refine Below.drew ?_ | refine bdrewN ?_ _ | refine Below.setCell ?_ (by first | exact Nat.le_refl _ | (simp; done) | (simp; omega) | omega) _ | refine Below.alloc ?_ (by first | exact Nat.le_refl _ | (simp; done) | (simp; omega) | omega) _)⟩
  have hz : 1 < (#[.string ⟨#[]⟩, .int .i64 0, .bool false, .nilFunc] : Array Value).size := by decide
  exact put4 hT o0
theorem idx_7 (b0 b1 b2 b3 b4 b5 b6 : Nat) (w : World) : (Instr.index 90 (.agg (tabA b0 b1 b2 b3 b4 b5 b6)) (.int .i64 7)).run Tryz.prog w = .ok (.agg #[.string ⟨#[120]⟩, .int .i64 16, .bool false, .func (.func 86) #[] #[]]) w := by kernel_rfl
theorem find_7 (w : World) : Calls Tryz.prog 22 #[.string ⟨#[67, 79, 85, 78, 84, 65]⟩] w fun e w' => FndP 7 e w' ∧ Below w.heap.size w w' := by
  have hix := idx_7
  go_enter Tryz.func22, Tryz.ntmps22
  go_wp2_with (first | (go_at_call 47; refine (place_7 _).mono ?_; rintro e w5 ⟨rfl, rfl⟩) | (go_at_call 53; refine (table_any _).mono ?_; rintro e w1 ⟨⟨b0, b1, b2, b3, b4, b5, b6, rfl, hT⟩, hb⟩; have hB : Below w.heap.size w w1 := bup (by with_reducible (repeat' first | assumption | exact Below.refl _ _ | refine Below.drew ?_ | refine bdrewN ?_ _ | refine Below.setCell ?_ (by first | exact Nat.le_refl _ | (simp; done) | (simp; omega) | omega) _ | refine Below.alloc ?_ (by first | exact Nat.le_refl _ | (simp; done) | (simp; omega) | omega) _)) hb; have o0 : Own w1 w.heap.size #[.string ⟨#[]⟩, .int .i64 0, .bool false, .nilFunc] := Own.keep (by with_reducible (repeat' first | assumption | refine Own.drew ?_ | refine Own.drewN ?_ _ | (refine Own.at ?_; first | rfl | (simp; done)) | refine Own.past ?_ _)) hb; have c0 := o0.cell; have f0 := o0.fro; have l0 := o0.lt))
  refine bodyPost_ret (v := .tuple #[.agg #[.string ⟨#[120]⟩, .int .i64 16, .bool false, .func (.func 86) #[] #[]], .bool true]) (by simp [results, Tryz.results22, go_sem, c0, f0, l0]) rfl ⟨⟨b0, b1, b2, b3, b4, b5, b6, rfl, ?_⟩, by with_reducible (repeat' first | assumption | exact Below.refl _ _ | refine Below.drew ?_ | refine bdrewN ?_ _ | refine Below.setCell ?_ (by first | exact Nat.le_refl _ | (simp; done) | (simp; omega) | omega) _ | refine Below.alloc ?_ (by first | exact Nat.le_refl _ | (simp; done) | (simp; omega) | omega) _)⟩
  have hz : 1 < (#[.string ⟨#[]⟩, .int .i64 0, .bool false, .nilFunc] : Array Value).size := by decide
  exact put4 hT o0
theorem idx_8 (b0 b1 b2 b3 b4 b5 b6 : Nat) (w : World) : (Instr.index 90 (.agg (tabA b0 b1 b2 b3 b4 b5 b6)) (.int .i64 8)).run Tryz.prog w = .ok (.agg #[.string ⟨#[114]⟩, .int .i64 1, .bool false, .func (.func 87) #[] #[]]) w := by kernel_rfl
theorem find_8 (w : World) : Calls Tryz.prog 22 #[.string ⟨#[66, 76, 65, 78, 75, 83]⟩] w fun e w' => FndP 8 e w' ∧ Below w.heap.size w w' := by
  have hix := idx_8
  go_enter Tryz.func22, Tryz.ntmps22
  go_wp2_with (first | (go_at_call 47; refine (place_8 _).mono ?_; rintro e w5 ⟨rfl, rfl⟩) | (go_at_call 53; refine (table_any _).mono ?_; rintro e w1 ⟨⟨b0, b1, b2, b3, b4, b5, b6, rfl, hT⟩, hb⟩; have hB : Below w.heap.size w w1 := bup (by with_reducible (repeat' first | assumption | exact Below.refl _ _ | refine Below.drew ?_ | refine bdrewN ?_ _ | refine Below.setCell ?_ (by first | exact Nat.le_refl _ | (simp; done) | (simp; omega) | omega) _ | refine Below.alloc ?_ (by first | exact Nat.le_refl _ | (simp; done) | (simp; omega) | omega) _)) hb; have o0 : Own w1 w.heap.size #[.string ⟨#[]⟩, .int .i64 0, .bool false, .nilFunc] := Own.keep (by with_reducible (repeat' first | assumption | refine Own.drew ?_ | refine Own.drewN ?_ _ | (refine Own.at ?_; first | rfl | (simp; done)) | refine Own.past ?_ _)) hb; have c0 := o0.cell; have f0 := o0.fro; have l0 := o0.lt))
  refine bodyPost_ret (v := .tuple #[.agg #[.string ⟨#[114]⟩, .int .i64 1, .bool false, .func (.func 87) #[] #[]], .bool true]) (by simp [results, Tryz.results22, go_sem, c0, f0, l0]) rfl ⟨⟨b0, b1, b2, b3, b4, b5, b6, rfl, ?_⟩, by with_reducible (repeat' first | assumption | exact Below.refl _ _ | refine Below.drew ?_ | refine bdrewN ?_ _ | refine Below.setCell ?_ (by first | exact Nat.le_refl _ | (simp; done) | (simp; omega) | omega) _ | refine Below.alloc ?_ (by first | exact Nat.le_refl _ | (simp; done) | (simp; omega) | omega) _)⟩
  have hz : 1 < (#[.string ⟨#[]⟩, .int .i64 0, .bool false, .nilFunc] : Array Value).size := by decide
  exact put4 hT o0
theorem idx_9 (b0 b1 b2 b3 b4 b5 b6 : Nat) (w : World) : (Instr.index 90 (.agg (tabA b0 b1 b2 b3 b4 b5 b6)) (.int .i64 9)).run Tryz.prog w = .ok (.agg #[.string ⟨#[114, 118]⟩, .int .i64 2, .bool false, .func (.func 88) #[] #[]]) w := by kernel_rfl
theorem find_9 (w : World) : Calls Tryz.prog 22 #[.string ⟨#[67, 79, 85, 78, 84, 73, 70]⟩] w fun e w' => FndP 9 e w' ∧ Below w.heap.size w w' := by
  have hix := idx_9
  go_enter Tryz.func22, Tryz.ntmps22
  go_wp2_with (first | (go_at_call 47; refine (place_9 _).mono ?_; rintro e w5 ⟨rfl, rfl⟩) | (go_at_call 53; refine (table_any _).mono ?_; rintro e w1 ⟨⟨b0, b1, b2, b3, b4, b5, b6, rfl, hT⟩, hb⟩; have hB : Below w.heap.size w w1 := bup (by with_reducible (repeat' first | assumption | exact Below.refl _ _ | refine Below.drew ?_ | refine bdrewN ?_ _ | refine Below.setCell ?_ (by first | exact Nat.le_refl _ | (simp; done) | (simp; omega) | omega) _ | refine Below.alloc ?_ (by first | exact Nat.le_refl _ | (simp; done) | (simp; omega) | omega) _)) hb; have o0 : Own w1 w.heap.size #[.string ⟨#[]⟩, .int .i64 0, .bool false, .nilFunc] := Own.keep (by with_reducible (repeat' first | assumption | refine Own.drew ?_ | refine Own.drewN ?_ _ | (refine Own.at ?_; first | rfl | (simp; done)) | refine Own.past ?_ _)) hb; have c0 := o0.cell; have f0 := o0.fro; have l0 := o0.lt))
  refine bodyPost_ret (v := .tuple #[.agg #[.string ⟨#[114, 118]⟩, .int .i64 2, .bool false, .func (.func 88) #[] #[]], .bool true]) (by simp [results, Tryz.results22, go_sem, c0, f0, l0]) rfl ⟨⟨b0, b1, b2, b3, b4, b5, b6, rfl, ?_⟩, by with_reducible (repeat' first | assumption | exact Below.refl _ _ | refine Below.drew ?_ | refine bdrewN ?_ _ | refine Below.setCell ?_ (by first | exact Nat.le_refl _ | (simp; done) | (simp; omega) | omega) _ | refine Below.alloc ?_ (by first | exact Nat.le_refl _ | (simp; done) | (simp; omega) | omega) _)⟩
  have hz : 1 < (#[.string ⟨#[]⟩, .int .i64 0, .bool false, .nilFunc] : Array Value).size := by decide
  exact put4 hT o0
theorem idx_10 (b0 b1 b2 b3 b4 b5 b6 : Nat) (w : World) : (Instr.index 90 (.agg (tabA b0 b1 b2 b3 b4 b5 b6)) (.int .i64 10)).run Tryz.prog w = .ok (.agg #[.string ⟨#[114, 118, 114]⟩, .int .i64 3, .bool false, .func (.func 89) #[] #[]]) w := by kernel_rfl
theorem find_10 (w : World) : Calls Tryz.prog 22 #[.string ⟨#[83, 85, 77, 73, 70]⟩] w fun e w' => FndP 10 e w' ∧ Below w.heap.size w w' := by
  have hix := idx_10
  go_enter Tryz.func22, Tryz.ntmps22
  go_wp2_with (first | (go_at_call 47; refine (place_10 _).mono ?_; rintro e w5 ⟨rfl, rfl⟩) | (go_at_call 53; refine (table_any _).mono ?_; rintro e w1 ⟨⟨b0, b1, b2, b3, b4, b5, b6, rfl, hT⟩, hb⟩; have hB : Below w.heap.size w w1 := bup (by with_reducible (repeat' first | assumption | exact Below.refl _ _ | refine Below.drew ?_ | refine bdrewN ?_ _ | refine Below.setCell ?_ (by first | exact Nat.le_refl _ | (simp; done) | (simp; omega) | omega) _ | refine Below.alloc ?_ (by first | exact Nat.le_refl _ | (simp; done) | (simp; omega) | omega) _)) hb; have o0 : Own w1 w.heap.size #[.string ⟨#[]⟩, .int .i64 0, .bool false, .nilFunc] := Own.keep (by with_reducible (repeat' first | assumption | refine Own.drew ?_ | refine Own.drewN ?_ _ | (refine Own.at ?_; first | rfl | (simp; done)) | refine Own.past ?_ _)) hb; have c0 := o0.cell; have f0 := o0.fro; have l0 := o0.lt))
  refine bodyPost_ret (v := .tuple #[.agg #[.string ⟨#[114, 118, 114]⟩, .int .i64 3, .bool false, .func (.func 89) #[] #[]], .bool true]) (by simp [results, Tryz.results22, go_sem, c0, f0, l0]) rfl ⟨⟨b0, b1, b2, b3, b4, b5, b6, rfl, ?_⟩, by with_reducible (repeat' first | assumption | exact Below.refl _ _ | refine Below.drew ?_ | refine bdrewN ?_ _ | refine Below.setCell ?_ (by first | exact Nat.le_refl _ | (simp; done) | (simp; omega) | omega) _ | refine Below.alloc ?_ (by first | exact Nat.le_refl _ | (simp; done) | (simp; omega) | omega) _)⟩
  have hz : 1 < (#[.string ⟨#[]⟩, .int .i64 0, .bool false, .nilFunc] : Array Value).size := by decide
  exact put4 hT o0
theorem idx_11 (b0 b1 b2 b3 b4 b5 b6 : Nat) (w : World) : (Instr.index 90 (.agg (tabA b0 b1 b2 b3 b4 b5 b6)) (.int .i64 11)).run Tryz.prog w = .ok (.agg #[.string ⟨#[118, 114]⟩, .int .i64 2, .bool false, .func (.func 90) #[] #[]]) w := by kernel_rfl
theorem find_11 (w : World) : Calls Tryz.prog 22 #[.string ⟨#[77, 65, 84, 67, 72]⟩] w fun e w' => FndP 11 e w' ∧ Below w.heap.size w w' := by
  have hix := idx_11
  go_enter Tryz.func22, Tryz.ntmps22
  go_wp2_with (first | (go_at_call 47; refine (place_11 _).mono ?_; rintro e w5 ⟨rfl, rfl⟩) | (go_at_call 53; refine (table_any _).mono ?_; rintro e w1 ⟨⟨b0, b1, b2, b3, b4, b5, b6, rfl, hT⟩, hb⟩; have hB : Below w.heap.size w w1 := bup (by with_reducible (repeat' first | assumption | exact Below.refl _ _ | refine Below.drew ?_ | refine bdrewN ?_ _ | refine Below.setCell ?_ (by first | exact Nat.le_refl _ | (simp; done) | (simp; omega) | omega) _ | refine Below.alloc ?_ (by first | exact Nat.le_refl _ | (simp; done) | (simp; omega) | omega) _)) hb; have o0 : Own w1 w.heap.size #[.string ⟨#[]⟩, .int .i64 0, .bool false, .nilFunc] := Own.keep (by with_reducible (repeat' first | assumption | refine Own.drew ?_ | refine Own.drewN ?_ _ | (refine Own.at ?_; first | rfl | (simp; done)) | refine Own.past ?_ _)) hb; have c0 := o0.cell; have f0 := o0.fro; have l0 := o0.lt))
  refine bodyPost_ret (v := .tuple #[.agg #[.string ⟨#[118, 114]⟩, .int .i64 2, .bool false, .func (.func 90) #[] #[]], .bool true]) (by simp [results, Tryz.results22, go_sem, c0, f0, l0]) rfl ⟨⟨b0, b1, b2, b3, b4, b5, b6, rfl, ?_⟩, by with_reducible (repeat' first | assumption | exact Below.refl _ _ | refine Below.drew ?_ | refine bdrewN ?_ _ | refine Below.setCell ?_ (by first | exact Nat.le_refl _ | (simp; done) | (simp; omega) | omega) _ | refine Below.alloc ?_ (by first | exact Nat.le_refl _ | (simp; done) | (simp; omega) | omega) _)⟩
  have hz : 1 < (#[.string ⟨#[]⟩, .int .i64 0, .bool false, .nilFunc] : Array Value).size := by decide
  exact put4 hT o0
theorem idx_12 (b0 b1 b2 b3 b4 b5 b6 : Nat) (w : World) : (Instr.index 90 (.agg (tabA b0 b1 b2 b3 b4 b5 b6)) (.int .i64 12)).run Tryz.prog w = .ok (.agg #[.string ⟨#[118, 114, 114]⟩, .int .i64 3, .bool false, .func (.func 91) #[] #[]]) w := by kernel_rfl
theorem find_12 (w : World) : Calls Tryz.prog 22 #[.string ⟨#[76, 79, 79, 75, 85, 80]⟩] w fun e w' => FndP 12 e w' ∧ Below w.heap.size w w' := by
  have hix := idx_12
  go_enter Tryz.func22, Tryz.ntmps22
  go_wp2_with (first | (go_at_call 47; refine (place_12 _).mono ?_; rintro e w5 ⟨rfl, rfl⟩) | (go_at_call 53; refine (table_any _).mono ?_; rintro e w1 ⟨⟨b0, b1, b2, b3, b4, b5, b6, rfl, hT⟩, hb⟩; have hB : Below w.heap.size w w1 := bup (by with_reducible (repeat' first | assumption | exact Below.refl _ _ | refine Below.drew ?_ | refine bdrewN ?_ _ | refine Below.setCell ?_ (by first | exact Nat.le_refl _ | (simp; done) | (simp; omega) | omega) _ | refine Below.alloc ?_ (by first | exact Nat.le_refl _ | (simp; done) | (simp; omega) | omega) _)) hb; have o0 : Own w1 w.heap.size #[.string ⟨#[]⟩, .int .i64 0, .bool false, .nilFunc] := Own.keep (by with_reducible (repeat' first | assumption | refine Own.drew ?_ | refine Own.drewN ?_ _ | (refine Own.at ?_; first | rfl | (simp; done)) | refine Own.past ?_ _)) hb; have c0 := o0.cell; have f0 := o0.fro; have l0 := o0.lt))
  refine bodyPost_ret (v := .tuple #[.agg #[.string ⟨#[118, 114, 114]⟩, .int .i64 3, .bool false, .func (.func 91) #[] #[]], .bool true]) (by simp [results, Tryz.results22, go_sem, c0, f0, l0]) rfl ⟨⟨b0, b1, b2, b3, b4, b5, b6, rfl, ?_⟩, by with_reducible (repeat' first | assumption | exact Below.refl _ _ | refine Below.drew ?_ | refine bdrewN ?_ _ | refine Below.setCell ?_ (by first | exact Nat.le_refl _ | (simp; done) | (simp; omega) | omega) _ | refine Below.alloc ?_ (by first | exact Nat.le_refl _ | (simp; done) | (simp; omega) | omega) _)⟩
  have hz : 1 < (#[.string ⟨#[]⟩, .int .i64 0, .bool false, .nilFunc] : Array Value).size := by decide
  exact put4 hT o0
theorem idx_13 (b0 b1 b2 b3 b4 b5 b6 : Nat) (w : World) : (Instr.index 90 (.agg (tabA b0 b1 b2 b3 b4 b5 b6)) (.int .i64 13)).run Tryz.prog w = .ok (.agg #[.string ⟨#[114, 110, 110]⟩, .int .i64 3, .bool false, .func (.func 92) #[] #[]]) w := by kernel_rfl
theorem find_13 (w : World) : Calls Tryz.prog 22 #[.string ⟨#[73, 78, 68, 69, 88]⟩] w fun e w' => FndP 13 e w' ∧ Below w.heap.size w w' := by
  have hix := idx_13
  go_enter Tryz.func22, Tryz.ntmps22
  go_wp2_with (first | (go_at_call 47; refine (place_13 _).mono ?_; rintro e w5 ⟨rfl, rfl⟩) | (go_at_call 53; refine (table_any _).mono ?_; rintro e w1 ⟨⟨b0, b1, b2, b3, b4, b5, b6, rfl, hT⟩, hb⟩; have hB : Below w.heap.size w w1 := bup (by with_reducible (repeat' first | assumption | exact Below.refl _ _ | refine Below.drew ?_ | refine bdrewN ?_ _ | refine Below.setCell ?_ (by first | exact Nat.le_refl _ | (simp; done) | (simp; omega) | omega) _ | refine Below.alloc ?_ (by first | exact Nat.le_refl _ | (simp; done) | (simp; omega) | omega) _)) hb; have o0 : Own w1 w.heap.size #[.string ⟨#[]⟩, .int .i64 0, .bool false, .nilFunc] := Own.keep (by with_reducible (repeat' first | assumption | refine Own.drew ?_ | refine Own.drewN ?_ _ | (refine Own.at ?_; first | rfl | (simp; done)) | refine Own.past ?_ _)) hb; have c0 := o0.cell; have f0 := o0.fro; have l0 := o0.lt))
  refine bodyPost_ret (v := .tuple #[.agg #[.string ⟨#[114, 110, 110]⟩, .int .i64 3, .bool false, .func (.func 92) #[] #[]], .bool true]) (by simp [results, Tryz.results22, go_sem, c0, f0, l0]) rfl ⟨⟨b0, b1, b2, b3, b4, b5, b6, rfl, ?_⟩, by with_reducible (repeat' first | assumption | exact Below.refl _ _ | refine Below.drew ?_ | refine bdrewN ?_ _ | refine Below.setCell ?_ (by first | exact Nat.le_refl _ | (simp; done) | (simp; omega) | omega) _ | refine Below.alloc ?_ (by first | exact Nat.le_refl _ | (simp; done) | (simp; omega) | omega) _)⟩
  have hz : 1 < (#[.string ⟨#[]⟩, .int .i64 0, .bool false, .nilFunc] : Array Value).size := by decide
  exact put4 hT o0
theorem idx_14 (b0 b1 b2 b3 b4 b5 b6 : Nat) (w : World) : (Instr.index 90 (.agg (tabA b0 b1 b2 b3 b4 b5 b6)) (.int .i64 14)).run Tryz.prog w = .ok (.agg #[.string ⟨#[114, 110]⟩, .int .i64 2, .bool true, .func (.func 93) #[] #[]]) w := by kernel_rfl
theorem find_14 (w : World) : Calls Tryz.prog 22 #[.string ⟨#[76, 65, 82, 71, 69]⟩] w fun e w' => FndP 14 e w' ∧ Below w.heap.size w w' := by
  have hix := idx_14
  go_enter Tryz.func22, Tryz.ntmps22
  go_wp2_with (first | (go_at_call 47; refine (place_14 _).mono ?_; rintro e w5 ⟨rfl, rfl⟩) | (go_at_call 53; refine (table_any _).mono ?_; rintro e w1 ⟨⟨b0, b1, b2, b3, b4, b5, b6, rfl, hT⟩, hb⟩; have hB : Below w.heap.size w w1 := bup (by with_reducible (repeat' first | assumption | exact Below.refl _ _ | refine Below.drew ?_ | refine bdrewN ?_ _ | refine Below.setCell ?_ (by first | exact Nat.le_refl _ | (simp; done) | (simp; omega) | omega) _ | refine Below.alloc ?_ (by first | exact Nat.le_refl _ | (simp; done) | (simp; omega) | omega) _)) hb; have o0 : Own w1 w.heap.size #[.string ⟨#[]⟩, .int .i64 0, .bool false, .nilFunc] := Own.keep (by with_reducible (repeat' first | assumption | refine Own.drew ?_ | refine Own.drewN ?_ _ | (refine Own.at ?_; first | rfl | (simp; done)) | refine Own.past ?_ _)) hb; have c0 := o0.cell; have f0 := o0.fro; have l0 := o0.lt))
  refine bodyPost_ret (v := .tuple #[.agg #[.string ⟨#[114, 110]⟩, .int .i64 2, .bool true, .func (.func 93) #[] #[]], .bool true]) (by simp [results, Tryz.results22, go_sem, c0, f0, l0]) rfl ⟨⟨b0, b1, b2, b3, b4, b5, b6, rfl, ?_⟩, by with_reducible (repeat' first | assumption | exact Below.refl _ _ | refine Below.drew ?_ | refine bdrewN ?_ _ | refine Below.setCell ?_ (by first | exact Nat.le_refl _ | (simp; done) | (simp; omega) | omega) _ | refine Below.alloc ?_ (by first | exact Nat.le_refl _ | (simp; done) | (simp; omega) | omega) _)⟩
  have hz : 1 < (#[.string ⟨#[]⟩, .int .i64 0, .bool false, .nilFunc] : Array Value).size := by decide
  exact put4 hT o0
theorem idx_15 (b0 b1 b2 b3 b4 b5 b6 : Nat) (w : World) : (Instr.index 90 (.agg (tabA b0 b1 b2 b3 b4 b5 b6)) (.int .i64 15)).run Tryz.prog w = .ok (.agg #[.string ⟨#[118, 120]⟩, .int .i64 16, .bool true, .func (.func 94) #[] #[]]) w := by kernel_rfl
theorem find_15 (w : World) : Calls Tryz.prog 22 #[.string ⟨#[74, 79, 73, 78]⟩] w fun e w' => FndP 15 e w' ∧ Below w.heap.size w w' := by
  have hix := idx_15
  go_enter Tryz.func22, Tryz.ntmps22
  go_wp2_with (first | (go_at_call 47; refine (place_15 _).mono ?_; rintro e w5 ⟨rfl, rfl⟩) | (go_at_call 53; refine (table_any _).mono ?_; rintro e w1 ⟨⟨b0, b1, b2, b3, b4, b5, b6, rfl, hT⟩, hb⟩; have hB : Below w.heap.size w w1 := bup (by with_reducible (repeat' first | assumption | exact Below.refl _ _ | refine Below.drew ?_ | refine bdrewN ?_ _ | refine Below.setCell ?_ (by first | exact Nat.le_refl _ | (simp; done) | (simp; omega) | omega) _ | refine Below.alloc ?_ (by first | exact Nat.le_refl _ | (simp; done) | (simp; omega) | omega) _)) hb; have o0 : Own w1 w.heap.size #[.string ⟨#[]⟩, .int .i64 0, .bool false, .nilFunc] := Own.keep (by with_reducible (repeat' first | assumption | refine Own.drew ?_ | refine Own.drewN ?_ _ | (refine Own.at ?_; first | rfl | (simp; done)) | refine Own.past ?_ _)) hb; have c0 := o0.cell; have f0 := o0.fro; have l0 := o0.lt))
  refine bodyPost_ret (v := .tuple #[.agg #[.string ⟨#[118, 120]⟩, .int .i64 16, .bool true, .func (.func 94) #[] #[]], .bool true]) (by simp [results, Tryz.results22, go_sem, c0, f0, l0]) rfl ⟨⟨b0, b1, b2, b3, b4, b5, b6, rfl, ?_⟩, by with_reducible (repeat' first | assumption | exact Below.refl _ _ | refine Below.drew ?_ | refine bdrewN ?_ _ | refine Below.setCell ?_ (by first | exact Nat.le_refl _ | (simp; done) | (simp; omega) | omega) _ | refine Below.alloc ?_ (by first | exact Nat.le_refl _ | (simp; done) | (simp; omega) | omega) _)⟩
  have hz : 1 < (#[.string ⟨#[]⟩, .int .i64 0, .bool false, .nilFunc] : Array Value).size := by decide
  exact put4 hT o0
theorem idx_16 (b0 b1 b2 b3 b4 b5 b6 : Nat) (w : World) : (Instr.index 90 (.agg (tabA b0 b1 b2 b3 b4 b5 b6)) (.int .i64 16)).run Tryz.prog w = .ok (.agg #[.string ⟨#[114]⟩, .int .i64 1, .bool false, .func (.func 95) #[] #[]]) w := by kernel_rfl
theorem find_16 (w : World) : Calls Tryz.prog 22 #[.string ⟨#[82, 79, 87, 83]⟩] w fun e w' => FndP 16 e w' ∧ Below w.heap.size w w' := by
  have hix := idx_16
  go_enter Tryz.func22, Tryz.ntmps22
  go_wp2_with (first | (go_at_call 47; refine (place_16 _).mono ?_; rintro e w5 ⟨rfl, rfl⟩) | (go_at_call 53; refine (table_any _).mono ?_; rintro e w1 ⟨⟨b0, b1, b2, b3, b4, b5, b6, rfl, hT⟩, hb⟩; have hB : Below w.heap.size w w1 := bup (by with_reducible (repeat' first | assumption | exact Below.refl _ _ | refine Below.drew ?_ | refine bdrewN ?_ _ | refine Below.setCell ?_ (by first | exact Nat.le_refl _ | (simp; done) | (simp; omega) | omega) _ | refine Below.alloc ?_ (by first | exact Nat.le_refl _ | (simp; done) | (simp; omega) | omega) _)) hb; have o0 : Own w1 w.heap.size #[.string ⟨#[]⟩, .int .i64 0, .bool false, .nilFunc] := Own.keep (by with_reducible (repeat' first | assumption | refine Own.drew ?_ | refine Own.drewN ?_ _ | (refine Own.at ?_; first | rfl | (simp; done)) | refine Own.past ?_ _)) hb; have c0 := o0.cell; have f0 := o0.fro; have l0 := o0.lt))
  refine bodyPost_ret (v := .tuple #[.agg #[.string ⟨#[114]⟩, .int .i64 1, .bool false, .func (.func 95) #[] #[]], .bool true]) (by simp [results, Tryz.results22, go_sem, c0, f0, l0]) rfl ⟨⟨b0, b1, b2, b3, b4, b5, b6, rfl, ?_⟩, by with_reducible (repeat' first | assumption | exact Below.refl _ _ | refine Below.drew ?_ | refine bdrewN ?_ _ | refine Below.setCell ?_ (by first | exact Nat.le_refl _ | (simp; done) | (simp; omega) | omega) _ | refine Below.alloc ?_ (by first | exact Nat.le_refl _ | (simp; done) | (simp; omega) | omega) _)⟩
  have hz : 1 < (#[.string ⟨#[]⟩, .int .i64 0, .bool false, .nilFunc] : Array Value).size := by decide
  exact put4 hT o0
theorem idx_17 (b0 b1 b2 b3 b4 b5 b6 : Nat) (w : World) : (Instr.index 90 (.agg (tabA b0 b1 b2 b3 b4 b5 b6)) (.int .i64 17)).run Tryz.prog w = .ok (.agg #[.string ⟨#[114]⟩, .int .i64 1, .bool false, .func (.func 96) #[] #[]]) w := by kernel_rfl
theorem find_17 (w : World) : Calls Tryz.prog 22 #[.string ⟨#[67, 79, 76, 83]⟩] w fun e w' => FndP 17 e w' ∧ Below w.heap.size w w' := by
  have hix := idx_17
  go_enter Tryz.func22, Tryz.ntmps22
  go_wp2_with (first | (go_at_call 47; refine (place_17 _).mono ?_; rintro e w5 ⟨rfl, rfl⟩) | (go_at_call 53; refine (table_any _).mono ?_; rintro e w1 ⟨⟨b0, b1, b2, b3, b4, b5, b6, rfl, hT⟩, hb⟩; have hB : Below w.heap.size w w1 := bup (by with_reducible (repeat' first | assumption | exact Below.refl _ _ | refine Below.drew ?_ | refine bdrewN ?_ _ | refine Below.setCell ?_ (by first | exact Nat.le_refl _ | (simp; done) | (simp; omega) | omega) _ | refine Below.alloc ?_ (by first | exact Nat.le_refl _ | (simp; done) | (simp; omega) | omega) _)) hb; have o0 : Own w1 w.heap.size #[.string ⟨#[]⟩, .int .i64 0, .bool false, .nilFunc] := Own.keep (by with_reducible (repeat' first | assumption | refine Own.drew ?_ | refine Own.drewN ?_ _ | (refine Own.at ?_; first | rfl | (simp; done)) | refine Own.past ?_ _)) hb; have c0 := o0.cell; have f0 := o0.fro; have l0 := o0.lt))
  refine bodyPost_ret (v := .tuple #[.agg #[.string ⟨#[114]⟩, .int .i64 1, .bool false, .func (.func 96) #[] #[]], .bool true]) (by simp [results, Tryz.results22, go_sem, c0, f0, l0]) rfl ⟨⟨b0, b1, b2, b3, b4, b5, b6, rfl, ?_⟩, by with_reducible (repeat' first | assumption | exact Below.refl _ _ | refine Below.drew ?_ | refine bdrewN ?_ _ | refine Below.setCell ?_ (by first | exact Nat.le_refl _ | (simp; done) | (simp; omega) | omega) _ | refine Below.alloc ?_ (by first | exact Nat.le_refl _ | (simp; done) | (simp; omega) | omega) _)⟩
  have hz : 1 < (#[.string ⟨#[]⟩, .int .i64 0, .bool false, .nilFunc] : Array Value).size := by decide
  exact put4 hT o0
theorem find_no (s : ByteArray) (w : World) (h : ¬ nmI s < 18) : Calls Tryz.prog 22 #[.string s] w fun e w' => e = .returned (.tuple #[.agg #[.string ⟨#[]⟩, .int .i64 0, .bool false, .nilFunc], .bool false]) ∧ Below w.heap.size w w' := by
  have hp := place_any s
  rw [if_neg h, decide_eq_false h] at hp
  go_enter Tryz.func22, Tryz.ntmps22
  go_wp2_with (go_at_call 47; refine (hp _).mono ?_; rintro e w5 ⟨rfl, rfl⟩)
  exact bodyPost_ret (v := .tuple #[.agg #[.string ⟨#[]⟩, .int .i64 0, .bool false, .nilFunc], .bool false]) (by simp [results, Tryz.results22, go_sem]) rfl ⟨rfl, by with_reducible (repeat' first | assumption | exact Below.refl _ _ | refine Below.drew ?_ | refine bdrewN ?_ _ | refine Below.setCell ?_ (by first | exact Nat.le_refl _ | (simp; done) | (simp; omega) | omega) _ | refine Below.alloc ?_ (by first | exact Nat.le_refl _ | (simp; done) | (simp; omega) | omega) _)⟩
theorem find_any (s : ByteArray) (w : World) (h : nmI s < 18) : Calls Tryz.prog 22 #[.string s] w fun e w' => FndP (nmI s) e w' ∧ Below w.heap.size w w' := by
  have e := nm_at h
  generalize nmI s = k at h e ⊢
  subst e
  match k, h with
  | 0, _ => exact find_0 w
  | 1, _ => exact find_1 w
  | 2, _ => exact find_2 w
  | 3, _ => exact find_3 w
  | 4, _ => exact find_4 w
  | 5, _ => exact find_5 w
  | 6, _ => exact find_6 w
  | 7, _ => exact find_7 w
  | 8, _ => exact find_8 w
  | 9, _ => exact find_9 w
  | 10, _ => exact find_10 w
  | 11, _ => exact find_11 w
  | 12, _ => exact find_12 w
  | 13, _ => exact find_13 w
  | 14, _ => exact find_14 w
  | 15, _ => exact find_15 w
  | 16, _ => exact find_16 w
  | 17, _ => exact find_17 w
  | j + 18, h => exact absurd h (by omega)
theorem known_any (s : ByteArray) (w : World) : Calls Tryz.prog 12 #[.string s] w fun e w' => e = .returned (.bool (decide (nmI s < 18))) ∧ w' = w := by
  have hp := place_any s w
  generalize (if nmI s < 18 then (nmI s : Int) else 0) = r at hp
  generalize decide (nmI s < 18) = q at hp ⊢
  go_enter Tryz.func12, Tryz.ntmps12
  go_wp2_with (go_at_call 47; refine hp.mono ?_; rintro e w5 ⟨rfl, rfl⟩)
  go_ret
  exact ⟨rfl, rfl⟩
end Go.Proofs.YtcgcnpcimfaecaaGreatDoor
namespace Go.Proofs.YtcgcnpcimfaecaaGreatDoor
open Go.RowKit
set_option linter.all false
/-- The kind of a place; the last one stands for all behind it. -/
def kdB (p : ByteArray) (i : Nat) : UInt8 := (p.data[min i (p.size - 1)]?).getD 0
/-- Whether a place of a kind may have a rectangle (or a single one). -/
def okK (k : UInt8) (m : Bool) : Bool := k == 120 || m == (k == 114)
def takB (p : ByteArray) (mo : Int) (l : List Bool) : Bool := decide (p.size ≤ l.length) && decide ((l.length : Int) ≤ mo) && l.zipIdx.all (fun q => okK (kdB p q.2) q.1)
theorem kind_any (p : ByteArray) (mo : Int) (st : Bool) (fp : Fn) (fc fl : Array Value) (i : Nat) (w : World) (hp : 0 < p.size) (hp2 : p.size ≤ 16) (hi : i ≤ 1099511627776) : Calls Tryz.prog 54 #[.agg #[.string p, .int .i64 mo, .bool st, .func fp fc fl], .int .i64 (i : Int)] w fun e w' => e = .returned (.int .u8 ((kdB p i).toNat : Int)) ∧ Below w.heap.size w w' := by
  obtain ⟨k, hk⟩ : ∃ k : Nat, min i (p.size - 1) = k := ⟨_, rfl⟩
  have hks : k < p.size := by omega
  have hks' : (k : Int) < (p.size : Int) := by omega
  have hm : min (i : Int) ((p.size : Int) - 1) = (k : Int) := by omega
  have e : kdB p i = p[k]'hks := by unfold kdB; rw [hk, Array.getElem?_eq_getElem (show k < p.data.size from hks)]; rfl
  go_enter Tryz.func54, Tryz.ntmps54
  go_wp2
  go_ret
  exact ⟨by rw [e]; rfl, by with_reducible (repeat' first | assumption | exact Below.refl _ _ | refine Below.drew ?_ | refine bdrewN ?_ _ | refine Below.setCell ?_ (by first | exact Nat.le_refl _ | (simp; done) | (simp; omega) | omega) _ | refine Below.alloc ?_ (by first | exact Nat.le_refl _ | (simp; done) | (simp; omega) | omega) _)⟩
theorem u8i (k c : UInt8) (n : Int) (h : (c.toNat : Int) = n) : ((k.toNat : Int) == n) = (k == c) := by
  subst h
  rw [Bool.eq_iff_iff]; simp only [beq_iff_eq]
  constructor
  · intro q; exact UInt8.toNat_inj.1 (by omega)
  · intro q; rw [q]
theorem u8n (k c : UInt8) (n : Int) (h : (c.toNat : Int) = n) : ((k.toNat : Int) != n) = (k != c) := by
  unfold bne; rw [u8i k c n h]
theorem zip_all (p : ByteArray) (l : List Bool) : l.zipIdx.all (fun q => okK (kdB p q.2) q.1) = true ↔ ∀ j x, l[j]? = some x → okK (kdB p j) x = true := by
  rw [List.all_eq_true]
  constructor
  · intro h j x hj
    exact h (x, j) (List.mem_zipIdx_iff_getElem?.2 hj)
  · intro h q hq
    exact h q.2 q.1 (List.mem_zipIdx_iff_getElem?.1 hq)
theorem tak_no {p : ByteArray} {mo : Int} {l : List Bool} {i : Nat} {x : Bool} (h : l[i]? = some x) (hx : okK (kdB p i) x = false) : takB p mo l = false := by
  have : l.zipIdx.all (fun q => okK (kdB p q.2) q.1) = false := by
    cases hc : l.zipIdx.all (fun q => okK (kdB p q.2) q.1)
    · rfl
    · rw [(zip_all p l).1 hc i x h] at hx; cases hx
  unfold takB; rw [this, Bool.and_false]
theorem tak_yes {p : ByteArray} {mo : Int} {l : List Bool} (h1 : p.size ≤ l.length) (h2 : (l.length : Int) ≤ mo) (h : ∀ j x, l[j]? = some x → okK (kdB p j) x = true) : takB p mo l = true := by
  unfold takB; rw [(zip_all p l).2 h, decide_eq_true h1, decide_eq_true h2]; rfl
theorem takes_few (p : ByteArray) (mo : Int) (st : Bool) (fp : Fn) (fc fl : Array Value) (w : World) (q : Option Addr) (n c : Nat) (h : (n : Int) < (p.size : Int)) : Calls Tryz.prog 23 #[.agg #[.string p, .int .i64 mo, .bool st, .func fp fc fl], .slice q n c] w fun e w' => e = .returned (.bool false) ∧ Below w.heap.size w w' := by
  go_enter Tryz.func23, Tryz.ntmps23
  go_wp2
  go_ret
  exact ⟨rfl, by with_reducible (repeat' first | assumption | exact Below.refl _ _ | refine Below.drew ?_ | refine bdrewN ?_ _ | refine Below.setCell ?_ (by first | exact Nat.le_refl _ | (simp; done) | (simp; omega) | omega) _ | refine Below.alloc ?_ (by first | exact Nat.le_refl _ | (simp; done) | (simp; omega) | omega) _)⟩
theorem takes_more (p : ByteArray) (mo : Int) (st : Bool) (fp : Fn) (fc fl : Array Value) (w : World) (q : Option Addr) (n c : Nat) (h : ¬ (n : Int) < (p.size : Int)) (h2 : mo < (n : Int)) : Calls Tryz.prog 23 #[.agg #[.string p, .int .i64 mo, .bool st, .func fp fc fl], .slice q n c] w fun e w' => e = .returned (.bool false) ∧ Below w.heap.size w w' := by
  go_enter Tryz.func23, Tryz.ntmps23
  go_wp2
  go_ret
  exact ⟨rfl, by with_reducible (repeat' first | assumption | exact Below.refl _ _ | refine Below.drew ?_ | refine bdrewN ?_ _ | refine Below.setCell ?_ (by first | exact Nat.le_refl _ | (simp; done) | (simp; omega) | omega) _ | refine Below.alloc ?_ (by first | exact Nat.le_refl _ | (simp; done) | (simp; omega) | omega) _)⟩
set_option maxHeartbeats 1000000 in
theorem takes_in (p : ByteArray) (mo : Int) (st : Bool) (fp : Fn) (fc fl : Array Value) (w : World) (b o c n : Nat) (l : List Bool) (hla : b < w.heap.size) (HA : ∀ i x, l[i]? = some x → ∀ j, j < 1 → w.cell? ⟨b, o + i * 1 + j, none⟩ = (bcell1 x)[j]?) (hn : l.length = n) (hc : n ≤ c) (hp : 0 < p.size) (hp2 : p.size ≤ 16) (h : ¬ (n : Int) < (p.size : Int)) (h2 : ¬ mo < (n : Int)) (hm : mo ≤ 16) : Calls Tryz.prog 23 #[.agg #[.string p, .int .i64 mo, .bool st, .func fp fc fl], .slice (some ⟨b, o, none⟩) n c] w fun e w' => e = .returned (.bool (takB p mo l)) ∧ Below w.heap.size w w' := by
  have HA' : Hid _ := HA
  have HL : Hid (l.length = n) := hn
  clear HA hn
  go_enter Tryz.func23, Tryz.ntmps23
  go_wp2
  go_loopw [23] (fun v w' => ∃ i : Nat, v = .int .i64 i ∧ i ≤ n ∧ Hid (∀ j x, j < i → l[j]? = some x → okK (kdB p j) x = true) ∧ Below w.heap.size w w' ∧ Own w' w.heap.size #[.string p, .int .i64 mo, .bool st, .func fp fc fl]) (fun v _ => n - (intOf v).toNat)
  case atStart => exact ⟨0, rfl, by omega, (show Hid _ from fun j x hj => absurd hj (by omega)), by with_reducible (repeat' first | assumption | exact Below.refl _ _ | refine Below.drew ?_ | refine bdrewN ?_ _ | refine Below.setCell ?_ (by first | exact Nat.le_refl _ | (simp; done) | (simp; omega) | omega) _ | refine Below.alloc ?_ (by first | exact Nat.le_refl _ | (simp; done) | (simp; omega) | omega) _), by with_reducible (repeat' first | assumption | refine Own.drew ?_ | refine Own.drewN ?_ _ | (refine Own.at ?_; first | rfl | (simp; done)) | refine Own.past ?_ _)⟩
  case round =>
    obtain ⟨i, rfl, hi, htk, hB3, o0⟩ := hrel
    have c0 := o0.cell
    have f0 := o0.fro
    have l0 := o0.lt
    have z3 := hB3.size
    by_cases hlt : i < n
    · have hlt' : (i : Int) < n := by omega
      have hai : l[i]? = some (l[i]'(by rw [HL.out]; exact hlt)) := List.getElem?_eq_getElem _
      have y0 := HA'.out i _ hai 0 (by decide)
      have HAi : Hid _ := hai
      revert y0 HAi
      generalize (l[i]'(by rw [HL.out]; exact hlt)) = x
      intro y0 HAi
      clear hai
      rw [Nat.mul_one, Nat.add_zero] at y0
      have x0 : wr.cell? ⟨b, o + i, none⟩ = some (.bool x) := (hB3.cell (p := ⟨b, o + i, none⟩) hla).trans y0
      clear y0
      have hK := fun W => kind_any p mo st fp fc fl i W hp hp2 (by omega)
      cases hok : okK (kdB p i) x
      · have HO : Hid _ := hok
        unfold okK at hok
        simp only [Bool.or_eq_false_iff] at hok
        have HR : Hid (takB p mo l = false) := (show _ from tak_no HAi.out HO.out)
        obtain ⟨hk1, hk2⟩ := hok
        have e1 : (((kdB p i).toNat : Int) != 120) = true := by rw [u8n _ 120 120 rfl]; unfold bne; rw [hk1]; rfl
        have e4 : (((kdB p i).toNat : Int) == 114) = !x := by
          rw [u8i _ 114 114 rfl]; revert hk2; cases x <;> cases (kdB p i == 114) <;> decide
        clear hk1 hk2
        generalize (kdB p i).toNat = kd at *
        cases x
        · replace e4 : ((kd : Int) == 114) = true := e4
          go_wp2_with (go_at_call 54; refine (hK _).mono ?_; rintro e w1 ⟨rfl, hb⟩; have hB : Below w.heap.size w w1 := bup (by with_reducible (repeat' first | assumption | exact Below.refl _ _ | refine Below.drew ?_ | refine bdrewN ?_ _ | refine Below.setCell ?_ (by first | exact Nat.le_refl _ | (simp; done) | (simp; omega) | omega) _ | refine Below.alloc ?_ (by first | exact Nat.le_refl _ | (simp; done) | (simp; omega) | omega) _)) hb; have o0 : Own w1 (w.heap.size) #[.string p, .int .i64 mo, .bool st, .func fp fc fl] := Own.keep (by with_reducible (repeat' first | assumption | refine Own.drew ?_ | refine Own.drewN ?_ _ | (refine Own.at ?_; first | rfl | (simp; done)) | refine Own.past ?_ _)) hb; have c0 := o0.cell; have f0 := o0.fro; have l0 := o0.lt)
          go_ret
          exact ⟨by rw [HR.out]; rfl, by with_reducible (repeat' first | assumption | exact Below.refl _ _ | refine Below.drew ?_ | refine bdrewN ?_ _ | refine Below.setCell ?_ (by first | exact Nat.le_refl _ | (simp; done) | (simp; omega) | omega) _ | refine Below.alloc ?_ (by first | exact Nat.le_refl _ | (simp; done) | (simp; omega) | omega) _)⟩
        · replace e4 : ((kd : Int) == 114) = false := e4
          go_wp2_with (go_at_call 54; refine (hK _).mono ?_; rintro e w1 ⟨rfl, hb⟩; have hB : Below w.heap.size w w1 := bup (by with_reducible (repeat' first | assumption | exact Below.refl _ _ | refine Below.drew ?_ | refine bdrewN ?_ _ | refine Below.setCell ?_ (by first | exact Nat.le_refl _ | (simp; done) | (simp; omega) | omega) _ | refine Below.alloc ?_ (by first | exact Nat.le_refl _ | (simp; done) | (simp; omega) | omega) _)) hb; have o0 : Own w1 (w.heap.size) #[.string p, .int .i64 mo, .bool st, .func fp fc fl] := Own.keep (by with_reducible (repeat' first | assumption | refine Own.drew ?_ | refine Own.drewN ?_ _ | (refine Own.at ?_; first | rfl | (simp; done)) | refine Own.past ?_ _)) hb; have c0 := o0.cell; have f0 := o0.fro; have l0 := o0.lt)
          go_ret
          exact ⟨by rw [HR.out]; rfl, by with_reducible (repeat' first | assumption | exact Below.refl _ _ | refine Below.drew ?_ | refine bdrewN ?_ _ | refine Below.setCell ?_ (by first | exact Nat.le_refl _ | (simp; done) | (simp; omega) | omega) _ | refine Below.alloc ?_ (by first | exact Nat.le_refl _ | (simp; done) | (simp; omega) | omega) _)⟩
      · have HO : Hid _ := hok
        have HT : Hid (∀ j x, j < i + 1 → l[j]? = some x → okK (kdB p j) x = true) := (show ∀ j x, j < i + 1 → l[j]? = some x → okK (kdB p j) x = true from fun j x' hj hx' => by
          by_cases e : j < i
          · exact htk.out j x' e hx'
          · have : j = i := by omega
            subst this
            have := HAi.out.symm.trans hx'
            cases this
            exact HO.out)
        unfold okK at hok
        cases hk1 : (((kdB p i).toNat : Int) != 120)
        · generalize (kdB p i).toNat = kd at *
          go_wp2_with (go_at_call 54; refine (hK _).mono ?_; rintro e w1 ⟨rfl, hb⟩; have hB : Below w.heap.size w w1 := bup (by with_reducible (repeat' first | assumption | exact Below.refl _ _ | refine Below.drew ?_ | refine bdrewN ?_ _ | refine Below.setCell ?_ (by first | exact Nat.le_refl _ | (simp; done) | (simp; omega) | omega) _ | refine Below.alloc ?_ (by first | exact Nat.le_refl _ | (simp; done) | (simp; omega) | omega) _)) hb; have o0 : Own w1 (w.heap.size) #[.string p, .int .i64 mo, .bool st, .func fp fc fl] := Own.keep (by with_reducible (repeat' first | assumption | refine Own.drew ?_ | refine Own.drewN ?_ _ | (refine Own.at ?_; first | rfl | (simp; done)) | refine Own.past ?_ _)) hb; have c0 := o0.cell; have f0 := o0.fro; have l0 := o0.lt)
          exact ⟨⟨i + 1, by go_num, by omega, HT, by with_reducible (repeat' first | assumption | exact Below.refl _ _ | refine Below.drew ?_ | refine bdrewN ?_ _ | refine Below.setCell ?_ (by first | exact Nat.le_refl _ | (simp; done) | (simp; omega) | omega) _ | refine Below.alloc ?_ (by first | exact Nat.le_refl _ | (simp; done) | (simp; omega) | omega) _), by with_reducible (repeat' first | assumption | refine Own.drew ?_ | refine Own.drewN ?_ _ | (refine Own.at ?_; first | rfl | (simp; done)) | refine Own.past ?_ _)⟩, by simp [intOf]; omega⟩
        · have e1 : (kdB p i == 120) = false := by rw [u8n _ 120 120 rfl] at hk1; simpa [bne] using hk1
          rw [e1, Bool.false_or] at hok
          have e4 : (((kdB p i).toNat : Int) == 114) = x := by
            rw [u8i _ 114 114 rfl]; revert hok; cases x <;> cases (kdB p i == 114) <;> decide
          clear hok e1
          generalize (kdB p i).toNat = kd at *
          cases x
          · replace e4 : ((kd : Int) == 114) = false := e4
            go_wp2_with (go_at_call 54; refine (hK _).mono ?_; rintro e w1 ⟨rfl, hb⟩; have hB : Below w.heap.size w w1 := bup (by with_reducible (repeat' first | assumption | exact Below.refl _ _ | refine Below.drew ?_ | refine bdrewN ?_ _ | refine Below.setCell ?_ (by first | exact Nat.le_refl _ | (simp; done) | (simp; omega) | omega) _ | refine Below.alloc ?_ (by first | exact Nat.le_refl _ | (simp; done) | (simp; omega) | omega) _)) hb; have o0 : Own w1 (w.heap.size) #[.string p, .int .i64 mo, .bool st, .func fp fc fl] := Own.keep (by with_reducible (repeat' first | assumption | refine Own.drew ?_ | refine Own.drewN ?_ _ | (refine Own.at ?_; first | rfl | (simp; done)) | refine Own.past ?_ _)) hb; have c0 := o0.cell; have f0 := o0.fro; have l0 := o0.lt)
            exact ⟨⟨i + 1, by go_num, by omega, HT, by with_reducible (repeat' first | assumption | exact Below.refl _ _ | refine Below.drew ?_ | refine bdrewN ?_ _ | refine Below.setCell ?_ (by first | exact Nat.le_refl _ | (simp; done) | (simp; omega) | omega) _ | refine Below.alloc ?_ (by first | exact Nat.le_refl _ | (simp; done) | (simp; omega) | omega) _), by with_reducible (repeat' first | assumption | refine Own.drew ?_ | refine Own.drewN ?_ _ | (refine Own.at ?_; first | rfl | (simp; done)) | refine Own.past ?_ _)⟩, by simp [intOf]; omega⟩
          · replace e4 : ((kd : Int) == 114) = true := e4
            go_wp2_with (go_at_call 54; refine (hK _).mono ?_; rintro e w1 ⟨rfl, hb⟩; have hB : Below w.heap.size w w1 := bup (by with_reducible (repeat' first | assumption | exact Below.refl _ _ | refine Below.drew ?_ | refine bdrewN ?_ _ | refine Below.setCell ?_ (by first | exact Nat.le_refl _ | (simp; done) | (simp; omega) | omega) _ | refine Below.alloc ?_ (by first | exact Nat.le_refl _ | (simp; done) | (simp; omega) | omega) _)) hb; have o0 : Own w1 (w.heap.size) #[.string p, .int .i64 mo, .bool st, .func fp fc fl] := Own.keep (by with_reducible (repeat' first | assumption | refine Own.drew ?_ | refine Own.drewN ?_ _ | (refine Own.at ?_; first | rfl | (simp; done)) | refine Own.past ?_ _)) hb; have c0 := o0.cell; have f0 := o0.fro; have l0 := o0.lt)
            exact ⟨⟨i + 1, by go_num, by omega, HT, by with_reducible (repeat' first | assumption | exact Below.refl _ _ | refine Below.drew ?_ | refine bdrewN ?_ _ | refine Below.setCell ?_ (by first | exact Nat.le_refl _ | (simp; done) | (simp; omega) | omega) _ | refine Below.alloc ?_ (by first | exact Nat.le_refl _ | (simp; done) | (simp; omega) | omega) _), by with_reducible (repeat' first | assumption | refine Own.drew ?_ | refine Own.drewN ?_ _ | (refine Own.at ?_; first | rfl | (simp; done)) | refine Own.past ?_ _)⟩, by simp [intOf]; omega⟩
    · have hlt' : ¬ (i : Int) < n := by omega
      have HR : Hid (takB p mo l = true) := (show _ from tak_yes (by rw [HL.out]; omega) (by rw [HL.out]; omega) (fun j x hj => htk.out j x (by have := (List.getElem?_eq_some_iff.1 hj).1; rw [HL.out] at this; omega) hj))
      go_wp2
      go_ret
      exact ⟨by rw [HR.out]; rfl, by with_reducible (repeat' first | assumption | exact Below.refl _ _ | refine Below.drew ?_ | refine bdrewN ?_ _ | refine Below.setCell ?_ (by first | exact Nat.le_refl _ | (simp; done) | (simp; omega) | omega) _ | refine Below.alloc ?_ (by first | exact Nat.le_refl _ | (simp; done) | (simp; omega) | omega) _)⟩
theorem takes_any (p : ByteArray) (mo : Int) (st : Bool) (fp : Fn) (fc fl : Array Value) (w : World) (v : Value) (l : List Bool) (hv : BV w v l) (hp : 0 < p.size) (hp2 : p.size ≤ 16) (hm : mo ≤ 16) : Calls Tryz.prog 23 #[.agg #[.string p, .int .i64 mo, .bool st, .func fp fc fl], v] w fun e w' => e = .returned (.bool (takB p mo l)) ∧ Below w.heap.size w w' := by
  obtain ⟨q, c, rfl, hc, hf⟩ := hv
  by_cases h : (l.length : Int) < (p.size : Int)
  · have : takB p mo l = false := by unfold takB; rw [decide_eq_false (show ¬ p.size ≤ l.length by omega)]; rfl
    rw [this]
    exact takes_few p mo st fp fc fl w q _ c h
  by_cases h2 : mo < (l.length : Int)
  · have : takB p mo l = false := by unfold takB; rw [decide_eq_false (show ¬ (l.length : Int) ≤ mo by omega), Bool.and_false]; rfl
    rw [this]
    exact takes_more p mo st fp fc fl w q _ c h h2
  obtain ⟨b, o, rfl, hlt, HA⟩ := hf (by omega)
  exact takes_in p mo st fp fc fl w b o c _ l hlt HA rfl hc hp hp2 h h2 hm
end Go.Proofs.YtcgcnpcimfaecaaGreatDoor
