/- StampsBelow's walk. -/
import Derived.Test.YtmajbophgdimlaaLF
namespace Go.Proofs.Ytmajbophgdimlaa
open Go.RowKit
set_option linter.all false
theorem cz_last {F : Nat → Prop} {W : World} {N : Nat} {most last turns : Int} {S : St} {i : Nat} {L : List Cl} (h : Cz F W N most last turns S i L) : Calls Try.prog 13 #[.pointer (some ⟨N, 0, none⟩)] W fun e w' => e = .returned (.int .i64 last) ∧ Below W.heap.size W w' := by
  obtain ⟨bm, G, hc⟩ := h.ck
  exact klast_any W F N bm G most last turns S i hc
theorem cz_turns {F : Nat → Prop} {W : World} {N : Nat} {most last turns : Int} {S : St} {i : Nat} {L : List Cl} (h : Cz F W N most last turns S i L) : Calls Try.prog 14 #[.pointer (some ⟨N, 0, none⟩)] W fun e w' => e = .returned (.int .i64 turns) ∧ Below W.heap.size W w' := by
  obtain ⟨bm, G, hc⟩ := h.ck
  exact kturns_any W F N bm G most last turns S i hc
theorem cz_get {F : Nat → Prop} {W : World} {N : Nat} {most last turns : Int} {S : St} {i : Nat} {L : List Cl} (h : Cz F W N most last turns S i L) (x y : Int) (hx : I64 x) (hy : I64 y) : Calls Try.prog 15 #[.pointer (some ⟨N, 0, none⟩), .agg #[.int .i64 x, .int .i64 y]] W fun e w' => e = .returned (.tuple #[.agg #[.int .i64 (chg S x y), .int .i64 (sen S x y)], .bool (S x y).isSome]) ∧ Below W.heap.size W w' := by
  obtain ⟨bm, G, hc⟩ := h.ck
  exact kget_any W F N bm G most last turns S i x y hc hx hy
set_option maxRecDepth 100000 in
set_option maxHeartbeats 4000000 in
theorem below_bad (w : World) (q : Option Addr) (n cap : Nat) (most : Int) (hm : most < 2 ∨ 1099511627776 < most) : Calls Try.prog 4 #[.slice q n cap, .int .i64 most] w fun e w' => e = .returned (.bool true) ∧ Below w.heap.size w w' := by
  have mixed : Try.prog.follows .mixedOrders = true := by kernel_rfl
  have H1 : Hid (∀ W, Calls Try.prog 6 #[.int .i64 most] W fun e w' => e = .returned (.tuple #[.pointer none, .int .i64 1]) ∧ Below W.heap.size W w') := (show _ from fun W => knew_bad W most hm)
  have H2 : Hid (∀ W, Calls Try.prog 5 #[] W fun e w' => e = .returned (.bool true) ∧ Below W.heap.size W w') := lknown_any
  rcases hm with hm | hm
  · go_enter Try.func4, Try.ntmps4
    go_wp2_with (first
      | (go_at_call 6; refine (H1.out _).mono ?_; rintro e wa ⟨rfl, hb⟩; have hBa : Below w.heap.size w wa := bup (by with_reducible (repeat' first | assumption | exact Below.refl _ _ | refine Below.drew ?_ | refine bdrewN ?_ _ | refine Below.setCell ?_ (by first | exact Nat.le_refl _ | (simp; done) | (simp; omega) | omega) _ | refine Below.alloc ?_ (by first | exact Nat.le_refl _ | (simp; done) | (simp; omega) | omega) _)) hb; clear hb)
      | (go_at_call 5; refine (H2.out _).mono ?_; rintro e wb ⟨rfl, hb⟩; have hBb : Below w.heap.size w wb := bup (by with_reducible (repeat' first | assumption | exact Below.refl _ _ | refine Below.drew ?_ | refine bdrewN ?_ _ | refine Below.setCell ?_ (by first | exact Nat.le_refl _ | (simp; done) | (simp; omega) | omega) _ | refine Below.alloc ?_ (by first | exact Nat.le_refl _ | (simp; done) | (simp; omega) | omega) _)) hb; clear hb))
    go_ret
    exact ⟨rfl, by with_reducible (repeat' first | assumption | exact Below.refl _ _ | refine Below.drew ?_ | refine bdrewN ?_ _ | refine Below.setCell ?_ (by first | exact Nat.le_refl _ | (simp; done) | (simp; omega) | omega) _ | refine Below.alloc ?_ (by first | exact Nat.le_refl _ | (simp; done) | (simp; omega) | omega) _)⟩
  · have hm2 : ¬ most < 2 := by omega
    go_enter Try.func4, Try.ntmps4
    go_wp2_with (first
      | (go_at_call 6; refine (H1.out _).mono ?_; rintro e wa ⟨rfl, hb⟩; have hBa : Below w.heap.size w wa := bup (by with_reducible (repeat' first | assumption | exact Below.refl _ _ | refine Below.drew ?_ | refine bdrewN ?_ _ | refine Below.setCell ?_ (by first | exact Nat.le_refl _ | (simp; done) | (simp; omega) | omega) _ | refine Below.alloc ?_ (by first | exact Nat.le_refl _ | (simp; done) | (simp; omega) | omega) _)) hb; clear hb)
      | (go_at_call 5; refine (H2.out _).mono ?_; rintro e wb ⟨rfl, hb⟩; have hBb : Below w.heap.size w wb := bup (by with_reducible (repeat' first | assumption | exact Below.refl _ _ | refine Below.drew ?_ | refine bdrewN ?_ _ | refine Below.setCell ?_ (by first | exact Nat.le_refl _ | (simp; done) | (simp; omega) | omega) _ | refine Below.alloc ?_ (by first | exact Nat.le_refl _ | (simp; done) | (simp; omega) | omega) _)) hb; clear hb))
    go_ret
    exact ⟨rfl, by with_reducible (repeat' first | assumption | exact Below.refl _ _ | refine Below.drew ?_ | refine bdrewN ?_ _ | refine Below.setCell ?_ (by first | exact Nat.le_refl _ | (simp; done) | (simp; omega) | omega) _ | refine Below.alloc ?_ (by first | exact Nat.le_refl _ | (simp; done) | (simp; omega) | omega) _)⟩
end Go.Proofs.Ytmajbophgdimlaa
