/- The contract of deps.Back: all references, in order. New memory alone is made. -/
import Derived.Test.YtgojnijpjfdocaaGreatFT
namespace Go.Proofs.YtgojnijpjfdocaaGreat
open Go.RowKit Go.Shelf
set_option linter.all false
set_option maxRecDepth 100000 in
set_option maxHeartbeats 4000000 in
theorem dback_any (w : World) (N : Nat) (B : Nat → Option TagD) (E : Int → Int → List Rf) (n m M : Nat) (h : Dp w N B E n m) (hf : Few E M) (hM : M ≤ 2000000000000) : Calls Tryz.prog 20 #[.pointer (some ⟨N, 0, none⟩)] w fun e w' => ∃ v, e = .returned v ∧ ∃ l, RowD w' w.heap.size v l ∧ IsEdg E l ∧ Below w.heap.size w w' := by
  have mixed : Tryz.prog.follows .mixedOrders = true := by kernel_rfl
  obtain ⟨hE, hNT, hdom, bf, bc, NB, hN, hF, hT⟩ := h
  have a1 : w.cell? ⟨N, 1, none⟩ = some (.map (some bc)) := hN.cell 1
  have a2 : w.cell? ⟨N, 2, none⟩ = some (.pointer (some ⟨NB, 0, none⟩)) := hN.cell 2
  have lN := hN.lt
  have HTe : Hid (∀ W, Below w.heap.size w W → Calls Tryz.prog 37 #[.agg #[.map (some bc), .pointer (some ⟨NB, 0, none⟩)]] W fun e w' => ∃ v, e = .returned v ∧ ∃ l, RowD w' w.heap.size v l ∧ l.Nodup ∧ (∀ e, e ∈ l ↔ e.f ∈ E e.r e.c) ∧ l.length ≤ 2000000000000 ∧ Below w.heap.size w w') := (show _ from fun W hb => (tedg_any W bc NB B E n m M (hT.keep hb) hE hf hM).mono (by
    rintro e w' ⟨v, rfl, l, q1, q2, q3, q4, q5⟩
    exact ⟨v, rfl, l, RowG.mono q1 hb.size, q2, q3, q4, bup hb q5⟩))
  have HSo : Hid (∀ W v l, RowD W w.heap.size v l → l.length ≤ 2000000000000 → Below w.heap.size w W → Calls Tryz.prog 36 #[v] W fun e w' => e = .returned (.tuple #[]) ∧ RowD w' w.heap.size v (srtL cmpD l) ∧ Below w.heap.size w w') := (show _ from fun W v l q1 q2 q3 => (sorte_any W w.heap.size v l q1 (by omega)).mono (by
    rintro e w' ⟨rfl, k1, k2⟩
    exact ⟨rfl, k1, q3.trans (k2.to_below q3.size (fun k hk => (RowG.lt q1 k hk).1))⟩))
  clear hE hNT hdom hF hT hf hN
  go_enter Tryz.func20, Tryz.ntmps20
  go_wp2_with (first
    | (go_at_call 37; refine (HTe.out _ (by with_reducible (repeat' first | assumption | exact Below.refl _ _ | refine Below.drew ?_ | refine bdrewN ?_ _ | refine Below.setCell ?_ (by first | exact Nat.le_refl _ | (simp; done) | (simp; omega) | omega) _ | refine Below.alloc ?_ (by first | exact Nat.le_refl _ | (simp; done) | (simp; omega) | omega) _))).mono ?_; rintro e wa ⟨v, rfl, l, q1, q2, q3, q4, q5⟩; have HRa : Hid (RowD wa w.heap.size v l) := q1; have HLa : Hid (l.length ≤ 2000000000000) := q4; have HIs : Hid (IsEdg E (srtL cmpD l)) := isEdg_srt q2 q3; have hBa : Below w.heap.size w wa := q5; clear q1 q2 q3 q4 q5)
    | (go_at_call 36; refine (HSo.out _ v l (HRa.out.keep (by with_reducible (repeat' first | assumption | exact Below.refl _ _ | refine Below.drew ?_ | refine bdrewN ?_ _ | refine Below.setCell ?_ (by first | exact Nat.le_refl _ | (simp; done) | (simp; omega) | omega) _ | refine Below.alloc ?_ (by first | exact Nat.le_refl _ | (simp; done) | (simp; omega) | omega) _))) HLa.out (by with_reducible (repeat' first | assumption | exact Below.refl _ _ | refine Below.drew ?_ | refine bdrewN ?_ _ | refine Below.setCell ?_ (by first | exact Nat.le_refl _ | (simp; done) | (simp; omega) | omega) _ | refine Below.alloc ?_ (by first | exact Nat.le_refl _ | (simp; done) | (simp; omega) | omega) _))).mono ?_; rintro e wb ⟨rfl, q1, q2⟩; have HRb : Hid (RowD wb w.heap.size v (srtL cmpD l)) := q1; have hBb : Below w.heap.size w wb := q2; clear q1 q2))
  go_ret
  exact ⟨_, rfl, _, HRb.out, HIs.out, hBb⟩
end Go.Proofs.YtgojnijpjfdocaaGreat
