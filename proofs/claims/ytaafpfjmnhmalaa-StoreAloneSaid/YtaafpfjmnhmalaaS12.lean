/- The contract of the law's lives: it answers true. New memory alone is made. -/
import Derived.Test.YtaafpfjmnhmalaaS11
import Derived.LaidEql
namespace Go.Proofs.Ytaafpfjmnhmalaa
open Go.RowKit
set_option linter.all false
/-- The blocks of a new store. -/
def dNew (s : Nat) (b : Nat) : Option Nat := if b = s then some 0 else none
theorem dNew_some {s b : Nat} (h : (dNew s b).isSome = true) : b = s := by
  unfold dNew at h
  split at h
  · assumption
  · cases h
theorem new_sw (w : World) : Calls Try.prog 13 #[] w fun e w' => e = .returned (.pointer (some ⟨w.heap.size, 0, none⟩)) ∧ SW w' (dNew w.heap.size) w.heap.size [] ∧ Below w.heap.size w w' ∧ w'.heap.size = w.heap.size + 1 := by
  refine (new_any w).mono ?_
  rintro e w' ⟨rfl, rfl⟩
  exact ⟨rfl, SW.new w _, bal _ _, by simp⟩
theorem count_sw (w : World) (D : Nat → Option Nat) (S : Nat) (L : List It) (h : SW w D S L) : Calls Try.prog 10 #[.pointer (some ⟨S, 0, none⟩)] w fun e w' => e = .returned (.int .i64 L.length) ∧ w' = w := by
  obtain ⟨A, a1, a2, a3, a4⟩ := h.own
  exact count_any w S A _ a1 a3
theorem putL_one (r c : Int) (v : Option Addr) : putL [] r c v = [⟨r, c, v⟩] := rfl
theorem next_one (x : Option Addr) : nextV [⟨4000, 200, x⟩] 1 1 4096 256 1 1 = .tuple #[.agg #[.int .i64 4000, .int .i64 200], .bool true] := by
  have : pN 1 1 4096 256 1 1 ⟨4000, 200, x⟩ = true := by rw [pN_is]; simp
  unfold nextV
  rw [List.find?_cons, this]
theorem get_one (x : Option Addr) : getL [⟨4000, 200, x⟩] 4000 200 = x := by simp [getL, rowL, getS]
theorem i64_s {n : Int} (h1 : -1000000 ≤ n := by omega) (h2 : n ≤ 1000000 := by omega) : I64 n := ⟨by omega, by omega⟩
theorem infoCt : (Try.prog.info? 56).map (·.size) = some 9 := by kernel_rfl
theorem underCt : Try.prog.underlying 46 = some (.pointer 56) := by kernel_rfl
theorem eqP_in (d : Nat) (a b : Addr) (w : World) (f : Bool) (hs : (sameAddr a b).run Try.prog w = .ok f w) : (Op.equalIn (d + 1) 46 (.pointer (some a)) (.pointer (some b))).run Try.prog w = .ok f w := by
  have hi := infoCt
  cases hq : Try.prog.info? 56 with
  | none => rw [hq] at hi; cases hi
  | some i =>
    rw [hq] at hi
    have h9 : i.size = 9 := by simpa using hi
    simp [Op.equalIn, run_underlying underCt, sizeOf, typeInfo, hq, h9, hs]
theorem eqP_same (a : Addr) (w : World) : (binOp .eql 46 (.pointer (some a)) (.pointer (some a))).run Try.prog w = .ok (.bool true) w := by
  simp only [binOp]
  simp [Op.equal, Op.maxDepth, eqP_in 9999 a a w true (run_sameAddr_same w a)]
set_option maxRecDepth 100000 in
set_option maxHeartbeats 2000000 in
theorem lives_any (w : World) : Calls Try.prog 12 #[] w fun e w' => e = .returned (.bool true) ∧ Below w.heap.size w w' := by
  have mixed : Try.prog.follows .mixedOrders = true := by kernel_rfl
  have heq := eqC 4000 200 4000 200
  rw [sameC_refl] at heq
  have hpe := eqP_same
  have HN : Hid (∀ W, Calls Try.prog 13 #[] W fun e w' => e = .returned (.pointer (some ⟨W.heap.size, 0, none⟩)) ∧ SW w' (dNew W.heap.size) W.heap.size [] ∧ Below W.heap.size W w' ∧ w'.heap.size = W.heap.size + 1) := new_sw
  have HP : Hid (∀ (W : World) (S X : Nat), SW W (dNew S) S [] → Calls Try.prog 14 #[.pointer (some ⟨S, 0, none⟩), .agg #[.int .i64 4000, .int .i64 200], .pointer (some ⟨X, 0, none⟩)] W fun e w' => e = .returned (.int .i64 0) ∧ (∃ D', SW w' D' S [⟨4000, 200, some ⟨X, 0, none⟩⟩]) ∧ Mut (fun k => k = S) W w') := fun W S X h => by
    refine (put_any W (dNew S) S [] 4000 200 ⟨X, 0, none⟩ h (by rfl)).mono ?_
    rintro e w' ⟨rfl, D', h1, h2, h3⟩
    exact ⟨rfl, ⟨D', h1⟩, ⟨h2.os, h2.tape, h2.output, h2.size, fun k hk hn => h2.block k hk (fun q => hn (dNew_some q))⟩⟩
  have HX : Hid (∀ (W : World) (S X : Nat), (∃ D', SW W D' S [⟨4000, 200, some ⟨X, 0, none⟩⟩]) → Calls Try.prog 17 #[.pointer (some ⟨S, 0, none⟩), .agg #[.int .i64 1, .int .i64 1, .int .i64 4096, .int .i64 256], .agg #[.int .i64 1, .int .i64 1]] W fun e w' => e = .returned (.tuple #[.agg #[.int .i64 4000, .int .i64 200], .bool true]) ∧ Below W.heap.size W w') := fun W S X h => by
    obtain ⟨D', h⟩ := h
    have := next_any W D' S _ 1 1 4096 256 1 1 h i64_s i64_s i64_s i64_s i64_s i64_s
    rw [next_one] at this
    exact this
  have HG : Hid (∀ (W : World) (S X : Nat), (∃ D', SW W D' S [⟨4000, 200, some ⟨X, 0, none⟩⟩]) → Calls Try.prog 19 #[.pointer (some ⟨S, 0, none⟩), .agg #[.int .i64 4000, .int .i64 200]] W fun e w' => e = .returned (.pointer (some ⟨X, 0, none⟩)) ∧ Below W.heap.size W w') := fun W S X h => by
    obtain ⟨D', h⟩ := h
    have := get_any W D' S _ 4000 200 h
    rw [get_one] at this
    exact this
  have HC : Hid (∀ (W : World) (S X : Nat), (∃ D', SW W D' S [⟨4000, 200, some ⟨X, 0, none⟩⟩]) → Calls Try.prog 10 #[.pointer (some ⟨S, 0, none⟩)] W fun e w' => e = .returned (.int .i64 1) ∧ Below W.heap.size W w') := fun W S X h => by
    obtain ⟨D', h⟩ := h
    refine (count_sw W D' S _ h).mono ?_
    rintro e w' ⟨rfl, rfl⟩
    exact ⟨rfl, Below.refl _ _⟩
  go_enter Try.func12, Try.ntmps12
  go_wp2_with (first
    | (go_at_call 13; refine (HN.out _).mono ?_; rintro e w1 ⟨rfl, hs, hb1, z1⟩; have HS : Hid _ := hs; clear hs; have zz1 : w1.heap.size = w.heap.size + 1 := z1; clear z1)
    | (go_at_call 14; refine (HP.out _ _ _ (SW.keep HS.out (by with_reducible (repeat' first | assumption | exact Below.refl _ _ | refine Below.drew ?_ | refine bdrewN ?_ _ | refine Below.setCell ?_ (by first | exact Nat.le_refl _ | (simp; done) | (simp; omega) | omega) _ | refine Below.alloc ?_ (by first | exact Nat.le_refl _ | (simp; done) | (simp; omega) | omega) _)))).mono ?_; rintro e w2 ⟨rfl, hs2, hm2⟩; have HS2 : Hid (∃ D', SW w2 D' w.heap.size [⟨4000, 200, some ⟨w.heap.size + 1, 0, none⟩⟩]) := hs2; clear hs2 HS; have hB2 : Below w.heap.size w w2 := Below.trans (by with_reducible (repeat' first | assumption | exact Below.refl _ _ | refine Below.drew ?_ | refine bdrewN ?_ _ | refine Below.setCell ?_ (by first | exact Nat.le_refl _ | (simp; done) | (simp; omega) | omega) _ | refine Below.alloc ?_ (by first | exact Nat.le_refl _ | (simp; done) | (simp; omega) | omega) _)) (Mut.to_below hm2 (by simp [zz1]; omega) (fun k hk => by omega)); have oa : Own w2 (w.heap.size + 1 + 1) #[.int .i64 4000, .int .i64 200] := Own.mut (by refine Own.at ?_; simp [zz1]) hm2 (by omega); have ca := oa.cell; have la := oa.lt; clear hm2)
    | (go_at_call 17; refine (HX.out _ _ _ HS2.out).mono ?_; rintro e w3 ⟨rfl, hb3⟩; have HS3 : Hid (∃ D', SW w3 D' w.heap.size [⟨4000, 200, some ⟨w.heap.size + 1, 0, none⟩⟩]) := (show _ from HS2.out.imp (fun D' q => q.keep hb3)); have hB3 : Below w.heap.size w w3 := bup hB2 hb3; have oa3 := oa.keep hb3; clear ca la oa; have ca := oa3.cell; have la := oa3.lt)
    | (go_at_call 19; refine (HG.out _ _ (w.heap.size + 1) (HS3.out.imp (fun D' q => q.keep (by with_reducible (repeat' first | assumption | exact Below.refl _ _ | refine Below.drew ?_ | refine bdrewN ?_ _ | refine Below.setCell ?_ (by first | exact Nat.le_refl _ | (simp; done) | (simp; omega) | omega) _ | refine Below.alloc ?_ (by first | exact Nat.le_refl _ | (simp; done) | (simp; omega) | omega) _))))).mono ?_; rintro e w4 ⟨rfl, hb4⟩; have hB4 : Below w.heap.size w w4 := bup (by with_reducible (repeat' first | assumption | exact Below.refl _ _ | refine Below.drew ?_ | refine bdrewN ?_ _ | refine Below.setCell ?_ (by first | exact Nat.le_refl _ | (simp; done) | (simp; omega) | omega) _ | refine Below.alloc ?_ (by first | exact Nat.le_refl _ | (simp; done) | (simp; omega) | omega) _)) hb4; have HS4 : Hid (∃ D', SW w4 D' w.heap.size [⟨4000, 200, some ⟨w.heap.size + 1, 0, none⟩⟩]) := (show _ from HS3.out.imp (fun D' q => (q.keep (by with_reducible (repeat' first | assumption | exact Below.refl _ _ | refine Below.drew ?_ | refine bdrewN ?_ _ | refine Below.setCell ?_ (by first | exact Nat.le_refl _ | (simp; done) | (simp; omega) | omega) _ | refine Below.alloc ?_ (by first | exact Nat.le_refl _ | (simp; done) | (simp; omega) | omega) _))).keep hb4)))
    | (go_at_call 10; refine (HC.out _ _ (w.heap.size + 1) HS4.out).mono ?_; rintro e w5 ⟨rfl, hb5⟩; have hB5 : Below w.heap.size w w5 := bup (by with_reducible (repeat' first | assumption | exact Below.refl _ _ | refine Below.drew ?_ | refine bdrewN ?_ _ | refine Below.setCell ?_ (by first | exact Nat.le_refl _ | (simp; done) | (simp; omega) | omega) _ | refine Below.alloc ?_ (by first | exact Nat.le_refl _ | (simp; done) | (simp; omega) | omega) _)) hb5))
  go_ret
  exact ⟨rfl, by with_reducible (repeat' first | assumption | exact Below.refl _ _ | refine Below.drew ?_ | refine bdrewN ?_ _ | refine Below.setCell ?_ (by first | exact Nat.le_refl _ | (simp; done) | (simp; omega) | omega) _ | refine Below.alloc ?_ (by first | exact Nat.le_refl _ | (simp; done) | (simp; omega) | omega) _)⟩
end Go.Proofs.Ytaafpfjmnhmalaa
