/- The contract of given.Whole: a value taken for a whole number, or the code that comes of it. New memory alone is made. The condition: its number fits. -/
import Derived.Test.YtmfbplicakappaaGreatDoorQNT3
import Derived.Test.YtmfbplicakappaaGreatDoorQTW
import Derived.Test.YtmfbplicakappaaGreatDoorQVA
namespace Go.Proofs.YtmfbplicakappaaGreatDoor
open Go.RowKit
set_option linter.all false
def aN (a : Ag) : Int := asNum a.t a.n a.s a.b a.c
def aI (a : Ag) : Int := (aN a).tdiv 10000
/-- The code that comes of taking it for a whole number. -/
def cdN (a : Ag) : Int := if asCode a.t a.n a.s a.b a.c = 0 then (if wholeOk (aN a) = true then 0 else 8) else asCode a.t a.n a.s a.b a.c
/-- The whole number, 0 if it is none. -/
def gwN (a : Ag) : Int := if cdN a = 0 then aI a else 0
theorem i64_aN {a : Ag} (hn : I64 a.n) : I64 (aN a) := by
  unfold aN asNum
  obtain ⟨h1, h2⟩ := hn
  have hp : I64 (partsI a.b) := by cases a.b <;> (unfold partsI I64; decide)
  split
  · split
    · exact ⟨h1, h2⟩
    · split
      · exact hp
      · exact ⟨by decide, by decide⟩
  · exact ⟨by decide, by decide⟩
theorem gw_code (w : World) (a : Ag) (hn : I64 a.n) (hc : ¬ asCode a.t a.n a.s a.b a.c = 0) : Calls Tryz.prog 60 #[.agg #[.int .i64 a.t, .int .i64 a.n, .string a.s, .bool a.b, .int .i64 a.c]] w fun e w' => e = .returned (.tuple #[.int .i64 0, .int .i64 (asCode a.t a.n a.s a.b a.c)]) ∧ Below w.heap.size w w' := by
  have hq : (asCode a.t a.n a.s a.b a.c != 0) = true := by simpa using hc
  go_enter Tryz.func60, Tryz.ntmps60
  go_wp2_with (go_at_call 102; refine (aNumberV _ _ _ _ _ _ hn).mono ?_; rintro e w1 ⟨rfl, hb⟩; have hB : Below w.heap.size w w1 := bup (by with_reducible (repeat' first | assumption | exact Below.refl _ _ | refine Below.drew ?_ | refine bdrewN ?_ _ | refine Below.setCell ?_ (by first | exact Nat.le_refl _ | (simp; done) | (simp; omega) | omega) _ | refine Below.alloc ?_ (by first | exact Nat.le_refl _ | (simp; done) | (simp; omega) | omega) _)) hb; have z1 := hB.size)
  go_ret2
  exact ⟨rfl, by with_reducible (repeat' first | assumption | exact Below.refl _ _ | refine Below.drew ?_ | refine bdrewN ?_ _ | refine Below.setCell ?_ (by first | exact Nat.le_refl _ | (simp; done) | (simp; omega) | omega) _ | refine Below.alloc ?_ (by first | exact Nat.le_refl _ | (simp; done) | (simp; omega) | omega) _)⟩
theorem gw_frac (w : World) (a : Ag) (hn : I64 a.n) (hc : asCode a.t a.n a.s a.b a.c = 0) (hi : I64 (asNum a.t a.n a.s a.b a.c)) (hw : wholeOk (asNum a.t a.n a.s a.b a.c) = false) : Calls Tryz.prog 60 #[.agg #[.int .i64 a.t, .int .i64 a.n, .string a.s, .bool a.b, .int .i64 a.c]] w fun e w' => e = .returned (.tuple #[.int .i64 0, .int .i64 8]) ∧ Below w.heap.size w w' := by
  go_enter Tryz.func60, Tryz.ntmps60
  go_wp2_with (first | (go_at_call 102; refine (aNumberV _ _ _ _ _ _ hn).mono ?_; rintro e w1 ⟨rfl, hb⟩; rw [hc]; have hB : Below w.heap.size w w1 := bup (by with_reducible (repeat' first | assumption | exact Below.refl _ _ | refine Below.drew ?_ | refine bdrewN ?_ _ | refine Below.setCell ?_ (by first | exact Nat.le_refl _ | (simp; done) | (simp; omega) | omega) _ | refine Below.alloc ?_ (by first | exact Nat.le_refl _ | (simp; done) | (simp; omega) | omega) _)) hb; have z1 := hB.size) | (go_at_call 103; refine (whole_any _ _ hi).mono ?_; rintro e w6 ⟨rfl, e6⟩; rw [hw, e6]; clear e6))
  go_ret2
  exact ⟨rfl, by with_reducible (repeat' first | assumption | exact Below.refl _ _ | refine Below.drew ?_ | refine bdrewN ?_ _ | refine Below.setCell ?_ (by first | exact Nat.le_refl _ | (simp; done) | (simp; omega) | omega) _ | refine Below.alloc ?_ (by first | exact Nat.le_refl _ | (simp; done) | (simp; omega) | omega) _)⟩
theorem gw_ok (w : World) (a : Ag) (hn : I64 a.n) (hc : asCode a.t a.n a.s a.b a.c = 0) (hi : I64 (asNum a.t a.n a.s a.b a.c)) (hw : wholeOk (asNum a.t a.n a.s a.b a.c) = true) : Calls Tryz.prog 60 #[.agg #[.int .i64 a.t, .int .i64 a.n, .string a.s, .bool a.b, .int .i64 a.c]] w fun e w' => e = .returned (.tuple #[.int .i64 ((asNum a.t a.n a.s a.b a.c).tdiv 10000), .int .i64 0]) ∧ Below w.heap.size w w' := by
  go_enter Tryz.func60, Tryz.ntmps60
  go_wp2_with (first | (go_at_call 102; refine (aNumberV _ _ _ _ _ _ hn).mono ?_; rintro e w1 ⟨rfl, hb⟩; rw [hc]; have hB : Below w.heap.size w w1 := bup (by with_reducible (repeat' first | assumption | exact Below.refl _ _ | refine Below.drew ?_ | refine bdrewN ?_ _ | refine Below.setCell ?_ (by first | exact Nat.le_refl _ | (simp; done) | (simp; omega) | omega) _ | refine Below.alloc ?_ (by first | exact Nat.le_refl _ | (simp; done) | (simp; omega) | omega) _)) hb; have z1 := hB.size) | (go_at_call 103; refine (whole_any _ _ hi).mono ?_; rintro e w6 ⟨rfl, e6⟩; rw [hw, okV_t rfl, e6]; clear e6))
  go_ret2
  exact ⟨rfl, by with_reducible (repeat' first | assumption | exact Below.refl _ _ | refine Below.drew ?_ | refine bdrewN ?_ _ | refine Below.setCell ?_ (by first | exact Nat.le_refl _ | (simp; done) | (simp; omega) | omega) _ | refine Below.alloc ?_ (by first | exact Nat.le_refl _ | (simp; done) | (simp; omega) | omega) _)⟩
theorem gw_any (w : World) (a : Ag) (hn : I64 a.n) : Calls Tryz.prog 60 #[.agg #[.int .i64 a.t, .int .i64 a.n, .string a.s, .bool a.b, .int .i64 a.c]] w fun e w' => e = .returned (.tuple #[.int .i64 (gwN a), .int .i64 (cdN a)]) ∧ Below w.heap.size w w' := by
  have hi := i64_aN hn
  by_cases hc : asCode a.t a.n a.s a.b a.c = 0
  · cases hw : wholeOk (aN a)
    · have e : cdN a = 8 := by unfold cdN; rw [if_pos hc, hw]; rfl
      have e2 : gwN a = 0 := by unfold gwN; rw [e]; rfl
      rw [e, e2]
      exact gw_frac w a hn hc hi hw
    · have e : cdN a = 0 := by unfold cdN; rw [if_pos hc, hw]; rfl
      have e2 : gwN a = aI a := by unfold gwN; rw [if_pos e]
      rw [e, e2]
      exact gw_ok w a hn hc hi hw
  · have e : cdN a = asCode a.t a.n a.s a.b a.c := by unfold cdN; rw [if_neg hc]
    have e2 : gwN a = 0 := by unfold gwN; rw [e, if_neg hc]
    rw [e, e2]
    exact gw_code w a hn hc
end Go.Proofs.YtmfbplicakappaaGreatDoor
