/- The contract of given.Whole: a value taken for a whole number, or the code that comes of it. New memory alone is made. The condition: its number fits. Rows that grow: small laws of no function. -/
import Derived.Test.YtcgcnpcimfaecaaGreatDoorQNT2
import Derived.Test.YtcgcnpcimfaecaaGreatDoorQGTr
import Derived.Test.YtcgcnpcimfaecaaGreatDoorQPrint
import Derived.Test.YtcgcnpcimfaecaaGreatDoorQNR
import Derived.Test.YtcgcnpcimfaecaaGreatDoorQGI
import Derived.Maps.AppendAt
namespace Go.Proofs.YtcgcnpcimfaecaaGreatDoor
open Go.RowKit
set_option linter.all false
def aN (a : Ag) : Int := asNum a.t a.n a.s a.b a.c
def aI (a : Ag) : Int := (aN a).tdiv 10000
/-- The code that comes of taking it for a whole number. -/
def cdN (a : Ag) : Int := if asCode a.t a.n a.s a.b a.c = 0 then (if wholeOk (aN a) = true then 0 else 8) else asCode a.t a.n a.s a.b a.c
/-- The whole number, 0 if it is none. -/
def gwN (a : Ag) : Int := if cdN a = 0 then aI a else 0
theorem i64_aN {a : Ag} (hn : I64 a.n) : I64 (aN a) := by
  unfold aN asNum
  obtain ⟨h1, h2⟩ := hn
  have hp : I64 (partsI a.b) := by cases a.b <;> (unfold partsI I64; decide)
  split
  · split
    · exact ⟨h1, h2⟩
    · split
      · exact hp
      · exact ⟨by decide, by decide⟩
  · exact ⟨by decide, by decide⟩
theorem gw_code (w : World) (a : Ag) (hn : I64 a.n) (hc : ¬ asCode a.t a.n a.s a.b a.c = 0) : Calls Tryz.prog 60 #[.agg #[.int .i64 a.t, .int .i64 a.n, .string a.s, .bool a.b, .int .i64 a.c]] w fun e w' => e = .returned (.tuple #[.int .i64 0, .int .i64 (asCode a.t a.n a.s a.b a.c)]) ∧ Below w.heap.size w w' := by
  have hq : (asCode a.t a.n a.s a.b a.c != 0) = true := by simpa using hc
  go_enter Tryz.func60, Tryz.ntmps60
  go_wp2_with (go_at_call 102; refine (aNumberV _ _ _ _ _ _ hn).mono ?_; rintro e w1 ⟨rfl, hb⟩; have hB : Below w.heap.size w w1 := bup (by with_reducible (repeat' first | assumption | exact Below.refl _ _ | refine Below.drew ?_ | refine bdrewN ?_ _ | refine Below.setCell ?_ (by first | exact Nat.le_refl _ | (simp; done) | (simp; omega) | omega) _ | refine Below.alloc ?_ (by first | exact Nat.le_refl _ | (simp; done) | (simp; omega) | omega) _)) hb; have z1 := hB.size)
  go_ret2
  exact ⟨rfl, by with_reducible (repeat' first | assumption | exact Below.refl _ _ | refine Below.drew ?_ | refine bdrewN ?_ _ | refine Below.setCell ?_ (by first | exact Nat.le_refl _ | (simp; done) | (simp; omega) | omega) _ | refine Below.alloc ?_ (by first | exact Nat.le_refl _ | (simp; done) | (simp; omega) | omega) _)⟩
theorem gw_frac (w : World) (a : Ag) (hn : I64 a.n) (hc : asCode a.t a.n a.s a.b a.c = 0) (hi : I64 (asNum a.t a.n a.s a.b a.c)) (hw : wholeOk (asNum a.t a.n a.s a.b a.c) = false) : Calls Tryz.prog 60 #[.agg #[.int .i64 a.t, .int .i64 a.n, .string a.s, .bool a.b, .int .i64 a.c]] w fun e w' => e = .returned (.tuple #[.int .i64 0, .int .i64 8]) ∧ Below w.heap.size w w' := by
  go_enter Tryz.func60, Tryz.ntmps60
  go_wp2_with (first | (go_at_call 102; refine (aNumberV _ _ _ _ _ _ hn).mono ?_; rintro e w1 ⟨rfl, hb⟩; rw [hc]; have hB : Below w.heap.size w w1 := bup (by with_reducible (repeat' first | assumption | exact Below.refl _ _ | refine Below.drew ?_ | refine bdrewN ?_ _ | refine Below.setCell ?_ (by first | exact Nat.le_refl _ | (simp; done) | (simp; omega) | omega) _ | refine Below.alloc ?_ (by first | exact Nat.le_refl _ | (simp; done) | (simp; omega) | omega) _)) hb; have z1 := hB.size) | (go_at_call 103; refine (whole_any _ _ hi).mono ?_; rintro e w6 ⟨rfl, e6⟩; rw [hw, e6]; clear e6))
  go_ret2
  exact ⟨rfl, by with_reducible (repeat' first | assumption | exact Below.refl _ _ | refine Below.drew ?_ | refine bdrewN ?_ _ | refine Below.setCell ?_ (by first | exact Nat.le_refl _ | (simp; done) | (simp; omega) | omega) _ | refine Below.alloc ?_ (by first | exact Nat.le_refl _ | (simp; done) | (simp; omega) | omega) _)⟩
theorem gw_ok (w : World) (a : Ag) (hn : I64 a.n) (hc : asCode a.t a.n a.s a.b a.c = 0) (hi : I64 (asNum a.t a.n a.s a.b a.c)) (hw : wholeOk (asNum a.t a.n a.s a.b a.c) = true) : Calls Tryz.prog 60 #[.agg #[.int .i64 a.t, .int .i64 a.n, .string a.s, .bool a.b, .int .i64 a.c]] w fun e w' => e = .returned (.tuple #[.int .i64 ((asNum a.t a.n a.s a.b a.c).tdiv 10000), .int .i64 0]) ∧ Below w.heap.size w w' := by
  go_enter Tryz.func60, Tryz.ntmps60
  go_wp2_with (first | (go_at_call 102; refine (aNumberV _ _ _ _ _ _ hn).mono ?_; rintro e w1 ⟨rfl, hb⟩; rw [hc]; have hB : Below w.heap.size w w1 := bup (by with_reducible (repeat' first | assumption | exact Below.refl _ _ | refine Below.drew ?_ | refine bdrewN ?_ _ | refine Below.setCell ?_ (by first | exact Nat.le_refl _ | (simp; done) | (simp; omega) | omega) _ | refine Below.alloc ?_ (by first | exact Nat.le_refl _ | (simp; done) | (simp; omega) | omega) _)) hb; have z1 := hB.size) | (go_at_call 103; refine (whole_any _ _ hi).mono ?_; rintro e w6 ⟨rfl, e6⟩; rw [hw, okV_t rfl, e6]; clear e6))
  go_ret2
  exact ⟨rfl, by with_reducible (repeat' first | assumption | exact Below.refl _ _ | refine Below.drew ?_ | refine bdrewN ?_ _ | refine Below.setCell ?_ (by first | exact Nat.le_refl _ | (simp; done) | (simp; omega) | omega) _ | refine Below.alloc ?_ (by first | exact Nat.le_refl _ | (simp; done) | (simp; omega) | omega) _)⟩
theorem gw_any (w : World) (a : Ag) (hn : I64 a.n) : Calls Tryz.prog 60 #[.agg #[.int .i64 a.t, .int .i64 a.n, .string a.s, .bool a.b, .int .i64 a.c]] w fun e w' => e = .returned (.tuple #[.int .i64 (gwN a), .int .i64 (cdN a)]) ∧ Below w.heap.size w w' := by
  have hi := i64_aN hn
  by_cases hc : asCode a.t a.n a.s a.b a.c = 0
  · cases hw : wholeOk (aN a)
    · have e : cdN a = 8 := by unfold cdN; rw [if_pos hc, hw]; rfl
      have e2 : gwN a = 0 := by unfold gwN; rw [e]; rfl
      rw [e, e2]
      exact gw_frac w a hn hc hi hw
    · have e : cdN a = 0 := by unfold cdN; rw [if_pos hc, hw]; rfl
      have e2 : gwN a = aI a := by unfold gwN; rw [if_pos e]
      rw [e, e2]
      exact gw_ok w a hn hc hi hw
  · have e : cdN a = asCode a.t a.n a.s a.b a.c := by unfold cdN; rw [if_neg hc]
    have e2 : gwN a = 0 := by unfold gwN; rw [e, if_neg hc]
    rw [e, e2]
    exact gw_code w a hn hc
end Go.Proofs.YtcgcnpcimfaecaaGreatDoor
namespace Go.Proofs.YtcgcnpcimfaecaaGreatDoor
open Go.RowKit
set_option linter.all false
/-- A single argument; one of a number. -/
def argV (t n : Int) (s : ByteArray) (b : Bool) (c : Int) : Ag := ⟨false, t, n, s, b, c, 0, 0, 0, 0, none, 0, 0⟩
def argN (x : Int) : Ag := argV 1 x ⟨#[]⟩ false 0
theorem Ag.csize (a : Ag) : a.cells.size = 11 := rfl
theorem Ag.one (a : Ag) : ∀ u ∈ a.cells.toList, u.oneCell' = true := by
  intro u hu
  simp [Ag.cells] at hu
  rcases hu with h | h | h | h | h | h | h | h | h | h | h <;> subst h <;> rfl
theorem infoAg : (Tryz.prog.info? 40).map (fun i => (i.zero, i.size, i.bytes)) = some (some (.agg #[.bool false, .int .i64 0, .int .i64 0, .string ⟨#[]⟩, .bool false, .int .i64 0, .int .i64 0, .int .i64 0, .int .i64 0, .int .i64 0, .slice none 0 0]), 11, 112) := by kernel_rfl
theorem news_pl (W : World) (cs : Array Value) (T : TypeId) : ∀ (j : Nat) (u : Value), cs.toList[j]? = some u → (W.alloc (.cells cs T)).cell? ((⟨W.heap.size, 0, none⟩ : Addr).add j) = some u := fun j u h => by
  have h1 := (Own.new W cs T).cell j
  have e : ((⟨W.heap.size, 0, none⟩ : Addr).add j) = ⟨W.heap.size, j, none⟩ := by simp [Addr.add]; omega
  rw [e, h1]
  simpa using h
theorem app_rowv {α : Type} {c : α → Array Value} {sz : Nat} {e : TypeId} {w W W' w5 : World} {u v' : Value} {l : List α} {t : α} (hB : Below w.heap.size w W') (hr : Row c sz e W w.heap.size u l)
    (ho : w5.ownsRow w.heap.size e sz v' (l.length + 1) (flatC c l ++ (c t).toList)) (hg : W'.grownBy w5 u.ownBlock) : Row c sz e w5 w.heap.size v' (l ++ [t]) ∧ Below w.heap.size w w5 := by
  refine ⟨?_, Below.grown hB hg hB.size (fun k hk => (Row.lt hr k hk).1)⟩
  unfold Row
  rw [flatC_snoc, List.length_append]
  exact ho
theorem take_map {α β : Type} {f : α → β} {l : List α} {i : Nat} {x : α} (h : l[i]? = some x) : (l.take i).map f ++ [f x] = (l.take (i + 1)).map f := by
  rw [List.take_succ, h, Option.toList_some, List.map_append]; rfl
end Go.Proofs.YtcgcnpcimfaecaaGreatDoor
