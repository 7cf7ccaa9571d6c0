/- The contracts of refs's measure, Check and Depth: of every formula a plain function's answer. New memory alone is made. The conditions: at most 2^47 nodes, and the numbers in the nodes' values are int64. -/
import Derived.Test.YtekpmdpmcbjkkaaDoorN8
namespace Go.Proofs.YtekpmdpmcbjkkaaDoor
open Go.Shelf Go.RowKit
set_option linter.all false
set_option maxRecDepth 100000 in
set_option maxHeartbeats 2000000 in
theorem measure_e (w : World) (p : Option Addr) (cap : Nat) : Calls Tryd.prog 16 #[.slice p 0 cap] w fun e w' => e = .returned (measOut none) ∧ Below w.heap.size w w' := by
  have mixed : Tryd.prog.follows .mixedOrders = true := by kernel_rfl
  go_enter Tryd.func16, Tryd.ntmps16
  go_wp2
  go_loopw [4, 15] (fun tv v w' => tv = .slice none 0 0 ∧ v = .int .i64 0 ∧ w' = w) (fun _ _ _ => 0)
  case atStart => exact ⟨rfl, rfl, rfl⟩
  case round =>
    obtain ⟨rfl, rfl, rfl⟩ := hrel
    go_wp2
    go_ret2
    exact ⟨rfl, Below.refl _ _⟩
set_option maxHeartbeats 1000000 in
theorem measure_b (w : World) (p : Option Addr) (n cap : Nat) (h : (1024 : Int) < n) : Calls Tryd.prog 16 #[.slice p n cap] w fun e w' => e = .returned (measOut none) ∧ Below w.heap.size w w' := by
  go_enter Tryd.func16, Tryd.ntmps16
  go_wp2
  go_ret2
  exact ⟨rfl, Below.refl _ _⟩
theorem measure_any (w : World) (v : Value) (ns : List Nd) (hv : NV w v ns) (hwf : ∀ x ∈ ns, Vv.I64 x.num) : Calls Tryd.prog 16 #[v] w fun e w' => e = .returned (measOut (measN ns)) ∧ Below w.heap.size w w' := by
  obtain ⟨p, cap, rfl, hc, hf⟩ := hv
  by_cases hb : 1024 < ns.length
  · have e : measN ns = none := by unfold measN; rw [if_pos hb]
    rw [e]; exact measure_b w p ns.length cap (by omega)
  by_cases h0 : 0 < ns.length
  · obtain ⟨b, o, rfl, hlt, HC⟩ := hf h0
    exact measure_y w b o cap ns.length ns hlt HC rfl hc h0 (by omega) hwf
  · obtain rfl : ns = [] := List.length_eq_zero_iff.1 (by omega)
    exact measure_e w p cap
/-- What Check answers. -/
def chkI (ns : List Nd) : Int := match measN ns with
  | some d => if d ≤ 32 then 0 else 20
  | none => 20
theorem chkI_two (ns : List Nd) : chkI ns = 0 ∨ chkI ns = 20 := by
  unfold chkI
  cases measN ns with
  | none => exact .inr rfl
  | some d => dsimp only; split <;> simp
set_option maxHeartbeats 1000000 in
theorem check_n (w : World) (p : Option Addr) (n cap : Nat)  (hM : ∀ w1, Below w.heap.size w w1 → Calls Tryd.prog 16 #[.slice p n cap] w1 fun e w' => e = .returned (measOut none) ∧ Below w1.heap.size w1 w') :
    Calls Tryd.prog 10 #[.agg #[.slice p n cap]] w fun e w' => e = .returned (.int .i64 20) ∧ Below w.heap.size w w' := by
  have HM : Hid _ := hM
  clear hM
  go_enter Tryd.func10, Tryd.ntmps10
  go_wp2_with (go_at_call 16; refine (HM.out _ (by with_reducible (repeat' first | assumption | exact Below.refl _ _ | refine Below.drew ?_ | refine bdrewN ?_ _ | refine Below.setCell ?_ (by first | exact Nat.le_refl _ | (simp; done) | (simp; omega) | omega) _ | refine Below.alloc ?_ (by first | exact Nat.le_refl _ | (simp; done) | (simp; omega) | omega) _))).mono ?_; dsimp only [measOut, Option.getD, Option.isSome]; rintro e w1 ⟨rfl, hb⟩; have hB : Below w.heap.size w w1 := bup (by with_reducible (repeat' first | assumption | exact Below.refl _ _ | refine Below.drew ?_ | refine bdrewN ?_ _ | refine Below.setCell ?_ (by first | exact Nat.le_refl _ | (simp; done) | (simp; omega) | omega) _ | refine Below.alloc ?_ (by first | exact Nat.le_refl _ | (simp; done) | (simp; omega) | omega) _)) hb)
  all_goals go_ret
  all_goals exact ⟨rfl, hB⟩
set_option maxHeartbeats 1000000 in
theorem check_y (d : Nat) (w : World) (p : Option Addr) (n cap : Nat) (hd : d ≤ 32) (hM : ∀ w1, Below w.heap.size w w1 → Calls Tryd.prog 16 #[.slice p n cap] w1 fun e w' => e = .returned (measOut (some d)) ∧ Below w1.heap.size w1 w') :
    Calls Tryd.prog 10 #[.agg #[.slice p n cap]] w fun e w' => e = .returned (.int .i64 0) ∧ Below w.heap.size w w' := by
  have hd' : ¬ (32 : Int) < d := by omega
  have HM : Hid _ := hM
  clear hM
  go_enter Tryd.func10, Tryd.ntmps10
  go_wp2_with (go_at_call 16; refine (HM.out _ (by with_reducible (repeat' first | assumption | exact Below.refl _ _ | refine Below.drew ?_ | refine bdrewN ?_ _ | refine Below.setCell ?_ (by first | exact Nat.le_refl _ | (simp; done) | (simp; omega) | omega) _ | refine Below.alloc ?_ (by first | exact Nat.le_refl _ | (simp; done) | (simp; omega) | omega) _))).mono ?_; dsimp only [measOut, Option.getD, Option.isSome]; rintro e w1 ⟨rfl, hb⟩; have hB : Below w.heap.size w w1 := bup (by with_reducible (repeat' first | assumption | exact Below.refl _ _ | refine Below.drew ?_ | refine bdrewN ?_ _ | refine Below.setCell ?_ (by first | exact Nat.le_refl _ | (simp; done) | (simp; omega) | omega) _ | refine Below.alloc ?_ (by first | exact Nat.le_refl _ | (simp; done) | (simp; omega) | omega) _)) hb)
  all_goals go_ret
  all_goals exact ⟨rfl, hB⟩
set_option maxHeartbeats 1000000 in
theorem check_d (d : Nat) (w : World) (p : Option Addr) (n cap : Nat) (hd : ¬ d ≤ 32) (hM : ∀ w1, Below w.heap.size w w1 → Calls Tryd.prog 16 #[.slice p n cap] w1 fun e w' => e = .returned (measOut (some d)) ∧ Below w1.heap.size w1 w') :
    Calls Tryd.prog 10 #[.agg #[.slice p n cap]] w fun e w' => e = .returned (.int .i64 20) ∧ Below w.heap.size w w' := by
  have hd' : (32 : Int) < d := by omega
  have HM : Hid _ := hM
  clear hM
  go_enter Tryd.func10, Tryd.ntmps10
  go_wp2_with (go_at_call 16; refine (HM.out _ (by with_reducible (repeat' first | assumption | exact Below.refl _ _ | refine Below.drew ?_ | refine bdrewN ?_ _ | refine Below.setCell ?_ (by first | exact Nat.le_refl _ | (simp; done) | (simp; omega) | omega) _ | refine Below.alloc ?_ (by first | exact Nat.le_refl _ | (simp; done) | (simp; omega) | omega) _))).mono ?_; dsimp only [measOut, Option.getD, Option.isSome]; rintro e w1 ⟨rfl, hb⟩; have hB : Below w.heap.size w w1 := bup (by with_reducible (repeat' first | assumption | exact Below.refl _ _ | refine Below.drew ?_ | refine bdrewN ?_ _ | refine Below.setCell ?_ (by first | exact Nat.le_refl _ | (simp; done) | (simp; omega) | omega) _ | refine Below.alloc ?_ (by first | exact Nat.le_refl _ | (simp; done) | (simp; omega) | omega) _)) hb)
  all_goals go_ret
  all_goals exact ⟨rfl, hB⟩
theorem check_any (w : World) (v : Value) (ns : List Nd) (hv : NV w v ns) (hwf : ∀ x ∈ ns, Vv.I64 x.num) : Calls Tryd.prog 10 #[.agg #[v]] w fun e w' => e = .returned (.int .i64 (chkI ns)) ∧ Below w.heap.size w w' := by
  have hM : ∀ w1, Below w.heap.size w w1 → Calls Tryd.prog 16 #[v] w1 fun e w' => e = .returned (measOut (measN ns)) ∧ Below w1.heap.size w1 w' := fun w1 h => measure_any w1 v ns (hv.keep h) hwf
  obtain ⟨p, cap, rfl, -, -⟩ := hv
  unfold chkI
  cases hm : measN ns with
  | none => rw [hm] at hM; exact check_n w p _ cap hM
  | some d =>
    rw [hm] at hM
    by_cases hd : d ≤ 32
    · show Calls _ _ _ _ fun e w' => e = .returned (.int .i64 (if d ≤ 32 then 0 else 20)) ∧ _
      rw [if_pos hd]; exact check_y d w p _ cap hd hM
    · show Calls _ _ _ _ fun e w' => e = .returned (.int .i64 (if d ≤ 32 then 0 else 20)) ∧ _
      rw [if_neg hd]; exact check_d d w p _ cap hd hM
def depI (ns : List Nd) : Nat := (measN ns).getD 0
set_option maxHeartbeats 1000000 in
theorem depth_any (w : World) (v : Value) (ns : List Nd) (hv : NV w v ns) (hwf : ∀ x ∈ ns, Vv.I64 x.num) : Calls Tryd.prog 14 #[.agg #[v]] w fun e w' => e = .returned (.int .i64 (depI ns)) ∧ Below w.heap.size w w' := by
  have hM : ∀ w1, Below w.heap.size w w1 → Calls Tryd.prog 16 #[v] w1 fun e w' => e = .returned (.tuple #[.int .i64 (depI ns), .bool (measN ns).isSome]) ∧ Below w1.heap.size w1 w' := fun w1 h => measure_any w1 v ns (hv.keep h) hwf
  obtain ⟨p, cap, rfl, -, -⟩ := hv
  have HM : Hid _ := hM
  clear hM
  go_enter Tryd.func14, Tryd.ntmps14
  go_wp2_with (go_at_call 16; refine (HM.out _ (by with_reducible (repeat' first | assumption | exact Below.refl _ _ | refine Below.drew ?_ | refine bdrewN ?_ _ | refine Below.setCell ?_ (by first | exact Nat.le_refl _ | (simp; done) | (simp; omega) | omega) _ | refine Below.alloc ?_ (by first | exact Nat.le_refl _ | (simp; done) | (simp; omega) | omega) _))).mono ?_; rintro e w1 ⟨rfl, hb⟩; have hB : Below w.heap.size w w1 := bup (by with_reducible (repeat' first | assumption | exact Below.refl _ _ | refine Below.drew ?_ | refine bdrewN ?_ _ | refine Below.setCell ?_ (by first | exact Nat.le_refl _ | (simp; done) | (simp; omega) | omega) _ | refine Below.alloc ?_ (by first | exact Nat.le_refl _ | (simp; done) | (simp; omega) | omega) _)) hb)
  all_goals go_ret
  all_goals exact ⟨rfl, hB⟩
end Go.Proofs.YtekpmdpmcbjkkaaDoor
