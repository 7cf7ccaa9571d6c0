/- The contracts of the document's Check and Depth, in the words of the program's. New memory alone is made. The conditions: at most 2^47 nodes, and the numbers in their values are int64. -/
import Derived.Test.YtekpmdpmcbjkkaaDoorS7
import Derived.Test.YtekpmdpmcbjkkaaDoorN9
namespace Go.Proofs.YtekpmdpmcbjkkaaDoor
open Go.Shelf Go.RowKit
set_option linter.all false
set_option maxHeartbeats 2000000 in
theorem rchk_1 (w : World) (p : Option Addr) (n cap : Nat) (h1 : (n : Int) < 1) : Calls Tryd.prog 12 #[.agg #[.slice p n cap]] w fun e w' => e = .returned (.int .i64 20) ∧ Below w.heap.size w w' := by
  go_enter Tryd.func12, Tryd.ntmps12
  go_wp2
  all_goals go_ret
  all_goals exact ⟨rfl, by first | assumption | (with_reducible (repeat' first | assumption | exact Below.refl _ _ | refine Below.drew ?_ | refine bdrewN ?_ _ | refine Below.setCell ?_ (by first | exact Nat.le_refl _ | (simp; done) | (simp; omega) | omega) _ | refine Below.alloc ?_ (by first | exact Nat.le_refl _ | (simp; done) | (simp; omega) | omega) _))⟩
set_option maxHeartbeats 2000000 in
theorem rchk_2 (w : World) (p : Option Addr) (n cap : Nat) (h1 : ¬ (n : Int) < 1) (h2 : (1024 : Int) < n) : Calls Tryd.prog 12 #[.agg #[.slice p n cap]] w fun e w' => e = .returned (.int .i64 20) ∧ Below w.heap.size w w' := by
  go_enter Tryd.func12, Tryd.ntmps12
  go_wp2
  all_goals go_ret
  all_goals exact ⟨rfl, by first | assumption | (with_reducible (repeat' first | assumption | exact Below.refl _ _ | refine Below.drew ?_ | refine bdrewN ?_ _ | refine Below.setCell ?_ (by first | exact Nat.le_refl _ | (simp; done) | (simp; omega) | omega) _ | refine Below.alloc ?_ (by first | exact Nat.le_refl _ | (simp; done) | (simp; omega) | omega) _))⟩
set_option maxHeartbeats 2000000 in
theorem rchk_3 (w : World) (p : Option Addr) (n cap : Nat) (h1 : ¬ (n : Int) < 1) (h2 : ¬ (1024 : Int) < n) (HP : Hid (∀ w1, Below w.heap.size w w1 → Calls Tryd.prog 18 #[.slice p n cap] w1 fun e w' => e = .returned (.tuple #[.slice none 0 0, .bool false]) ∧ Below w1.heap.size w1 w')) : Calls Tryd.prog 12 #[.agg #[.slice p n cap]] w fun e w' => e = .returned (.int .i64 20) ∧ Below w.heap.size w w' := by
  go_enter Tryd.func12, Tryd.ntmps12
  go_wp2_with (go_at_call 18; refine (HP.out _ (by with_reducible (repeat' first | assumption | exact Below.refl _ _ | refine Below.drew ?_ | refine bdrewN ?_ _ | refine Below.setCell ?_ (by first | exact Nat.le_refl _ | (simp; done) | (simp; omega) | omega) _ | refine Below.alloc ?_ (by first | exact Nat.le_refl _ | (simp; done) | (simp; omega) | omega) _))).mono ?_; rintro e w1 ⟨rfl, hb⟩; have hB : Below w.heap.size w w1 := bup (by with_reducible (repeat' first | assumption | exact Below.refl _ _ | refine Below.drew ?_ | refine bdrewN ?_ _ | refine Below.setCell ?_ (by first | exact Nat.le_refl _ | (simp; done) | (simp; omega) | omega) _ | refine Below.alloc ?_ (by first | exact Nat.le_refl _ | (simp; done) | (simp; omega) | omega) _)) hb)
  all_goals go_ret
  all_goals exact ⟨rfl, by first | assumption | (with_reducible (repeat' first | assumption | exact Below.refl _ _ | refine Below.drew ?_ | refine bdrewN ?_ _ | refine Below.setCell ?_ (by first | exact Nat.le_refl _ | (simp; done) | (simp; omega) | omega) _ | refine Below.alloc ?_ (by first | exact Nat.le_refl _ | (simp; done) | (simp; omega) | omega) _))⟩
set_option maxHeartbeats 2000000 in
theorem rchk_4 (w : World) (p : Option Addr) (n cap : Nat) (h1 : ¬ (n : Int) < 1) (h2 : ¬ (1024 : Int) < n) (HP : Hid (∀ w1, Below w.heap.size w w1 → Calls Tryd.prog 18 #[.slice p n cap] w1 fun e w' => (∃ q c k, e = .returned (.tuple #[.slice q k c, .bool true]) ∧ ((k : Int) == 1) = false) ∧ Below w1.heap.size w1 w')) : Calls Tryd.prog 12 #[.agg #[.slice p n cap]] w fun e w' => e = .returned (.int .i64 20) ∧ Below w.heap.size w w' := by
  go_enter Tryd.func12, Tryd.ntmps12
  go_wp2_with (go_at_call 18; refine (HP.out _ (by with_reducible (repeat' first | assumption | exact Below.refl _ _ | refine Below.drew ?_ | refine bdrewN ?_ _ | refine Below.setCell ?_ (by first | exact Nat.le_refl _ | (simp; done) | (simp; omega) | omega) _ | refine Below.alloc ?_ (by first | exact Nat.le_refl _ | (simp; done) | (simp; omega) | omega) _))).mono ?_; rintro e w1 ⟨⟨q, c, k, rfl, hk⟩, hb⟩; have hB : Below w.heap.size w w1 := bup (by with_reducible (repeat' first | assumption | exact Below.refl _ _ | refine Below.drew ?_ | refine bdrewN ?_ _ | refine Below.setCell ?_ (by first | exact Nat.le_refl _ | (simp; done) | (simp; omega) | omega) _ | refine Below.alloc ?_ (by first | exact Nat.le_refl _ | (simp; done) | (simp; omega) | omega) _)) hb; have hk2 : ¬ (k : Int) = 1 := by simpa using hk)
  all_goals go_ret
  all_goals exact ⟨rfl, by first | assumption | (with_reducible (repeat' first | assumption | exact Below.refl _ _ | refine Below.drew ?_ | refine bdrewN ?_ _ | refine Below.setCell ?_ (by first | exact Nat.le_refl _ | (simp; done) | (simp; omega) | omega) _ | refine Below.alloc ?_ (by first | exact Nat.le_refl _ | (simp; done) | (simp; omega) | omega) _))⟩
set_option maxHeartbeats 2000000 in
theorem rchk_5 (w : World) (p : Option Addr) (n cap : Nat) (d : Nat) (h1 : ¬ (n : Int) < 1) (h2 : ¬ (1024 : Int) < n) (HP : Hid (∀ w1, Below w.heap.size w w1 → Calls Tryd.prog 18 #[.slice p n cap] w1 fun e w' => (∃ g c, e = .returned (.tuple #[.slice (some ⟨g, 0, none⟩) 1 c, .bool true]) ∧ 1 ≤ c ∧ w'.cell? ⟨g, 0, none⟩ = some (.int .i64 (d : Nat)) ∧ w'.cell? ⟨g, 2, none⟩ = some (.bool true)) ∧ Below w1.heap.size w1 w')) : Calls Tryd.prog 12 #[.agg #[.slice p n cap]] w fun e w' => e = .returned (.int .i64 20) ∧ Below w.heap.size w w' := by
  go_enter Tryd.func12, Tryd.ntmps12
  go_wp2_with (go_at_call 18; refine (HP.out _ (by with_reducible (repeat' first | assumption | exact Below.refl _ _ | refine Below.drew ?_ | refine bdrewN ?_ _ | refine Below.setCell ?_ (by first | exact Nat.le_refl _ | (simp; done) | (simp; omega) | omega) _ | refine Below.alloc ?_ (by first | exact Nat.le_refl _ | (simp; done) | (simp; omega) | omega) _))).mono ?_; rintro e w1 ⟨⟨g, c, rfl, hc, y0, y2⟩, hb⟩; have hB : Below w.heap.size w w1 := bup (by with_reducible (repeat' first | assumption | exact Below.refl _ _ | refine Below.drew ?_ | refine bdrewN ?_ _ | refine Below.setCell ?_ (by first | exact Nat.le_refl _ | (simp; done) | (simp; omega) | omega) _ | refine Below.alloc ?_ (by first | exact Nat.le_refl _ | (simp; done) | (simp; omega) | omega) _)) hb)
  all_goals go_ret
  all_goals exact ⟨rfl, by first | assumption | (with_reducible (repeat' first | assumption | exact Below.refl _ _ | refine Below.drew ?_ | refine bdrewN ?_ _ | refine Below.setCell ?_ (by first | exact Nat.le_refl _ | (simp; done) | (simp; omega) | omega) _ | refine Below.alloc ?_ (by first | exact Nat.le_refl _ | (simp; done) | (simp; omega) | omega) _))⟩
set_option maxHeartbeats 2000000 in
theorem rchk_6 (w : World) (p : Option Addr) (n cap : Nat) (d : Nat) (hd : (32 : Int) < d) (h1 : ¬ (n : Int) < 1) (h2 : ¬ (1024 : Int) < n) (HP : Hid (∀ w1, Below w.heap.size w w1 → Calls Tryd.prog 18 #[.slice p n cap] w1 fun e w' => (∃ g c, e = .returned (.tuple #[.slice (some ⟨g, 0, none⟩) 1 c, .bool true]) ∧ 1 ≤ c ∧ w'.cell? ⟨g, 0, none⟩ = some (.int .i64 (d : Nat)) ∧ w'.cell? ⟨g, 2, none⟩ = some (.bool false)) ∧ Below w1.heap.size w1 w')) : Calls Tryd.prog 12 #[.agg #[.slice p n cap]] w fun e w' => e = .returned (.int .i64 20) ∧ Below w.heap.size w w' := by
  go_enter Tryd.func12, Tryd.ntmps12
  go_wp2_with (go_at_call 18; refine (HP.out _ (by with_reducible (repeat' first | assumption | exact Below.refl _ _ | refine Below.drew ?_ | refine bdrewN ?_ _ | refine Below.setCell ?_ (by first | exact Nat.le_refl _ | (simp; done) | (simp; omega) | omega) _ | refine Below.alloc ?_ (by first | exact Nat.le_refl _ | (simp; done) | (simp; omega) | omega) _))).mono ?_; rintro e w1 ⟨⟨g, c, rfl, hc, y0, y2⟩, hb⟩; have hB : Below w.heap.size w w1 := bup (by with_reducible (repeat' first | assumption | exact Below.refl _ _ | refine Below.drew ?_ | refine bdrewN ?_ _ | refine Below.setCell ?_ (by first | exact Nat.le_refl _ | (simp; done) | (simp; omega) | omega) _ | refine Below.alloc ?_ (by first | exact Nat.le_refl _ | (simp; done) | (simp; omega) | omega) _)) hb)
  all_goals go_ret
  all_goals exact ⟨rfl, by first | assumption | (with_reducible (repeat' first | assumption | exact Below.refl _ _ | refine Below.drew ?_ | refine bdrewN ?_ _ | refine Below.setCell ?_ (by first | exact Nat.le_refl _ | (simp; done) | (simp; omega) | omega) _ | refine Below.alloc ?_ (by first | exact Nat.le_refl _ | (simp; done) | (simp; omega) | omega) _))⟩
set_option maxHeartbeats 2000000 in
theorem rchk_7 (w : World) (p : Option Addr) (n cap : Nat) (d : Nat) (hd : ¬ (32 : Int) < d) (h1 : ¬ (n : Int) < 1) (h2 : ¬ (1024 : Int) < n) (HP : Hid (∀ w1, Below w.heap.size w w1 → Calls Tryd.prog 18 #[.slice p n cap] w1 fun e w' => (∃ g c, e = .returned (.tuple #[.slice (some ⟨g, 0, none⟩) 1 c, .bool true]) ∧ 1 ≤ c ∧ w'.cell? ⟨g, 0, none⟩ = some (.int .i64 (d : Nat)) ∧ w'.cell? ⟨g, 2, none⟩ = some (.bool false)) ∧ Below w1.heap.size w1 w')) : Calls Tryd.prog 12 #[.agg #[.slice p n cap]] w fun e w' => e = .returned (.int .i64 0) ∧ Below w.heap.size w w' := by
  go_enter Tryd.func12, Tryd.ntmps12
  go_wp2_with (go_at_call 18; refine (HP.out _ (by with_reducible (repeat' first | assumption | exact Below.refl _ _ | refine Below.drew ?_ | refine bdrewN ?_ _ | refine Below.setCell ?_ (by first | exact Nat.le_refl _ | (simp; done) | (simp; omega) | omega) _ | refine Below.alloc ?_ (by first | exact Nat.le_refl _ | (simp; done) | (simp; omega) | omega) _))).mono ?_; rintro e w1 ⟨⟨g, c, rfl, hc, y0, y2⟩, hb⟩; have hB : Below w.heap.size w w1 := bup (by with_reducible (repeat' first | assumption | exact Below.refl _ _ | refine Below.drew ?_ | refine bdrewN ?_ _ | refine Below.setCell ?_ (by first | exact Nat.le_refl _ | (simp; done) | (simp; omega) | omega) _ | refine Below.alloc ?_ (by first | exact Nat.le_refl _ | (simp; done) | (simp; omega) | omega) _)) hb)
  all_goals go_ret
  all_goals exact ⟨rfl, by first | assumption | (with_reducible (repeat' first | assumption | exact Below.refl _ _ | refine Below.drew ?_ | refine bdrewN ?_ _ | refine Below.setCell ?_ (by first | exact Nat.le_refl _ | (simp; done) | (simp; omega) | omega) _ | refine Below.alloc ?_ (by first | exact Nat.le_refl _ | (simp; done) | (simp; omega) | omega) _))⟩
theorem put_any (w : World) (v : Value) (ns : List Nd) (hv : NV w v ns) (h0 : 0 < ns.length) (hl : ns.length ≤ 1024) (hwf : ∀ x ∈ ns, Vv.I64 x.num) : Calls Tryd.prog 18 #[v] w fun e w' => PutOut w' w.heap.size e (putFrom [] ns) ∧ Below w.heap.size w w' := by
  obtain ⟨p, cap, rfl, hc, hf⟩ := hv
  obtain ⟨b, o, rfl, hlt, HC⟩ := hf h0
  exact put_y w b o cap ns.length ns hlt HC rfl hc h0 hl hwf
theorem row_one {w : World} {base : Nat} {v : Value} {t : Th} (h : PRow w base v [t]) : ∃ g c, v = .slice (some ⟨g, 0, none⟩) 1 c ∧ 1 ≤ c ∧ w.cell? ⟨g, 0, none⟩ = some (.int .i64 t.dep) ∧ w.cell? ⟨g, 2, none⟩ = some (.bool t.many) := by
  rcases h.two Th.pcells_size with ⟨_, e⟩ | ⟨g, c, e, _, _, hc, _, hcell, _⟩
  · cases e
  · exact ⟨g, c, e, hc, hcell 0 t rfl 0 (by decide), hcell 0 t rfl 2 (by decide)⟩
theorem rchk_any (w : World) (v : Value) (ns : List Nd) (hv : NV w v ns) (hwf : ∀ x ∈ ns, Vv.I64 x.num) : Calls Tryd.prog 12 #[.agg #[v]] w fun e w' => e = .returned (.int .i64 (chkI ns)) ∧ Below w.heap.size w w' := by
  by_cases h1 : ns.length < 1
  · obtain rfl : ns = [] := List.length_eq_zero_iff.1 (by omega)
    obtain ⟨p, cap, rfl, -, -⟩ := hv
    exact rchk_1 w p _ cap (by decide)
  by_cases h2 : 1024 < ns.length
  · have e : measN ns = none := by unfold measN; rw [if_pos h2]
    obtain ⟨p, cap, rfl, -, -⟩ := hv
    have e2 : (chkI ns : Int) = 20 := by unfold chkI; rw [e]
    rw [e2]
    exact rchk_2 w p _ cap (by omega) (by omega)
  have HP := fun w1 (h : Below w.heap.size w w1) => put_any w1 v ns (hv.keep h) (by omega) (by omega) hwf
  obtain ⟨p, cap, rfl, -, -⟩ := hv
  have em : measN ns = (putFrom [] ns).bind measL := by unfold measN; rw [if_neg h2]
  cases hp : putFrom [] ns with
  | none =>
    rw [hp] at HP em
    have e2 : (chkI ns : Int) = 20 := by unfold chkI; rw [em]; rfl
    rw [e2]
    exact rchk_3 w p _ cap (by omega) (by omega) HP
  | some st =>
    rw [hp] at HP em
    by_cases hs : st.length = 1
    · obtain ⟨t, rfl⟩ : ∃ t, st = [t] := List.length_eq_one_iff.1 hs
      have HP2 : ∀ w1, Below w.heap.size w w1 → Calls Tryd.prog 18 #[.slice p ns.length cap] w1 fun e w' => (∃ g c, e = .returned (.tuple #[.slice (some ⟨g, 0, none⟩) 1 c, .bool true]) ∧ 1 ≤ c ∧ w'.cell? ⟨g, 0, none⟩ = some (.int .i64 t.dep) ∧ w'.cell? ⟨g, 2, none⟩ = some (.bool t.many)) ∧ Below w1.heap.size w1 w' := fun w1 h => (HP w1 h).mono fun e w' ⟨⟨v, hv, hr⟩, hb⟩ => by
        obtain ⟨g, c, rfl, hc, y0, y2⟩ := row_one hr
        exact ⟨⟨g, c, hv, hc, y0, y2⟩, hb⟩
      cases hm : t.many
      · rw [hm] at HP2
        have e1 : measN ns = some t.dep := by rw [em]; simp [measL, hm]
        by_cases hd : t.dep ≤ 32
        · have e2 : chkI ns = 0 := by unfold chkI; rw [e1]; exact if_pos hd
          rw [e2]; exact rchk_7 w p _ cap t.dep (by omega) (by omega) (by omega) HP2
        · have e2 : chkI ns = 20 := by unfold chkI; rw [e1]; exact if_neg hd
          rw [e2]; exact rchk_6 w p _ cap t.dep (by omega) (by omega) (by omega) HP2
      · rw [hm] at HP2
        have e1 : measN ns = none := by rw [em]; simp [measL, hm]
        have e2 : (chkI ns : Int) = 20 := by unfold chkI; rw [e1]
        rw [e2]; exact rchk_5 w p _ cap t.dep (by omega) (by omega) HP2
    · have e1 : measN ns = none := by
        rw [em]
        match st, hs with
        | [], _ => rfl
        | a :: b :: l, _ => rfl
      have e2 : (chkI ns : Int) = 20 := by unfold chkI; rw [e1]
      rw [e2]
      refine rchk_4 w p _ cap (by omega) (by omega) (fun w1 h => (HP w1 h).mono fun e w' ⟨⟨v, hv, hr⟩, hb⟩ => ?_)
      obtain ⟨q, c, rfl, _, _⟩ := hr.slice
      exact ⟨⟨q, c, _, hv, by simp; omega⟩, hb⟩
end Go.Proofs.YtekpmdpmcbjkkaaDoor
