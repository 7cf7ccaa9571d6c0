/- The contracts of slices.Grow of nothing and of slices.Concat of two pieces of a row: the spots of both, in memory of their own. New memory alone is made. The condition: no more than 65536 spots. -/
import Derived.Test.YtaafpfjmnhmalaaS12
namespace Go.Proofs.Ytaafpfjmnhmalaa
open Go.RowKit
set_option linter.all false
set_option maxRecDepth 100000 in
set_option maxHeartbeats 2000000 in
theorem grow_zero (w : World) : Calls Try.prog 46 #[.slice none 0 0, .int .i64 0] w fun e w' => e = .returned (.slice none 0 0) ∧ w' = w := by
  go_enter Try.func46, Try.ntmps46
  go_wp2
  go_ret
  exact ⟨rfl, rfl⟩
set_option maxRecDepth 100000 in
set_option maxHeartbeats 2000000 in
theorem grow_more (w : World) (k : Nat) (hk : 0 < k) (hl : k ≤ 65536) : Calls Try.prog 46 #[.slice none 0 0, .int .i64 k] w fun e w' => (∃ g cp, e = .returned (.slice (some ⟨g, 0, none⟩) 0 cp) ∧ RowW w' (.slice (some ⟨g, 0, none⟩) 0 cp) [] ∧ w.heap.size ≤ g) ∧ Below w.heap.size w w' := by
  have mixed : Try.prog.follows .mixedOrders = true := by kernel_rfl
  obtain ⟨i0, hi0, hz0, hzs, hzb⟩ := info_parts infoSp
  have hold : (Builtin.firstCells i0.size 0 (.slice none 0 0)).run Try.prog w.drew = .ok ([] : List Value).toArray w.drew := run_firstCells_none w.drew _ 0 0 0
  obtain ⟨G, hG⟩ : ∃ G, G = grownCap w k 0 97 := ⟨_, rfl⟩
  obtain ⟨ROW, hROW⟩ : ∃ ROW : Array Value, ROW = ([] : List Value).toArray ++ Builtin.zeroCells (Value.agg #[.int .i64 0, .pointer none]).cells k ++ Builtin.zeroCells (Value.agg #[.int .i64 0, .pointer none]).cells (G - k) := ⟨_, rfl⟩
  obtain ⟨WA, hWA⟩ : ∃ WA, WA = w.drew.alloc (.cells ROW 97) := ⟨_, rfl⟩
  obtain ⟨NB, hNB⟩ : ∃ NB, NB = w.heap.size := ⟨_, rfl⟩
  have hrz : ∀ ty, (Builtin.append_ #[80, 3] ty #[.slice none 0 0, .int .i64 k]).run Try.prog w = .ok (.slice (some ⟨NB, 0, none⟩) k G) WA := fun ty => by
    have h := Lib.run_append_grow_zeros w 80 3 ty 97 i0 _ .i64 .i64 Try.underlying80 Try.underlying3 hi0 hz0 none 0 0 [] hold k (by omega) (by omega) (by omega) (by omega) (by rw [hzb]; omega) (by rw [hzb]; exact growslice_fits (by omega) (by omega))
    simp only [Nat.zero_add] at h
    rw [← hG, ← hROW, ← hWA, ← hNB] at h
    exact h
  have hGn : k ≤ G := by rw [hG]; exact grownCap_ge w _ _ _
  have hGm : G ≤ maxLen := by rw [hG]; exact grownCap_le_maxLen w k 0 _ (by unfold maxLen; omega)
  have hRs : ROW.size = G * 2 := by
    rw [hROW]
    simp only [Array.size_append, List.size_toArray, zero_size]
    simp only [Value.cells]
    simp
    omega
  have HP : Hid (RowW WA (.slice (some ⟨NB, 0, none⟩) 0 G) [] ∧ w.heap.size ≤ NB ∧ Below w.heap.size w WA) := by
    refine ⟨RowW.mk rfl (by rw [hWA, hNB]; exact heap_alloc_new w.drew _) (Nat.zero_le _) hGm hRs (by simp [flat]), by omega, ?_⟩
    rw [hWA]
    exact (Below.refl _ _).drew.alloc (Nat.le_refl _) _
  unfold maxLen at hGm
  clear hWA hNB hG hROW hRs hold hi0 hz0 hzs hzb i0
  go_enter Try.func46, Try.ntmps46
  go_wp2_with (at_builtin; refine wpList_appZ rfl _ _ rfl _ _ rfl rfl _ _ (hrz _) ?_)
  all_goals go_ret
  all_goals exact ⟨⟨_, _, rfl, HP.out.1, HP.out.2.1⟩, HP.out.2.2⟩
/-- A piece of a row. -/
def VW (w : World) (v : Value) (l : List Sp) : Prop := ∃ a cp, v = .slice (some a) l.length cp ∧ (∀ j u, (flat l)[j]? = some u → w.cell? (a.add j) = some u)
theorem VW.keep {w w' : World} {v : Value} {l : List Sp} (h : VW w v l) (hb : Below w.heap.size w w') : VW w' v l := by
  obtain ⟨a, cp, rfl, h1⟩ := h
  refine ⟨a, cp, rfl, fun j u hj => ?_⟩
  have h2 := h1 j u hj
  rw [hb.cell (World.block_lt_of_cell? w _ h2)]
  exact h2
theorem app_row (W : World) (v x : Value) (m k : List Sp) (h : RowW W v m) (hx : VW W x k) (hl : m.length + k.length ≤ 65536) (ty : TypeId) :
    ∃ v' w', (Builtin.append_ #[80, 80] ty #[v, x]).run Try.prog W = .ok v' w' ∧ RowW w' v' (m ++ k) ∧ (v'.ownBlock = v.ownBlock ∨ v'.ownBlock = some W.heap.size) ∧ Mut (fun g => v.ownBlock = some g) W w' := by
  obtain ⟨i, hi, hz, hsz, hby⟩ := info_parts infoSp
  obtain ⟨a, cp, rfl, hc⟩ := hx
  obtain ⟨v', w', h1, h2, h3, h4, h5⟩ := run_append_own_at (P := Try.prog) W 0 80 ty 97 i _ 2 16 Try.underlying80 hi hz hsz hby rfl (by omega) v m.length (flat m) h a k.length cp (flat k) (flat_len k) hc (flat_one k) (by unfold maxLen; omega) (by omega) (Nat.zero_le _)
  refine ⟨v', w', h1, ?_, h5, ⟨h3.os, h3.tape, h3.output, h3.size, fun b hb hs => h3.block b hb (fun e => hs e.symm)⟩⟩
  unfold RowW
  rw [flat_app, List.length_append]
  exact h2
theorem wpList_appR {w : World} {ops : Array Oper} {rest : List Oper} {o : Oper} {a : Act} {Q : Exit → Act → World → Prop} (hgd : o.guard = none) (s x : Operand)
    (ho : o.op = .call { callee := .builtin .append, args := #[s, x], argTypes := #[80, 80] }) (v xv : Value) (hs : a.eval s = v) (hx : a.eval x = xv) (v' : Value) (w' : World)
    (hr : (Builtin.append_ #[80, 80] o.type #[v, xv]).run Try.prog w = .ok v' w') (h : wpList Try.prog ops Q rest (a.put o.dst v') w') : wpList Try.prog ops Q (o :: rest) a w :=
  wpList_plain hgd fun K hK => by
    unfold Oper.wp execOp
    simp only [ho, resolve, invoke, builtin, Sem.run_bind, Sem.run_pure, Result.andThen_ok, List.map_toArray, List.map_cons, List.map_nil, hs, hx, hr]
    exact hK _ _ h
/-- What Grow gives, of either size. -/
theorem grow_any (w : World) (k : Nat) (hl : k ≤ 65536) : Calls Try.prog 46 #[.slice none 0 0, .int .i64 k] w fun e w' => ∃ v, e = .returned v ∧ RowW w' v [] ∧ (∀ g, v.ownBlock = some g → w.heap.size ≤ g) ∧ Below w.heap.size w w' := by
  by_cases h : k = 0
  · subst h
    refine (grow_zero w).mono ?_
    rintro e w' ⟨rfl, rfl⟩
    exact ⟨_, rfl, RowW.nil _, (fun g hg => by cases hg), Below.refl _ _⟩
  · refine (grow_more w k (by omega) hl).mono ?_
    rintro e w' ⟨⟨g, cp, rfl, h1, h2⟩, h3⟩
    exact ⟨_, rfl, h1, (fun g' hg => by injection hg with hg; subst hg; exact h2), h3⟩
set_option maxRecDepth 100000 in
set_option maxHeartbeats 4000000 in
theorem concat_two (w : World) (sb : Nat) (x1 x2 : Value) (l1 l2 : List Sp) (hs : Hid (Own w sb #[x1, x2])) (h1 : Hid (VW w x1 l1)) (h2 : Hid (VW w x2 l2)) (hl : l1.length + l2.length ≤ 65536) :
    Calls Try.prog 40 #[.slice (some ⟨sb, 0, none⟩) 2 2] w fun e w' => ∃ v, e = .returned v ∧ RowW w' v (l1 ++ l2) ∧ (∀ g, v.ownBlock = some g → w.heap.size ≤ g) ∧ Below w.heap.size w w' := by
  have mixed : Try.prog.follows .mixedOrders = true := by kernel_rfl
  obtain ⟨a1, c1, e1, _⟩ := h1.out
  obtain ⟨a2, c2, e2, _⟩ := h2.out
  subst e1 e2
  obtain ⟨n1, hn1⟩ : ∃ n, n = l1.length := ⟨_, rfl⟩
  obtain ⟨n2, hn2⟩ : ∃ n, n = l2.length := ⟨_, rfl⟩
  rw [← hn1] at hs h1 hl
  rw [← hn2] at hs h2 hl
  have cs0 : w.cell? ⟨sb, 0, none⟩ = some (.slice (some a1) n1 c1) := hs.out.cell 0
  have cs1 : w.cell? ⟨sb, 1, none⟩ = some (.slice (some a2) n2 c2) := hs.out.cell 1
  have ls := hs.out.lt
  have HL1 : Hid (n1 = l1.length) := hn1
  have HL2 : Hid (n2 = l2.length) := hn2
  have HG : Hid (∀ W k, k ≤ 65536 → Calls Try.prog 46 #[.slice none 0 0, .int .i64 (k : Nat)] W fun e w' => ∃ v, e = .returned v ∧ RowW w' v [] ∧ (∀ g, v.ownBlock = some g → W.heap.size ≤ g) ∧ Below W.heap.size W w') := fun W k h => grow_any W k h
  clear hn1 hn2 hs
  go_enter Try.func40, Try.ntmps40
  go_wp2
  go_loop [3, 11] (fun s i => (i = .int .i64 0 ∧ s = .int .i64 0) ∨ (i = .int .i64 1 ∧ s = .int .i64 (n1 : Int)) ∨ (i = .int .i64 2 ∧ s = .int .i64 ((n1 + n2 : Nat) : Int))) (fun _ i => 2 - (intOf i).toNat)
  case atStart => exact .inl ⟨rfl, rfl⟩
  case round =>
    rcases hrel with ⟨rfl, rfl⟩ | ⟨rfl, rfl⟩ | ⟨rfl, rfl⟩
    · go_wp2
      all_goals exact ⟨.inr (.inl ⟨rfl, rfl⟩), by simp [intOf]⟩
    · go_wp2
      all_goals exact ⟨.inr (.inr ⟨rfl, by go_num⟩), by simp [intOf]⟩
    · go_wp2_with (go_at_call 46; refine (HG.out _ (n1 + n2) hl).mono ?_; rintro e wa ⟨va, rfl, hra, hga, hba⟩; have HRA : Hid _ := hra; clear hra)
      have HAP : Hid (∀ (W : World) (u x : Value) (m k : List Sp), RowW W u m → (∀ g, u.ownBlock = some g → w.heap.size ≤ g) → VW W x k → m.length + k.length ≤ 65536 → w.heap.size ≤ W.heap.size → ∀ ty, ∃ v' w', (Builtin.append_ #[80, 80] ty #[u, x]).run Try.prog W = .ok v' w' ∧ RowW w' v' (m ++ k) ∧ (∀ g, v'.ownBlock = some g → w.heap.size ≤ g) ∧ Below w.heap.size W w') := (show _ from fun W u x m k r1 r2 r3 r4 r5 ty => by
        obtain ⟨v', w', q1, q2, q3, q4⟩ := app_row W u x m k r1 r3 r4 ty
        refine ⟨v', w', q1, q2, fun g hg => ?_, q4.to_below r5 r2⟩
        rcases q3 with q3 | q3
        · exact r2 g (q3.symm.trans hg)
        · rw [q3] at hg; injection hg with hg; omega)
      clear HG
      go_loopw [6, 27] (fun u v w' => ∃ m, ((v = .int .i64 0 ∧ m = []) ∨ (v = .int .i64 1 ∧ m = l1) ∨ (v = .int .i64 2 ∧ m = l1 ++ l2)) ∧ Hid (RowW w' u m ∧ (∀ g, u.ownBlock = some g → w.heap.size ≤ g)) ∧ Below w.heap.size w w') (fun _ v _ => 2 - (intOf v).toNat)
      case atStart => exact ⟨[], .inl ⟨rfl, rfl⟩, (show Hid _ from ⟨HRA.out, hga⟩), hba⟩
      case round =>
        obtain ⟨m, hm, hR, hB⟩ := hrel
        have zB := hB.size
        have y0 := (hB.cell (p := ⟨sb, 0, none⟩) ls).trans cs0
        have y1 := (hB.cell (p := ⟨sb, 1, none⟩) ls).trans cs1
        rcases hm with ⟨rfl, rfl⟩ | ⟨rfl, rfl⟩ | ⟨rfl, rfl⟩
        · go_wp2_with (at_builtin; obtain ⟨v', wb, hr, q1, q2, q3⟩ := HAP.out _ _ _ _ _ hR.out.1 hR.out.2 (h1.out.keep hB) (by have := HL1.out; simp; omega) zB _; refine wpList_appR rfl _ _ rfl _ _ rfl rfl _ wb hr ?_; have Q1 : Hid _ := And.intro q1 q2; clear q1 q2 hr)
          all_goals exact ⟨⟨l1, .inr (.inl ⟨rfl, rfl⟩), Q1, hB.trans q3⟩, by simp [intOf]⟩
        · go_wp2_with (at_builtin; obtain ⟨v', wb, hr, q1, q2, q3⟩ := HAP.out _ _ _ _ _ hR.out.1 hR.out.2 (h2.out.keep hB) (by have := HL1.out; have := HL2.out; omega) zB _; refine wpList_appR rfl _ _ rfl _ _ rfl rfl _ wb hr ?_; have Q1 : Hid _ := And.intro q1 q2; clear q1 q2 hr)
          all_goals exact ⟨⟨m ++ l2, .inr (.inr ⟨rfl, rfl⟩), Q1, hB.trans q3⟩, by simp [intOf]⟩
        · go_wp2
          all_goals go_ret
          all_goals exact ⟨_, rfl, hR.out.1, hR.out.2, hB⟩
end Go.Proofs.Ytaafpfjmnhmalaa
