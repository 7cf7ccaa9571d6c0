/- The contract of slices.Compact at a row of one's own. · The contracts of slices.Delete of one thing, slices.Grow of nothing, slices.Concat of one row, and of without. The condition: no more than 3518437208883 of them. -/
import Derived.Test.YtcjanaldjokllaaGreatQECEQ
import Derived.Test.YtcjanaldjokllaaGreatQESBIcBDc
namespace Go.Proofs.YtcjanaldjokllaaGreat
open Go.RowKit
set_option linter.all false
/-- So many are written at the front; behind them all is as it was. -/
def Cpc (w w' : World) (g : Nat) (cur : Array Value) (R : List Cl) : Prop := Mut (fun b => b = g) w w' ∧ ∃ cur' : Array Value, w'.heap[g]? = some (.cells cur' 32 (0, 0)) ∧ cur'.size = cur.size ∧ (∀ i x j u, R[i]? = some x → (x : Cl).cs[j]? = some u → cur'[i * 2 + j]? = some u) ∧ (∀ o, R.length * 2 ≤ o → cur'[o]? = cur[o]?)
theorem Cpc.drewN {w w' : World} {g : Nat} {cur : Array Value} {R : List Cl} (h : Cpc w w' g cur R) (n : Nat) : Cpc w (w'.drewN n) g cur R := ⟨h.1.drewN n, h.2⟩
theorem Cpc.put {w W : World} {g : Nat} {cur : Array Value} {R : List Cl} (h : Cpc w W g cur R) (y : Cl) (hr : (R.length + 1) * 2 ≤ cur.size) : Cpc w (putW W g (R.length * 2) y.cs) g cur (R ++ [y]) := by
  obtain ⟨hM, c', h1, h2, h3, h4⟩ := h
  have hl := Cl.len y
  refine ⟨putW_mut (S := fun b => b = g) rfl _ _ _ hM, putA c' (R.length * 2) y.cs, putW_heap _ _ _ _ h1, by rw [putA_size, h2], fun i x j u q1 q2 => ?_, fun o ho => ?_⟩
  · have hj : j < 2 := by have := (List.getElem?_eq_some_iff.1 q2).1; rwa [Cl.len] at this
    by_cases hi : i < R.length
    · rw [List.getElem?_append_left hi] at q1
      rw [putA_out _ _ _ _ (.inl (by have := Nat.mul_le_mul_right 2 (show i + 1 ≤ R.length from hi); omega))]
      exact h3 i x j u q1 q2
    · have hi2 : i = R.length := by
        have := (List.getElem?_eq_some_iff.1 q1).1
        simp at this; omega
      subst hi2
      simp at q1
      subst q1
      exact putA_in _ _ _ _ _ (by rw [h2, hl]; omega) q2
  · rw [List.length_append, List.length_singleton] at ho
    rw [putA_out _ _ _ _ (.inr (by rw [hl]; omega))]
    exact h4 o (by omega)
set_option maxRecDepth 100000 in
set_option maxHeartbeats 8000000 in
theorem comp_morec (w : World) (g n cap : Nat) (l : List Cl) (cur : Array Value) (hn : n = l.length) (h2 : 2 ≤ n) (hgl : g < w.heap.size) (hg : w.heap[g]? = some (.cells cur 32 (0, 0))) (hnc : n ≤ cap) (hcp : cap ≤ maxLen) (hsz : cur.size = cap * 2) (ht : cur.toList.take (l.length * 2) = flatG Cl.cs l) (hl : n ≤ 4000000000000) :
    Calls Tryz.prog 80 #[.slice (some ⟨g, 0, none⟩) n cap] w (WoP 32 2 Cl.cs w (.slice (some ⟨g, 0, none⟩) n cap) (cpt sCl l)) := by
  have mixed : Tryz.prog.follows .mixedOrders = true := by kernel_rfl
  have hcc := row_cellsG Cl.len hg ht
  have HC : Hid (∀ i x j u, l[i]? = some x → x.cs[j]? = some u → w.cell? ⟨g, i * 2 + j, none⟩ = some u) := hcc
  have HN : Hid (n = l.length) := hn
  have Hl : Hid (n ≤ 4000000000000) := hl
  unfold maxLen at hcp
  have h2' : ¬ (n : Int) < 2 := by omega
  have HT : Hid (cur.toList.take (l.length * 2) = flatG Cl.cs l) := ht
  clear hcc hn hl ht
  go_enter Tryz.func80, Tryz.ntmps80
  go_wp2
  go_loopw [3] (fun u3 w' => ∃ m : Nat, u3 = .int .i64 ((m + 1 : Nat) : Int) ∧ m + 1 ≤ n ∧ Hid (∀ (j : Nat) (x y : Cl), j + 1 ≤ m → l[j]? = some x → l[j + 1]? = some y → sCl y x = false) ∧ Below w.heap.size w w') (fun u3 _ => n - (intOf u3).toNat)
  case atStart => exact ⟨0, rfl, by omega, (show Hid _ from fun j x y hj => by omega), by with_reducible (repeat' first | assumption | exact Below.refl _ _ | refine Below.drew ?_ | refine bdrewN ?_ _ | refine Below.setCell ?_ (by first | exact Nat.le_refl _ | (simp; done) | (simp; omega) | omega) _ | refine Below.alloc ?_ (by first | exact Nat.le_refl _ | (simp; done) | (simp; omega) | omega) _)⟩
  case round =>
    obtain ⟨m, rfl, hm, HP, hB⟩ := hrel
    obtain ⟨k, hk⟩ : ∃ k, k = m + 1 := ⟨_, rfl⟩
    have Hk : Hid (k = m + 1) := hk
    rw [← hk] at hm ⊢
    have hw1 : IntKind.i64.wrap ((k : Int) - 1) = (m : Int) := by rw [IntKind.wrap_i64]; omega
    have hmk : m < n := by omega
    have hmk' : (m : Int) < n := by omega
    have zB := hB.size
    have hgr : g < wr.heap.size := by omega
    clear hk
    by_cases hlt : k < n
    · have hlt' : (k : Int) < n := by omega
      obtain ⟨x, hx⟩ : ∃ x, l[m]? = some x := ⟨_, List.getElem?_eq_getElem (by rw [← HN.out]; omega)⟩
      obtain ⟨y, hy⟩ : ∃ y, l[k]? = some y := ⟨_, List.getElem?_eq_getElem (by rw [← HN.out]; omega)⟩
      have x0 : wr.cell? ⟨g, m * 2, none⟩ = some (.int .i64 x.r) := (hB.cell (p := ⟨g, m * 2, none⟩) hgl).trans (HC.out m x 0 _ hx rfl)
      have x1 : wr.cell? ⟨g, m * 2 + 1, none⟩ = some (.int .i64 x.c) := (hB.cell (p := ⟨g, m * 2 + 1, none⟩) hgl).trans (HC.out m x 1 _ hx rfl)
      have y0 : wr.cell? ⟨g, k * 2, none⟩ = some (.int .i64 y.r) := (hB.cell (p := ⟨g, k * 2, none⟩) hgl).trans (HC.out k y 0 _ hy rfl)
      have y1 : wr.cell? ⟨g, k * 2 + 1, none⟩ = some (.int .i64 y.c) := (hB.cell (p := ⟨g, k * 2 + 1, none⟩) hgl).trans (HC.out k y 1 _ hy rfl)
      have heq := eqCl y x
      cases hs : sCl y x
      · rw [hs] at heq
        have HP2 : Hid (∀ (j : Nat) (x y : Cl), j + 1 ≤ m + 1 → l[j]? = some x → l[j + 1]? = some y → sCl y x = false) := (show _ from fun j x' y' hj h1 h2 => by
          by_cases e : j = m
          · subst e; rw [hx] at h1; injection h1 with h1; subst h1; rw [← Hk.out, hy] at h2; injection h2 with h2; subst h2; exact hs
          · exact HP.out j x' y' (by omega) h1 h2)
        clear hs hx hy
        go_wp2
        go_quiet (fail)
        go_wp2
        refine ⟨⟨m + 1, by rw [← Hk.out]; go_num, by rw [← Hk.out]; omega, HP2, bdrewN hB _⟩, by simp [intOf] <;> omega⟩
      · rw [hs] at heq
        have hxy : y = x := (sCl_is).1 hs
        have hci : ¬ cap = k := by omega
        have hk2 : (k : Int) ≤ n := by omega
        have hk3 : (k : Int) ≤ cap := by omega
        have HR0 : Hid (cpt sCl (l.take (k + 1)) = l.take k) := (show _ = _ by
          have h1 := cpt_step (s := sCl) (fun _ _ => sCl_is) hx (by rw [← Hk.out]; exact hy)
          rw [hs] at h1
          rw [Hk.out, h1, if_pos rfl]
          exact cpt_plain (fun _ _ => sCl_is) (by rw [← HN.out]; exact hmk) HP.out)
        clear hs hx hy hxy HP
        go_wp2
        go_quiet (fail)
        obtain ⟨W0, e0⟩ : ∃ W0 : World, W0 = wr.drewN nq := ⟨_, rfl⟩
        have hB0 : Below w.heap.size w W0 := (by rw [e0]; exact bdrewN hB _)
        rw [← e0]
        clear e0 x0 y0 x1 y1
        have hS1 : ∀ i (z : Cl) j u, (l.take k)[i]? = some z → z.cs[j]? = some u → cur[i * 2 + j]? = some u := fun i z j u h1 h2 => by
          rw [List.getElem?_take] at h1
          split at h1
          · have := HC.out i z j u h1 h2
            rwa [cell_row hg] at this
          · cases h1
        have HS : Hid (Cpc w W0 g cur (l.take k)) := (show Cpc _ _ _ _ _ from ⟨Mut.of_below hB0, cur, (hB0.block g hgl).trans hg, rfl, hS1, fun o _ => rfl⟩)
        clear hS1
        go_wp2
        go_loopw [3, 5] (fun u3 u5 w' => ∃ (k2 r : Nat) (R : List Cl), u5 = .int .i64 ((k2 + 1 : Nat) : Int) ∧ u3 = .int .i64 (r : Int) ∧ r = R.length ∧ k + (k2 + 1) ≤ n ∧ r + 1 ≤ k + (k2 + 1) ∧ Hid (R = cpt sCl (l.take (k + (k2 + 1)))) ∧ Hid (Cpc w w' g cur R)) (fun _ u5 _ => n - (intOf u5).toNat)
        case atStart => exact ⟨0, k, l.take k, rfl, rfl, by rw [List.length_take, ← HN.out]; omega, by omega, by omega, HR0.out.symm, HS⟩
        case round =>
          clear HS hB hB0 zB hgr HR0 hw1
          rename_i wr0
          obtain ⟨k2, r, R, rfl, rfl, hr, hkn, hrk, HR, HS⟩ := hrel
          obtain ⟨kq, hkq⟩ : ∃ kq, kq = k2 + 1 := ⟨_, rfl⟩
          have Hq : Hid (kq = k2 + 1) := hkq
          rw [← hkq] at hkn hrk HR ⊢
          have hw1 : IntKind.i64.wrap ((kq : Int) - 1) = (k2 : Int) := by rw [IntKind.wrap_i64]; have := Hl.out; omega
          obtain ⟨hM, cur', hg', hs', hS1, hS2⟩ := HS.out
          have hrd : ∀ i (z : Cl) j u, r ≤ i → l[i]? = some z → z.cs[j]? = some u → wr.cell? ⟨g, i * 2 + j, none⟩ = some u := fun i z j u h1 h2 h3 => by
            rw [cell_row hg', hS2 _ (by rw [← hr]; omega), ← cell_row hg]
            exact HC.out i z j u h2 h3
          have hM1 : Hid (Mut (fun b => b = g) w wr) := hM
          have Hr : Hid (r = R.length) := hr
          have HS1 : Hid (∀ i x j u, R[i]? = some x → (x : Cl).cs[j]? = some u → cur'[i * 2 + j]? = some u) := hS1
          have HS2 : Hid (∀ o, R.length * 2 ≤ o → cur'[o]? = cur[o]?) := hS2
          have hk2n : (k2 : Int) < ((n - k : Nat) : Int) := by omega
          have hgr : g < wr.heap.size := (Array.getElem?_eq_some_iff.1 hg').1
          clear hkq hS1 hS2 hr hM
          by_cases hlq : k + kq < n
          · have hlq' : (kq : Int) < ((n - k : Nat) : Int) := by omega
            have hrn : (r : Int) < (n : Int) := by omega
            obtain ⟨x, hx⟩ : ∃ x, l[k + k2]? = some x := ⟨_, List.getElem?_eq_getElem (by rw [← HN.out]; omega)⟩
            obtain ⟨y, hy⟩ : ∃ y, l[k + kq]? = some y := ⟨_, List.getElem?_eq_getElem (by rw [← HN.out]; omega)⟩
            obtain ⟨z, hz⟩ : ∃ z, l[r]? = some z := ⟨_, List.getElem?_eq_getElem (by rw [← HN.out]; omega)⟩
            have x0 : wr.cell? ⟨g, k * 2 + k2 * 2, none⟩ = some (.int .i64 x.r) := (by have h := hrd (k + k2) x 0 _ (by have := Hq.out; omega) hx rfl; rwa [show (k + k2) * 2 + 0 = k * 2 + k2 * 2 by omega] at h)
            have x1 : wr.cell? ⟨g, k * 2 + k2 * 2 + 1, none⟩ = some (.int .i64 x.c) := (by have h := hrd (k + k2) x 1 _ (by have := Hq.out; omega) hx rfl; rwa [show (k + k2) * 2 + 1 = k * 2 + k2 * 2 + 1 by omega] at h)
            have y0 : wr.cell? ⟨g, k * 2 + kq * 2, none⟩ = some (.int .i64 y.r) := (by have h := hrd (k + kq) y 0 _ (by have := Hq.out; omega) hy rfl; rwa [show (k + kq) * 2 + 0 = k * 2 + kq * 2 by omega] at h)
            have y1 : wr.cell? ⟨g, k * 2 + kq * 2 + 1, none⟩ = some (.int .i64 y.c) := (by have h := hrd (k + kq) y 1 _ (by have := Hq.out; omega) hy rfl; rwa [show (k + kq) * 2 + 1 = k * 2 + kq * 2 + 1 by omega] at h)
            have z0 : wr.cell? ⟨g, r * 2, none⟩ = some (.int .i64 z.r) := hrd r z 0 _ (Nat.le_refl _) hz rfl
            have f0 : wr.frozen? ⟨g, r * 2, none⟩ = false := fro_row hg'
            have z1 : wr.cell? ⟨g, r * 2 + 1, none⟩ = some (.int .i64 z.c) := hrd r z 1 _ (Nat.le_refl _) hz rfl
            have f1 : wr.frozen? ⟨g, r * 2 + 1, none⟩ = false := fro_row hg'
            have heq := neCl y x
            cases hs : sCl y x
            · rw [hs] at heq
              have HR2 : Hid (R ++ [y] = cpt sCl (l.take (k + (kq + 1)))) := (show _ = _ by
                have h1 := cpt_step (s := sCl) (fun _ _ => sCl_is) hx (by rw [Nat.add_assoc, ← Hq.out]; exact hy)
                rw [hs, Nat.add_assoc, Nat.add_assoc, show k2 + 2 = kq + 1 by rw [Hq.out], ← Hq.out, ← HR.out] at h1
                rw [h1]
                rfl)
              have hlen : Hid ((R.length + 1) * 2 ≤ cur.size) := (show _ ≤ _ by rw [hsz, ← Hr.out]; have := Nat.mul_le_mul_right 2 (show r + 1 ≤ cap by omega); omega)
              clear hs hx hy hz
              go_wp2
              go_quiet (fail)
              go_wp2
              have HS3 : Hid (Cpc w (putW (wr.drewN nq) g (r * 2) y.cs) g cur (R ++ [y])) := (show Cpc _ _ _ _ _ from by rw [Hr.out]; exact (HS.out.drewN nq).put y hlen.out)
              exact ⟨⟨kq, r + 1, R ++ [y], by go_num, by go_num, by rw [List.length_append, List.length_singleton, ← Hr.out], by omega, by omega, HR2, HS3⟩, by simp [intOf] <;> omega⟩
            · rw [hs] at heq
              have HR2 : Hid (R = cpt sCl (l.take (k + (kq + 1)))) := (show _ = _ by
                have h1 := cpt_step (s := sCl) (fun _ _ => sCl_is) hx (by rw [Nat.add_assoc, ← Hq.out]; exact hy)
                rw [hs, Nat.add_assoc, Nat.add_assoc, show k2 + 2 = kq + 1 by rw [Hq.out], ← Hq.out, ← HR.out] at h1
                rw [h1]
                rfl)
              clear hs hx hy hz
              go_wp2
              go_quiet (fail)
              go_wp2
              exact ⟨⟨kq, r, R, by go_num, rfl, Hr.out, by omega, by omega, HR2, (show Cpc _ _ _ _ _ from HS.out.drewN _)⟩, by simp [intOf] <;> omega⟩
          · have hlq' : ¬ (kq : Int) < ((n - k : Nat) : Int) := by omega
            have hRl : Hid (R = cpt sCl l) := (show _ = _ by rw [HR.out, List.take_of_length_le (by rw [← HN.out]; omega)])
            have hcl := fun ty c => run_clearc wr g (r * 2) (n - r) c cur' hg' (by rw [hs', hsz]; have := Nat.mul_le_mul_right 2 (show r + (n - r) ≤ cap by omega); rw [Nat.add_mul] at this; exact this) ty
            have HCL : Hid (∀ ty c, ∃ W2, (Builtin.clear_ #[41] ty #[.slice (some ⟨g, r * 2, none⟩) (n - r) c]).run Tryz.prog wr = .ok (.tuple #[]) W2 ∧ WoP 32 2 Cl.cs w (.slice (some ⟨g, 0, none⟩) n cap) (cpt sCl l) (.returned (.slice (some ⟨g, 0, none⟩) r cap)) W2) := (show _ from fun ty c => by
              obtain ⟨C2, k1, k2, k3⟩ := hcl ty c
              refine ⟨_, k1, _, rfl, RowG.mk Cl.len (by rw [← hRl.out]; exact Hr.out) (Nat.zero_le _) (setRow_heap wr g _ _ _ _ hg') (by rw [← hRl.out, ← Hr.out]; omega) (by unfold maxLen; omega) (by rw [k2, hs', hsz]) ?_, fun g' e => .inl e, ?_⟩
              · rw [← hRl.out, ← Hr.out, k3, Hr.out]
                exact flat_of Cl.len HS1.out
              · exact Mut.setRow (S := fun k => (Value.slice (some ⟨g, 0, none⟩) n cap).ownBlock = some k) ((Mut.refl _ w).call hM1.out (fun b e => .inl (by subst e; rfl))) (.inl rfl) _)
            clear hcl
            obtain ⟨W2, hr2, hP⟩ := HCL.out 0 (cap - r)
            have HP : Hid (WoP 32 2 Cl.cs w (.slice (some ⟨g, 0, none⟩) n cap) (cpt sCl l) (.returned (.slice (some ⟨g, 0, none⟩) r cap)) W2) := hP
            clear hP HCL
            have e1 : (r : Int) ≤ n := by omega
            have e2 : (r : Int) ≤ cap := by omega
            have e3 : ¬ cap = r := by omega
            go_wp2
            all_goals first | exact HP.out | (go_ret; exact HP.out)
    · have hlt' : ¬ (k : Int) < n := by omega
      have hRl : Hid (cpt sCl l = l) := (show _ = _ by
        have h := cpt_plain (s := sCl) (fun _ _ => sCl_is) (k := m) (by rw [← HN.out]; omega) HP.out
        rwa [List.take_of_length_le (by rw [← HN.out]; have := Hk.out; omega)] at h)
      have HF : Hid (∀ W, Below w.heap.size w W → WoP 32 2 Cl.cs w (.slice (some ⟨g, 0, none⟩) n cap) (cpt sCl l) (.returned (.slice (some ⟨g, 0, none⟩) n cap)) W) := (show _ from fun W hb => by
        rw [hRl.out]
        exact ⟨_, rfl, RowG.mk Cl.len HN.out (Nat.zero_le _) ((hb.block g hgl).trans hg) (by rw [← HN.out]; exact hnc) (by unfold maxLen; exact hcp) hsz HT.out, fun g' e => .inl e, Mut.of_below hb⟩)
      go_wp2
      go_ret
      exact HF.out _ zqb
theorem comp_anyc (w : World) (v : Value) (l : List Cl) (hv : RowK w v l) (hl : l.length ≤ 4000000000000) : Calls Tryz.prog 80 #[v] w (WoP 32 2 Cl.cs w v (cpt sCl l)) := by
  by_cases h2 : 2 ≤ l.length
  · rcases hv.two with ⟨rfl, rfl⟩ | ⟨g, cap, cur, rfl, _, h1, h3, h4, h5, h6, h7⟩
    · simp at h2
    · exact comp_morec w g l.length cap l cur rfl h2 h1 h3 h4 h5 h6 h7 hl
  · have e : cpt sCl l = l := by
      match l, h2 with
      | [], _ => rfl
      | [x], _ => rfl
      | _ :: _ :: _, h => simp at h
    rw [e]
    have HF : Hid (∀ W, Below w.heap.size w W → WoP 32 2 Cl.cs w v l (.returned v) W) := (show _ from fun W hb => ⟨v, rfl, RowG.keep hv hb, fun g' e => .inl e, Mut.of_below hb⟩)
    have hn2 : (l.length : Int) < 2 := by omega
    have hs : ∃ q n cap, v = .slice q n cap ∧ n = l.length := by
      rcases hv.two with ⟨rfl, rfl⟩ | ⟨g, cap, cur, rfl, _⟩
      · exact ⟨_, _, _, rfl, rfl⟩
      · exact ⟨_, _, _, rfl, rfl⟩
    obtain ⟨q, n, cap, rfl, rfl⟩ := hs
    clear hv e h2
    go_enter Tryz.func80, Tryz.ntmps80
    go_wp2
    go_ret
    exact HF.out _ zqb
end Go.Proofs.YtcjanaldjokllaaGreat
namespace Go.Proofs.YtcjanaldjokllaaGreat
open Go.RowKit
set_option linter.all false
theorem run_clearf (w : World) (g o n cap : Nat) (cur : Array Value) (hg : w.heap[g]? = some (.cells cur 53 (0, 0))) (hf : o + n * 5 ≤ cur.size) (ty : TypeId) :
    ∃ C : Array Value, (Builtin.clear_ #[33] ty #[.slice (some ⟨g, o, none⟩) n cap]).run Tryz.prog w = .ok (.tuple #[]) (w.setRow g C) ∧ C.size = cur.size ∧ C.toList.take o = cur.toList.take o := by
  by_cases h0 : n = 0
  · subst h0
    refine ⟨cur, ?_, rfl, rfl⟩
    rw [setRow_self w g cur _ (0, 0) hg]
    simp [Builtin.clear_, run_underlying Tryz.underlying33]
  · obtain ⟨i0, hi0, hz0, hzs, hzb⟩ := info_parts infoRf
    obtain ⟨Z, hZ⟩ : ∃ Z : List Value, Z = (Builtin.zeroCells (Value.agg #[.bool false, .int .i64 0, .int .i64 0, .int .i64 0, .int .i64 0]).cells n).toList := ⟨_, rfl⟩
    have hZl : Z.length = n * 5 := by rw [hZ, Array.length_toList, zero_size]; rfl
    have hZ1 : ∀ v ∈ Z, v.oneCell' = true := by
      intro v hv
      rw [hZ] at hv
      simp only [Builtin.zeroCells, Array.toList_map, List.mem_map] at hv
      obtain ⟨j, _, rfl⟩ := hv
      have hj : j % 5 < 5 := Nat.mod_lt _ (by omega)
      have : ∀ k, k < 5 → ((Value.agg #[.bool false, .int .i64 0, .int .i64 0, .int .i64 0, .int .i64 0]).cells[k]!).oneCell' = true := by decide
      exact this _ hj
    have hst := run_storeCells_at Tryz.prog g o 53 Z 0 cur w hg (by simpa [hZl] using hf) hZ1
    simp only [Nat.add_zero] at hst
    refine ⟨(cur.toList.take o ++ Z ++ cur.toList.drop (o + Z.length)).toArray, ?_, ?_, ?_⟩
    · obtain ⟨k, rfl⟩ : ∃ k, n = k + 1 := ⟨n - 1, by omega⟩
      simp [Builtin.clear_, run_underlying Tryz.underlying33, zeroValue, typeInfo, hi0, hz0, ← hZ, hst]
    · simp only [List.size_toArray, List.length_append, List.length_take, List.length_drop, Array.length_toList, hZl]; omega
    · rw [List.toList_toArray, List.append_assoc]; exact List.take_left' (by rw [List.length_take, Array.length_toList]; omega)
end Go.Proofs.YtcjanaldjokllaaGreat
