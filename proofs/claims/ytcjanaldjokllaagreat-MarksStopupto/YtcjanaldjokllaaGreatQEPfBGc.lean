/- The contract of slices.Compact at a row of one's own. · The contracts of slices.Grow of nothing, of slices.Concat of one row, and of without. The condition: no more than 4000000000000 of them. -/
import Derived.Test.YtcjanaldjokllaaGreatQECEQ
import Derived.Test.YtcjanaldjokllaaGreatQEPcBIfBDf
import Derived.Test.YtcjanaldjokllaaGreatQESBIcBDc
namespace Go.Proofs.YtcjanaldjokllaaGreat
open Go.RowKit
set_option linter.all false
/-- So many are written at the front; behind them all is as it was. -/
def Cpf (w w' : World) (g : Nat) (cur : Array Value) (R : List Rf) : Prop := Mut (fun b => b = g) w w' ∧ ∃ cur' : Array Value, w'.heap[g]? = some (.cells cur' 53 (0, 0)) ∧ cur'.size = cur.size ∧ (∀ i x j u, R[i]? = some x → (x : Rf).cs[j]? = some u → cur'[i * 5 + j]? = some u) ∧ (∀ o, R.length * 5 ≤ o → cur'[o]? = cur[o]?)
theorem Cpf.drewN {w w' : World} {g : Nat} {cur : Array Value} {R : List Rf} (h : Cpf w w' g cur R) (n : Nat) : Cpf w (w'.drewN n) g cur R := ⟨h.1.drewN n, h.2⟩
theorem Cpf.put {w W : World} {g : Nat} {cur : Array Value} {R : List Rf} (h : Cpf w W g cur R) (y : Rf) (hr : (R.length + 1) * 5 ≤ cur.size) : Cpf w (putW W g (R.length * 5) y.cs) g cur (R ++ [y]) := by
  obtain ⟨hM, c', h1, h2, h3, h4⟩ := h
  have hl := Rf.len y
  refine ⟨putW_mut (S := fun b => b = g) rfl _ _ _ hM, putA c' (R.length * 5) y.cs, putW_heap _ _ _ _ h1, by rw [putA_size, h2], fun i x j u q1 q2 => ?_, fun o ho => ?_⟩
  · have hj : j < 5 := by have := (List.getElem?_eq_some_iff.1 q2).1; rwa [Rf.len] at this
    by_cases hi : i < R.length
    · rw [List.getElem?_append_left hi] at q1
      rw [putA_out _ _ _ _ (.inl (by have := Nat.mul_le_mul_right 5 (show i + 1 ≤ R.length from hi); omega))]
      exact h3 i x j u q1 q2
    · have hi2 : i = R.length := by
        have := (List.getElem?_eq_some_iff.1 q1).1
        simp at this; omega
      subst hi2
      simp at q1
      subst q1
      exact putA_in _ _ _ _ _ (by rw [h2, hl]; omega) q2
  · rw [List.length_append, List.length_singleton] at ho
    rw [putA_out _ _ _ _ (.inr (by rw [hl]; omega))]
    exact h4 o (by omega)
set_option maxRecDepth 100000 in
set_option maxHeartbeats 8000000 in
theorem comp_moref (w : World) (g n cap : Nat) (l : List Rf) (cur : Array Value) (hn : n = l.length) (h2 : 2 ≤ n) (hgl : g < w.heap.size) (hg : w.heap[g]? = some (.cells cur 53 (0, 0))) (hnc : n ≤ cap) (hcp : cap ≤ maxLen) (hsz : cur.size = cap * 5) (ht : cur.toList.take (l.length * 5) = flatG Rf.cs l) (hl : n ≤ 3518437208883) :
    Calls Tryz.prog 45 #[.slice (some ⟨g, 0, none⟩) n cap] w (WoP 53 5 Rf.cs w (.slice (some ⟨g, 0, none⟩) n cap) (cpt sRf l)) := by
  have mixed : Tryz.prog.follows .mixedOrders = true := by kernel_rfl
  have hcc := row_cellsG Rf.len hg ht
  have HC : Hid (∀ i x j u, l[i]? = some x → x.cs[j]? = some u → w.cell? ⟨g, i * 5 + j, none⟩ = some u) := hcc
  have HN : Hid (n = l.length) := hn
  have Hl : Hid (n ≤ 3518437208883) := hl
  unfold maxLen at hcp
  have h2' : ¬ (n : Int) < 2 := by omega
  have HT : Hid (cur.toList.take (l.length * 5) = flatG Rf.cs l) := ht
  clear hcc hn hl ht
  go_enter Tryz.func45, Tryz.ntmps45
  go_wp2
  go_loopw [3] (fun u3 w' => ∃ m : Nat, u3 = .int .i64 ((m + 1 : Nat) : Int) ∧ m + 1 ≤ n ∧ Hid (∀ (j : Nat) (x y : Rf), j + 1 ≤ m → l[j]? = some x → l[j + 1]? = some y → sRf y x = false) ∧ Below w.heap.size w w') (fun u3 _ => n - (intOf u3).toNat)
  case atStart => exact ⟨0, rfl, by omega, (show Hid _ from fun j x y hj => by omega), by with_reducible (repeat' first | assumption | exact Below.refl _ _ | refine Below.drew ?_ | refine bdrewN ?_ _ | refine Below.setCell ?_ (by first | exact Nat.le_refl _ | (simp; done) | (simp; omega) | omega) _ | refine Below.alloc ?_ (by first | exact Nat.le_refl _ | (simp; done) | (simp; omega) | omega) _)⟩
  case round =>
    obtain ⟨m, rfl, hm, HP, hB⟩ := hrel
    obtain ⟨k, hk⟩ : ∃ k, k = m + 1 := ⟨_, rfl⟩
    have Hk : Hid (k = m + 1) := hk
    rw [← hk] at hm ⊢
    have hw1 : IntKind.i64.wrap ((k : Int) - 1) = (m : Int) := by rw [IntKind.wrap_i64]; omega
    have hmk : m < n := by omega
    have hmk' : (m : Int) < n := by omega
    have zB := hB.size
    have hgr : g < wr.heap.size := by omega
    clear hk
    by_cases hlt : k < n
    · have hlt' : (k : Int) < n := by omega
      obtain ⟨x, hx⟩ : ∃ x, l[m]? = some x := ⟨_, List.getElem?_eq_getElem (by rw [← HN.out]; omega)⟩
      obtain ⟨y, hy⟩ : ∃ y, l[k]? = some y := ⟨_, List.getElem?_eq_getElem (by rw [← HN.out]; omega)⟩
      have x0 : wr.cell? ⟨g, m * 5, none⟩ = some (.bool x.m) := (hB.cell (p := ⟨g, m * 5, none⟩) hgl).trans (HC.out m x 0 _ hx rfl)
      have x1 : wr.cell? ⟨g, m * 5 + 1, none⟩ = some (.int .i64 x.t) := (hB.cell (p := ⟨g, m * 5 + 1, none⟩) hgl).trans (HC.out m x 1 _ hx rfl)
      have x2 : wr.cell? ⟨g, m * 5 + 2, none⟩ = some (.int .i64 x.l) := (hB.cell (p := ⟨g, m * 5 + 2, none⟩) hgl).trans (HC.out m x 2 _ hx rfl)
      have x3 : wr.cell? ⟨g, m * 5 + 3, none⟩ = some (.int .i64 x.b) := (hB.cell (p := ⟨g, m * 5 + 3, none⟩) hgl).trans (HC.out m x 3 _ hx rfl)
      have x4 : wr.cell? ⟨g, m * 5 + 4, none⟩ = some (.int .i64 x.q) := (hB.cell (p := ⟨g, m * 5 + 4, none⟩) hgl).trans (HC.out m x 4 _ hx rfl)
      have y0 : wr.cell? ⟨g, k * 5, none⟩ = some (.bool y.m) := (hB.cell (p := ⟨g, k * 5, none⟩) hgl).trans (HC.out k y 0 _ hy rfl)
      have y1 : wr.cell? ⟨g, k * 5 + 1, none⟩ = some (.int .i64 y.t) := (hB.cell (p := ⟨g, k * 5 + 1, none⟩) hgl).trans (HC.out k y 1 _ hy rfl)
      have y2 : wr.cell? ⟨g, k * 5 + 2, none⟩ = some (.int .i64 y.l) := (hB.cell (p := ⟨g, k * 5 + 2, none⟩) hgl).trans (HC.out k y 2 _ hy rfl)
      have y3 : wr.cell? ⟨g, k * 5 + 3, none⟩ = some (.int .i64 y.b) := (hB.cell (p := ⟨g, k * 5 + 3, none⟩) hgl).trans (HC.out k y 3 _ hy rfl)
      have y4 : wr.cell? ⟨g, k * 5 + 4, none⟩ = some (.int .i64 y.q) := (hB.cell (p := ⟨g, k * 5 + 4, none⟩) hgl).trans (HC.out k y 4 _ hy rfl)
      have heq := eqRf y x
      cases hs : sRf y x
      · rw [hs] at heq
        have HP2 : Hid (∀ (j : Nat) (x y : Rf), j + 1 ≤ m + 1 → l[j]? = some x → l[j + 1]? = some y → sRf y x = false) := (show _ from fun j x' y' hj h1 h2 => by
          by_cases e : j = m
          · subst e; rw [hx] at h1; injection h1 with h1; subst h1; rw [← Hk.out, hy] at h2; injection h2 with h2; subst h2; exact hs
          · exact HP.out j x' y' (by omega) h1 h2)
        clear hs hx hy
        go_wp2
        go_quiet (fail)
        go_wp2
        refine ⟨⟨m + 1, by rw [← Hk.out]; go_num, by rw [← Hk.out]; omega, HP2, bdrewN hB _⟩, by simp [intOf] <;> omega⟩
      · rw [hs] at heq
        have hxy : y = x := (sRf_is).1 hs
        have hci : ¬ cap = k := by omega
        have hk2 : (k : Int) ≤ n := by omega
        have hk3 : (k : Int) ≤ cap := by omega
        have HR0 : Hid (cpt sRf (l.take (k + 1)) = l.take k) := (show _ = _ by
          have h1 := cpt_step (s := sRf) (fun _ _ => sRf_is) hx (by rw [← Hk.out]; exact hy)
          rw [hs] at h1
          rw [Hk.out, h1, if_pos rfl]
          exact cpt_plain (fun _ _ => sRf_is) (by rw [← HN.out]; exact hmk) HP.out)
        clear hs hx hy hxy HP
        go_wp2
        go_quiet (fail)
        obtain ⟨W0, e0⟩ : ∃ W0 : World, W0 = wr.drewN nq := ⟨_, rfl⟩
        have hB0 : Below w.heap.size w W0 := (by rw [e0]; exact bdrewN hB _)
        rw [← e0]
        clear e0 x0 y0 x1 y1 x2 y2 x3 y3 x4 y4
        have hS1 : ∀ i (z : Rf) j u, (l.take k)[i]? = some z → z.cs[j]? = some u → cur[i * 5 + j]? = some u := fun i z j u h1 h2 => by
          rw [List.getElem?_take] at h1
          split at h1
          · have := HC.out i z j u h1 h2
            rwa [cell_row hg] at this
          · cases h1
        have HS : Hid (Cpf w W0 g cur (l.take k)) := (show Cpf _ _ _ _ _ from ⟨Mut.of_below hB0, cur, (hB0.block g hgl).trans hg, rfl, hS1, fun o _ => rfl⟩)
        clear hS1
        go_wp2
        go_loopw [3, 5] (fun u3 u5 w' => ∃ (k2 r : Nat) (R : List Rf), u5 = .int .i64 ((k2 + 1 : Nat) : Int) ∧ u3 = .int .i64 (r : Int) ∧ r = R.length ∧ k + (k2 + 1) ≤ n ∧ r + 1 ≤ k + (k2 + 1) ∧ Hid (R = cpt sRf (l.take (k + (k2 + 1)))) ∧ Hid (Cpf w w' g cur R)) (fun _ u5 _ => n - (intOf u5).toNat)
        case atStart => exact ⟨0, k, l.take k, rfl, rfl, by rw [List.length_take, ← HN.out]; omega, by omega, by omega, HR0.out.symm, HS⟩
        case round =>
          clear HS hB hB0 zB hgr HR0 hw1
          rename_i wr0
          obtain ⟨k2, r, R, rfl, rfl, hr, hkn, hrk, HR, HS⟩ := hrel
          obtain ⟨kq, hkq⟩ : ∃ kq, kq = k2 + 1 := ⟨_, rfl⟩
          have Hq : Hid (kq = k2 + 1) := hkq
          rw [← hkq] at hkn hrk HR ⊢
          have hw1 : IntKind.i64.wrap ((kq : Int) - 1) = (k2 : Int) := by rw [IntKind.wrap_i64]; have := Hl.out; omega
          obtain ⟨hM, cur', hg', hs', hS1, hS2⟩ := HS.out
          have hrd : ∀ i (z : Rf) j u, r ≤ i → l[i]? = some z → z.cs[j]? = some u → wr.cell? ⟨g, i * 5 + j, none⟩ = some u := fun i z j u h1 h2 h3 => by
            rw [cell_row hg', hS2 _ (by rw [← hr]; omega), ← cell_row hg]
            exact HC.out i z j u h2 h3
          have hM1 : Hid (Mut (fun b => b = g) w wr) := hM
          have Hr : Hid (r = R.length) := hr
          have HS1 : Hid (∀ i x j u, R[i]? = some x → (x : Rf).cs[j]? = some u → cur'[i * 5 + j]? = some u) := hS1
          have HS2 : Hid (∀ o, R.length * 5 ≤ o → cur'[o]? = cur[o]?) := hS2
          have hk2n : (k2 : Int) < ((n - k : Nat) : Int) := by omega
          have hgr : g < wr.heap.size := (Array.getElem?_eq_some_iff.1 hg').1
          clear hkq hS1 hS2 hr hM
          by_cases hlq : k + kq < n
          · have hlq' : (kq : Int) < ((n - k : Nat) : Int) := by omega
            have hrn : (r : Int) < (n : Int) := by omega
            obtain ⟨x, hx⟩ : ∃ x, l[k + k2]? = some x := ⟨_, List.getElem?_eq_getElem (by rw [← HN.out]; omega)⟩
            obtain ⟨y, hy⟩ : ∃ y, l[k + kq]? = some y := ⟨_, List.getElem?_eq_getElem (by rw [← HN.out]; omega)⟩
            obtain ⟨z, hz⟩ : ∃ z, l[r]? = some z := ⟨_, List.getElem?_eq_getElem (by rw [← HN.out]; omega)⟩
            have x0 : wr.cell? ⟨g, k * 5 + k2 * 5, none⟩ = some (.bool x.m) := (by have h := hrd (k + k2) x 0 _ (by have := Hq.out; omega) hx rfl; rwa [show (k + k2) * 5 + 0 = k * 5 + k2 * 5 by omega] at h)
            have x1 : wr.cell? ⟨g, k * 5 + k2 * 5 + 1, none⟩ = some (.int .i64 x.t) := (by have h := hrd (k + k2) x 1 _ (by have := Hq.out; omega) hx rfl; rwa [show (k + k2) * 5 + 1 = k * 5 + k2 * 5 + 1 by omega] at h)
            have x2 : wr.cell? ⟨g, k * 5 + k2 * 5 + 2, none⟩ = some (.int .i64 x.l) := (by have h := hrd (k + k2) x 2 _ (by have := Hq.out; omega) hx rfl; rwa [show (k + k2) * 5 + 2 = k * 5 + k2 * 5 + 2 by omega] at h)
            have x3 : wr.cell? ⟨g, k * 5 + k2 * 5 + 3, none⟩ = some (.int .i64 x.b) := (by have h := hrd (k + k2) x 3 _ (by have := Hq.out; omega) hx rfl; rwa [show (k + k2) * 5 + 3 = k * 5 + k2 * 5 + 3 by omega] at h)
            have x4 : wr.cell? ⟨g, k * 5 + k2 * 5 + 4, none⟩ = some (.int .i64 x.q) := (by have h := hrd (k + k2) x 4 _ (by have := Hq.out; omega) hx rfl; rwa [show (k + k2) * 5 + 4 = k * 5 + k2 * 5 + 4 by omega] at h)
            have y0 : wr.cell? ⟨g, k * 5 + kq * 5, none⟩ = some (.bool y.m) := (by have h := hrd (k + kq) y 0 _ (by have := Hq.out; omega) hy rfl; rwa [show (k + kq) * 5 + 0 = k * 5 + kq * 5 by omega] at h)
            have y1 : wr.cell? ⟨g, k * 5 + kq * 5 + 1, none⟩ = some (.int .i64 y.t) := (by have h := hrd (k + kq) y 1 _ (by have := Hq.out; omega) hy rfl; rwa [show (k + kq) * 5 + 1 = k * 5 + kq * 5 + 1 by omega] at h)
            have y2 : wr.cell? ⟨g, k * 5 + kq * 5 + 2, none⟩ = some (.int .i64 y.l) := (by have h := hrd (k + kq) y 2 _ (by have := Hq.out; omega) hy rfl; rwa [show (k + kq) * 5 + 2 = k * 5 + kq * 5 + 2 by omega] at h)
            have y3 : wr.cell? ⟨g, k * 5 + kq * 5 + 3, none⟩ = some (.int .i64 y.b) := (by have h := hrd (k + kq) y 3 _ (by have := Hq.out; omega) hy rfl; rwa [show (k + kq) * 5 + 3 = k * 5 + kq * 5 + 3 by omega] at h)
            have y4 : wr.cell? ⟨g, k * 5 + kq * 5 + 4, none⟩ = some (.int .i64 y.q) := (by have h := hrd (k + kq) y 4 _ (by have := Hq.out; omega) hy rfl; rwa [show (k + kq) * 5 + 4 = k * 5 + kq * 5 + 4 by omega] at h)
            have z0 : wr.cell? ⟨g, r * 5, none⟩ = some (.bool z.m) := hrd r z 0 _ (Nat.le_refl _) hz rfl
            have f0 : wr.frozen? ⟨g, r * 5, none⟩ = false := fro_row hg'
            have z1 : wr.cell? ⟨g, r * 5 + 1, none⟩ = some (.int .i64 z.t) := hrd r z 1 _ (Nat.le_refl _) hz rfl
            have f1 : wr.frozen? ⟨g, r * 5 + 1, none⟩ = false := fro_row hg'
            have z2 : wr.cell? ⟨g, r * 5 + 2, none⟩ = some (.int .i64 z.l) := hrd r z 2 _ (Nat.le_refl _) hz rfl
            have f2 : wr.frozen? ⟨g, r * 5 + 2, none⟩ = false := fro_row hg'
            have z3 : wr.cell? ⟨g, r * 5 + 3, none⟩ = some (.int .i64 z.b) := hrd r z 3 _ (Nat.le_refl _) hz rfl
            have f3 : wr.frozen? ⟨g, r * 5 + 3, none⟩ = false := fro_row hg'
            have z4 : wr.cell? ⟨g, r * 5 + 4, none⟩ = some (.int .i64 z.q) := hrd r z 4 _ (Nat.le_refl _) hz rfl
            have f4 : wr.frozen? ⟨g, r * 5 + 4, none⟩ = false := fro_row hg'
            have heq := neRf y x
            cases hs : sRf y x
            · rw [hs] at heq
              have HR2 : Hid (R ++ [y] = cpt sRf (l.take (k + (kq + 1)))) := (show _ = _ by
                have h1 := cpt_step (s := sRf) (fun _ _ => sRf_is) hx (by rw [Nat.add_assoc, ← Hq.out]; exact hy)
                rw [hs, Nat.add_assoc, Nat.add_assoc, show k2 + 2 = kq + 1 by rw [Hq.out], ← Hq.out, ← HR.out] at h1
                rw [h1]
                rfl)
              have hlen : Hid ((R.length + 1) * 5 ≤ cur.size) := (show _ ≤ _ by rw [hsz, ← Hr.out]; have := Nat.mul_le_mul_right 5 (show r + 1 ≤ cap by omega); omega)
              clear hs hx hy hz
              go_wp2
              go_quiet (fail)
              go_wp2
              have HS3 : Hid (Cpf w (putW (wr.drewN nq) g (r * 5) y.cs) g cur (R ++ [y])) := (show Cpf _ _ _ _ _ from by rw [Hr.out]; exact (HS.out.drewN nq).put y hlen.out)
              exact ⟨⟨kq, r + 1, R ++ [y], by go_num, by go_num, by rw [List.length_append, List.length_singleton, ← Hr.out], by omega, by omega, HR2, HS3⟩, by simp [intOf] <;> omega⟩
            · rw [hs] at heq
              have HR2 : Hid (R = cpt sRf (l.take (k + (kq + 1)))) := (show _ = _ by
                have h1 := cpt_step (s := sRf) (fun _ _ => sRf_is) hx (by rw [Nat.add_assoc, ← Hq.out]; exact hy)
                rw [hs, Nat.add_assoc, Nat.add_assoc, show k2 + 2 = kq + 1 by rw [Hq.out], ← Hq.out, ← HR.out] at h1
                rw [h1]
                rfl)
              clear hs hx hy hz
              go_wp2
              go_quiet (fail)
              go_wp2
              exact ⟨⟨kq, r, R, by go_num, rfl, Hr.out, by omega, by omega, HR2, (show Cpf _ _ _ _ _ from HS.out.drewN _)⟩, by simp [intOf] <;> omega⟩
          · have hlq' : ¬ (kq : Int) < ((n - k : Nat) : Int) := by omega
            have hRl : Hid (R = cpt sRf l) := (show _ = _ by rw [HR.out, List.take_of_length_le (by rw [← HN.out]; omega)])
            have hcl := fun ty c => run_clearf wr g (r * 5) (n - r) c cur' hg' (by rw [hs', hsz]; have := Nat.mul_le_mul_right 5 (show r + (n - r) ≤ cap by omega); rw [Nat.add_mul] at this; exact this) ty
            have HCL : Hid (∀ ty c, ∃ W2, (Builtin.clear_ #[33] ty #[.slice (some ⟨g, r * 5, none⟩) (n - r) c]).run Tryz.prog wr = .ok (.tuple #[]) W2 ∧ WoP 53 5 Rf.cs w (.slice (some ⟨g, 0, none⟩) n cap) (cpt sRf l) (.returned (.slice (some ⟨g, 0, none⟩) r cap)) W2) := (show _ from fun ty c => by
              obtain ⟨C2, k1, k2, k3⟩ := hcl ty c
              refine ⟨_, k1, _, rfl, RowG.mk Rf.len (by rw [← hRl.out]; exact Hr.out) (Nat.zero_le _) (setRow_heap wr g _ _ _ _ hg') (by rw [← hRl.out, ← Hr.out]; omega) (by unfold maxLen; omega) (by rw [k2, hs', hsz]) ?_, fun g' e => .inl e, ?_⟩
              · rw [← hRl.out, ← Hr.out, k3, Hr.out]
                exact flat_of Rf.len HS1.out
              · exact Mut.setRow (S := fun k => (Value.slice (some ⟨g, 0, none⟩) n cap).ownBlock = some k) ((Mut.refl _ w).call hM1.out (fun b e => .inl (by subst e; rfl))) (.inl rfl) _)
            clear hcl
            obtain ⟨W2, hr2, hP⟩ := HCL.out 0 (cap - r)
            have HP : Hid (WoP 53 5 Rf.cs w (.slice (some ⟨g, 0, none⟩) n cap) (cpt sRf l) (.returned (.slice (some ⟨g, 0, none⟩) r cap)) W2) := hP
            clear hP HCL
            have e1 : (r : Int) ≤ n := by omega
            have e2 : (r : Int) ≤ cap := by omega
            have e3 : ¬ cap = r := by omega
            go_wp2
            all_goals first | exact HP.out | (go_ret; exact HP.out)
    · have hlt' : ¬ (k : Int) < n := by omega
      have hRl : Hid (cpt sRf l = l) := (show _ = _ by
        have h := cpt_plain (s := sRf) (fun _ _ => sRf_is) (k := m) (by rw [← HN.out]; omega) HP.out
        rwa [List.take_of_length_le (by rw [← HN.out]; have := Hk.out; omega)] at h)
      have HF : Hid (∀ W, Below w.heap.size w W → WoP 53 5 Rf.cs w (.slice (some ⟨g, 0, none⟩) n cap) (cpt sRf l) (.returned (.slice (some ⟨g, 0, none⟩) n cap)) W) := (show _ from fun W hb => by
        rw [hRl.out]
        exact ⟨_, rfl, RowG.mk Rf.len HN.out (Nat.zero_le _) ((hb.block g hgl).trans hg) (by rw [← HN.out]; exact hnc) (by unfold maxLen; exact hcp) hsz HT.out, fun g' e => .inl e, Mut.of_below hb⟩)
      go_wp2
      go_ret
      exact HF.out _ zqb
theorem comp_anyf (w : World) (v : Value) (l : List Rf) (hv : RowF w v l) (hl : l.length ≤ 3518437208883) : Calls Tryz.prog 45 #[v] w (WoP 53 5 Rf.cs w v (cpt sRf l)) := by
  by_cases h2 : 2 ≤ l.length
  · rcases hv.two with ⟨rfl, rfl⟩ | ⟨g, cap, cur, rfl, _, h1, h3, h4, h5, h6, h7⟩
    · simp at h2
    · exact comp_moref w g l.length cap l cur rfl h2 h1 h3 h4 h5 h6 h7 hl
  · have e : cpt sRf l = l := by
      match l, h2 with
      | [], _ => rfl
      | [x], _ => rfl
      | _ :: _ :: _, h => simp at h
    rw [e]
    have HF : Hid (∀ W, Below w.heap.size w W → WoP 53 5 Rf.cs w v l (.returned v) W) := (show _ from fun W hb => ⟨v, rfl, RowG.keep hv hb, fun g' e => .inl e, Mut.of_below hb⟩)
    have hn2 : (l.length : Int) < 2 := by omega
    have hs : ∃ q n cap, v = .slice q n cap ∧ n = l.length := by
      rcases hv.two with ⟨rfl, rfl⟩ | ⟨g, cap, cur, rfl, _⟩
      · exact ⟨_, _, _, rfl, rfl⟩
      · exact ⟨_, _, _, rfl, rfl⟩
    obtain ⟨q, n, cap, rfl, rfl⟩ := hs
    clear hv e h2
    go_enter Tryz.func45, Tryz.ntmps45
    go_wp2
    go_ret
    exact HF.out _ zqb
end Go.Proofs.YtcjanaldjokllaaGreat
namespace Go.Proofs.YtcjanaldjokllaaGreat
open Go.RowKit
set_option linter.all false
set_option maxRecDepth 100000 in
set_option maxHeartbeats 2000000 in
theorem grow_zeroc (w : World) : Calls Tryz.prog 96 #[.slice none 0 0, .int .i64 0] w fun e w' => e = .returned (.slice none 0 0) ∧ w' = w := by
  go_enter Tryz.func96, Tryz.ntmps96
  go_wp2
  go_ret
  exact ⟨rfl, rfl⟩
set_option maxRecDepth 100000 in
set_option maxHeartbeats 2000000 in
theorem grow_morec (w : World) (k : Nat) (hk : 0 < k) (hl : k ≤ 4000000000000) : Calls Tryz.prog 96 #[.slice none 0 0, .int .i64 k] w fun e w' => (∃ g cp, e = .returned (.slice (some ⟨g, 0, none⟩) 0 cp) ∧ RowK w' (.slice (some ⟨g, 0, none⟩) 0 cp) [] ∧ w.heap.size ≤ g) ∧ Below w.heap.size w w' := by
  have mixed : Tryz.prog.follows .mixedOrders = true := by kernel_rfl
  obtain ⟨i0, hi0, hz0, hzs, hzb⟩ := info_parts infoCl
  have hold : (Builtin.firstCells i0.size 0 (.slice none 0 0)).run Tryz.prog w.drew = .ok ([] : List Value).toArray w.drew := run_firstCells_none w.drew _ 0 0 0
  obtain ⟨G, hG⟩ : ∃ G, G = grownCap w k 0 32 := ⟨_, rfl⟩
  obtain ⟨ROW, hROW⟩ : ∃ ROW : Array Value, ROW = ([] : List Value).toArray ++ Builtin.zeroCells (Value.agg #[.int .i64 0, .int .i64 0]).cells k ++ Builtin.zeroCells (Value.agg #[.int .i64 0, .int .i64 0]).cells (G - k) := ⟨_, rfl⟩
  obtain ⟨WA, hWA⟩ : ∃ WA, WA = w.drew.alloc (.cells ROW 32) := ⟨_, rfl⟩
  obtain ⟨NB, hNB⟩ : ∃ NB, NB = w.heap.size := ⟨_, rfl⟩
  have hrz : ∀ ty, (Builtin.append_ #[41, 3] ty #[.slice none 0 0, .int .i64 k]).run Tryz.prog w = .ok (.slice (some ⟨NB, 0, none⟩) k G) WA := fun ty => by
    have h := Lib.run_append_grow_zeros w 41 3 ty 32 i0 _ .i64 .i64 Tryz.underlying41 Tryz.underlying3 hi0 hz0 none 0 0 [] hold k (by omega) (by omega) (by omega) (by omega) (by rw [hzb]; omega) (by rw [hzb]; exact growslice_fits (by omega) (by omega))
    simp only [Nat.zero_add] at h
    rw [← hG, ← hROW, ← hWA, ← hNB] at h
    exact h
  have hGn : k ≤ G := by rw [hG]; exact grownCap_ge w _ _ _
  have hGm : G ≤ maxLen := by rw [hG]; exact grownCap_le_maxLen w k 0 _ (by unfold maxLen; omega)
  have hRs : ROW.size = G * 2 := by
    rw [hROW]
    simp only [Array.size_append, List.size_toArray, zero_size]
    simp only [Value.cells]
    simp
    omega
  have HP : Hid (RowK WA (.slice (some ⟨NB, 0, none⟩) 0 G) [] ∧ w.heap.size ≤ NB ∧ Below w.heap.size w WA) := by
    refine ⟨RowG.mk Cl.len rfl (Nat.zero_le _) (by rw [hWA, hNB]; exact heap_alloc_new w.drew _) (Nat.zero_le _) hGm hRs (by simp [flatG]), by omega, ?_⟩
    rw [hWA]
    exact (Below.refl _ _).drew.alloc (Nat.le_refl _) _
  unfold maxLen at hGm
  clear hWA hNB hG hROW hRs hold hi0 hz0 hzs hzb i0
  go_enter Tryz.func96, Tryz.ntmps96
  go_wp2_with (at_builtin; refine wpList_app3 rfl _ _ _ _ rfl _ _ rfl rfl _ _ (hrz _) ?_)
  all_goals go_ret
  all_goals exact ⟨⟨_, _, rfl, HP.out.1, HP.out.2.1⟩, HP.out.2.2⟩
/-- A piece of a row. -/
def VWc (w : World) (v : Value) (l : List Cl) : Prop := ∃ a cp, v = .slice (some a) l.length cp ∧ (∀ j u, (flatG Cl.cs l)[j]? = some u → w.cell? (a.add j) = some u)
theorem VWc.keep {w w' : World} {v : Value} {l : List Cl} (h : VWc w v l) (hb : Below w.heap.size w w') : VWc w' v l := by
  obtain ⟨a, cp, rfl, h1⟩ := h
  refine ⟨a, cp, rfl, fun j u hj => ?_⟩
  have h2 := h1 j u hj
  rw [hb.cell (World.block_lt_of_cell? w _ h2)]
  exact h2
theorem app_rowc (W : World) (v x : Value) (m k : List Cl) (h : RowK W v m) (hx : VWc W x k) (hl : m.length + k.length ≤ 4000000000000) (ty : TypeId) :
    ∃ v' w', (Builtin.append_ #[41, 41] ty #[v, x]).run Tryz.prog W = .ok v' w' ∧ RowK w' v' (m ++ k) ∧ (v'.ownBlock = v.ownBlock ∨ v'.ownBlock = some W.heap.size) ∧ Mut (fun g => v.ownBlock = some g) W w' := by
  obtain ⟨i, hi, hz, hsz, hby⟩ := info_parts infoCl
  obtain ⟨a, cp, rfl, hc⟩ := hx
  obtain ⟨v', w', h1, h2, h3, h4, h5⟩ := run_append_own_at (P := Tryz.prog) W 0 41 ty 32 i _ 2 16 Tryz.underlying41 hi hz hsz hby rfl (by omega) v m.length (flatG Cl.cs m) h a k.length cp (flatG Cl.cs k) (flatG_len Cl.len k) hc (flatG_one Cl.one k) (by unfold maxLen; omega) (by omega) (Nat.zero_le _)
  refine ⟨v', w', h1, ?_, h5, ⟨h3.os, h3.tape, h3.output, h3.size, fun b hb hs => h3.block b hb (fun e => hs e.symm)⟩⟩
  unfold RowK RowG
  rw [flatG_app, List.length_append]
  exact h2
/-- What Grow gives, of either size. -/
theorem grow_anyc (w : World) (k : Nat) (hl : k ≤ 4000000000000) : Calls Tryz.prog 96 #[.slice none 0 0, .int .i64 k] w fun e w' => ∃ v, e = .returned v ∧ RowK w' v [] ∧ (∀ g, v.ownBlock = some g → w.heap.size ≤ g) ∧ Below w.heap.size w w' := by
  by_cases h : k = 0
  · subst h
    refine (grow_zeroc w).mono ?_
    rintro e w' ⟨rfl, rfl⟩
    exact ⟨_, rfl, RowG.nil _, (fun g hg => by cases hg), Below.refl _ _⟩
  · refine (grow_morec w k (by omega) hl).mono ?_
    rintro e w' ⟨⟨g, cp, rfl, h1, h2⟩, h3⟩
    exact ⟨_, rfl, h1, (fun g' hg => by injection hg with hg; subst hg; exact h2), h3⟩
set_option maxRecDepth 100000 in
set_option maxHeartbeats 4000000 in
theorem concat_onec (w : World) (sb : Nat) (x1 : Value) (l1 : List Cl) (hs : Hid (Own w sb #[x1])) (h1 : Hid (VWc w x1 l1)) (hl : l1.length ≤ 4000000000000) :
    Calls Tryz.prog 66 #[.slice (some ⟨sb, 0, none⟩) 1 1] w fun e w' => ∃ v, e = .returned v ∧ RowK w' v l1 ∧ (∀ g, v.ownBlock = some g → w.heap.size ≤ g) ∧ Below w.heap.size w w' := by
  have mixed : Tryz.prog.follows .mixedOrders = true := by kernel_rfl
  obtain ⟨a1, c1, e1, _⟩ := h1.out
  subst e1
  obtain ⟨n1, hn1⟩ : ∃ n, n = l1.length := ⟨_, rfl⟩
  rw [← hn1] at hs h1 hl
  have cs0 : w.cell? ⟨sb, 0, none⟩ = some (.slice (some a1) n1 c1) := hs.out.cell 0
  have ls := hs.out.lt
  have HL1 : Hid (n1 = l1.length) := hn1
  have HG : Hid (∀ W k, k ≤ 4000000000000 → Calls Tryz.prog 96 #[.slice none 0 0, .int .i64 (k : Nat)] W fun e w' => ∃ v, e = .returned v ∧ RowK w' v [] ∧ (∀ g, v.ownBlock = some g → W.heap.size ≤ g) ∧ Below W.heap.size W w') := fun W k h => grow_anyc W k h
  clear hn1 hs
  go_enter Tryz.func66, Tryz.ntmps66
  go_wp2
  go_loop [3, 11] (fun s i => (i = .int .i64 0 ∧ s = .int .i64 0) ∨ (i = .int .i64 1 ∧ s = .int .i64 (n1 : Int))) (fun _ i => 2 - (intOf i).toNat)
  case atStart => exact .inl ⟨rfl, rfl⟩
  case round =>
    rcases hrel with ⟨rfl, rfl⟩ | ⟨rfl, rfl⟩
    · go_wp2
      all_goals exact ⟨.inr ⟨rfl, rfl⟩, by simp [intOf]⟩
    · go_wp2_with (go_at_call 96; refine (HG.out _ n1 hl).mono ?_; rintro e wa ⟨va, rfl, hra, hga, hba⟩; have HRA : Hid _ := hra; clear hra)
      have HAP : Hid (∀ (W : World) (u x : Value) (m k : List Cl), RowK W u m → (∀ g, u.ownBlock = some g → w.heap.size ≤ g) → VWc W x k → m.length + k.length ≤ 4000000000000 → w.heap.size ≤ W.heap.size → ∀ ty, ∃ v' w', (Builtin.append_ #[41, 41] ty #[u, x]).run Tryz.prog W = .ok v' w' ∧ RowK w' v' (m ++ k) ∧ (∀ g, v'.ownBlock = some g → w.heap.size ≤ g) ∧ Below w.heap.size W w') := (show _ from fun W u x m k r1 r2 r3 r4 r5 ty => by
        obtain ⟨v', w', q1, q2, q3, q4⟩ := app_rowc W u x m k r1 r3 r4 ty
        refine ⟨v', w', q1, q2, fun g hg => ?_, q4.to_below r5 r2⟩
        rcases q3 with q3 | q3
        · exact r2 g (q3.symm.trans hg)
        · rw [q3] at hg; injection hg with hg; omega)
      clear HG
      go_loopw [6, 27] (fun u v w' => ∃ m, ((v = .int .i64 0 ∧ m = []) ∨ (v = .int .i64 1 ∧ m = l1)) ∧ Hid (RowK w' u m ∧ (∀ g, u.ownBlock = some g → w.heap.size ≤ g)) ∧ Below w.heap.size w w') (fun _ v _ => 2 - (intOf v).toNat)
      case atStart => exact ⟨[], .inl ⟨rfl, rfl⟩, (show Hid _ from ⟨HRA.out, hga⟩), hba⟩
      case round =>
        obtain ⟨m, hm, hR, hB⟩ := hrel
        have zB := hB.size
        have y0 := (hB.cell (p := ⟨sb, 0, none⟩) ls).trans cs0
        rcases hm with ⟨rfl, rfl⟩ | ⟨rfl, rfl⟩
        · go_wp2_with (at_builtin; obtain ⟨v', wb, hr, q1, q2, q3⟩ := HAP.out _ _ _ _ _ hR.out.1 hR.out.2 (h1.out.keep hB) (by have := HL1.out; simp; omega) zB _; refine wpList_app3 rfl _ _ _ _ rfl _ _ rfl rfl _ wb hr ?_; have Q1 : Hid _ := And.intro q1 q2; clear q1 q2 hr)
          all_goals exact ⟨⟨l1, .inr ⟨rfl, rfl⟩, Q1, hB.trans q3⟩, by simp [intOf]⟩
        · go_wp2
          all_goals go_ret
          all_goals exact ⟨_, rfl, hR.out.1, hR.out.2, hB⟩
theorem RowG.vwc {w : World} {g n cap : Nat} {l : List Cl} (h : RowK w (.slice (some ⟨g, 0, none⟩) n cap) l) : VWc w (.slice (some ⟨g, 0, none⟩) n cap) l := by
  rcases h.two with ⟨h, _⟩ | ⟨g', cap', cur, e, _, _, h2, _, _, _, h6⟩
  · cases h
  · simp only [Value.slice.injEq, Option.some.injEq, Addr.mk.injEq] at e
    obtain ⟨⟨rfl, _⟩, rfl, rfl⟩ := e
    refine ⟨_, _, rfl, fun j u hj => ?_⟩
    rw [add_none, Nat.zero_add, cell_row h2]
    rw [← h6, List.getElem?_take] at hj
    split at hj
    · simpa using hj
    · cases hj
set_option maxRecDepth 100000 in
set_option maxHeartbeats 4000000 in
theorem wo_anyc (w : World) (v : Value) (l : List Cl) (i : Nat) (hv : RowK w v l) (hi : i < l.length) (hl : l.length ≤ 4000000000000) :
    Calls Tryz.prog 40 #[v, .int .i64 i] w (WoP 32 2 Cl.cs w v (l.take i ++ l.drop (i + 1))) := by
  have mixed : Tryz.prog.follows .mixedOrders = true := by kernel_rfl
  have HD : Hid (Calls Tryz.prog 65 #[v, .int .i64 i, .int .i64 ((i : Int) + 1)] w (InsP 32 2 Cl.cs w v (l.take i ++ l.drop (i + 1)))) := del_anyc w v l i hv hi hl
  have hll : (l.take i ++ l.drop (i + 1)).length ≤ 4000000000000 := by simp; omega
  have HC : Hid (∀ W sb x, Own W sb #[x] → VWc W x (l.take i ++ l.drop (i + 1)) → Calls Tryz.prog 66 #[.slice (some ⟨sb, 0, none⟩) 1 1] W fun e w' => ∃ v, e = .returned v ∧ RowK w' v (l.take i ++ l.drop (i + 1)) ∧ (∀ g, v.ownBlock = some g → W.heap.size ≤ g) ∧ Below W.heap.size W w') := fun W sb x h1 h2 => concat_onec W sb x _ h1 h2 hll
  clear hll
  have hw : IntKind.i64.wrap ((i : Int) + 1) = (i : Int) + 1 := by rw [IntKind.wrap_i64]; omega
  have hvb : ∃ a n c, v = .slice (some a) n c := by
    rcases hv.two with ⟨rfl, rfl⟩ | ⟨g, cap, cur, rfl, _⟩
    · simp at hi
    · exact ⟨_, _, _, rfl⟩
  clear hi hl hv
  generalize l.take i ++ l.drop (i + 1) = m at *
  obtain ⟨q, n, c, rfl⟩ := hvb
  go_enter Tryz.func40, Tryz.ntmps40
  go_wp2_with (first
    | (go_at_call 65; refine HD.out.mono ?_; rintro e wa ⟨va, rfl, k1, k2, k3⟩; have K1 : Hid (RowK wa va m) := k1; have K2 : Hid (va.ownBlock = (Value.slice (some q) n c).ownBlock ∨ ∃ g, va.ownBlock = some g ∧ w.heap.size ≤ g) := k2; have K3 : Hid (Mut (fun k => (Value.slice (some q) n c).ownBlock = some k) w wa) := k3; clear k3; rcases k1.two with ⟨rfl, hm⟩ | ⟨g, cp, cur, rfl, x1, x2, x3, x4, x5, x6⟩; (· exfalso; rcases k2 with k2 | ⟨_, k2, _⟩; cases k2; cases k2); clear k2 x3 x6)
    | (go_at_call 66; refine (HC.out _ _ _ (by with_reducible (repeat' first | assumption | refine Own.drew ?_ | refine Own.drewN ?_ _ | (refine Own.at ?_; first | rfl | (simp; done)) | refine Own.past ?_ _)) (VWc.keep (RowG.vwc K1.out) zqb)).mono ?_; rintro e wb ⟨vb, rfl, r1, r2, r3⟩; have R1 : Hid (RowK wb vb m) := r1; have R2 : Hid (∀ g, vb.ownBlock = some g → wa.heap.size ≤ g) := (show _ from fun g hg => Nat.le_trans (by simp) (r2 g hg)); have R3 : Below wa.heap.size wa wb := bup zqb r3; clear r1 r2 r3))
  · go_ret
    exact InsP.wo ⟨_, rfl, K1.out, K2.out, K3.out⟩
  · go_ret
    exact ⟨_, rfl, R1.out, fun g hg => .inr (Nat.le_trans K3.out.size (R2.out g hg)), K3.out.below R3⟩
end Go.Proofs.YtcjanaldjokllaaGreat
