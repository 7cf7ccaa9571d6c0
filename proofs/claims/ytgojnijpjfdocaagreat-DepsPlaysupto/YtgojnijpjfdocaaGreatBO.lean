/- The contracts of cmp.Compare and cmp.Or at int, of order.Cells and order.Rects. New memory alone is made. -/
import Derived.Test.YtgojnijpjfdocaaGreatBE
namespace Go.Proofs.YtgojnijpjfdocaaGreat
open Go.RowKit
set_option linter.all false
def cmpI (a b : Int) : Int := if a < b then -1 else if b < a then 1 else 0
theorem cmpI_neg (a b : Int) : cmpI a b < 0 ↔ a < b := by unfold cmpI; split <;> (try split) <;> omega
theorem cmpI_zero (a b : Int) : cmpI a b = 0 ↔ a = b := by unfold cmpI; split <;> (try split) <;> omega
theorem nan_any (a : Int) (w : World) : Calls Tryz.prog 89 #[.int .i64 a] w fun e w' => e = .returned (.bool false) ∧ w' = w := by
  go_enter Tryz.func89, Tryz.ntmps89
  go_wp2
  go_ret
  exact ⟨retB (by simp), rfl⟩
theorem cmp_any (a b : Int) (w : World) : Calls Tryz.prog 58 #[.int .i64 a, .int .i64 b] w fun e w' => e = .returned (.int .i64 (cmpI a b)) ∧ w' = w := by
  by_cases h1 : a < b
  · have e : cmpI a b = -1 := by unfold cmpI; rw [if_pos h1]
    rw [e]
    clear e
    go_enter Tryz.func58, Tryz.ntmps58
    go_wp2_with (go_at_call 89; refine (nan_any _ _).mono ?_; rintro e w5 ⟨rfl, rfl⟩)
    go_ret
    exact ⟨rfl, rfl⟩
  · by_cases h2 : b < a
    · have e : cmpI a b = 1 := by unfold cmpI; rw [if_neg h1, if_pos h2]
      rw [e]
      clear e
      go_enter Tryz.func58, Tryz.ntmps58
      go_wp2_with (go_at_call 89; refine (nan_any _ _).mono ?_; rintro e w5 ⟨rfl, rfl⟩)
      go_ret
      exact ⟨rfl, rfl⟩
    · have e : cmpI a b = 0 := by unfold cmpI; rw [if_neg h1, if_neg h2]
      rw [e]
      clear e
      go_enter Tryz.func58, Tryz.ntmps58
      go_wp2_with (go_at_call 89; refine (nan_any _ _).mono ?_; rintro e w5 ⟨rfl, rfl⟩)
      go_ret
      exact ⟨rfl, rfl⟩
/-- The first that is not 0. -/
def orI : List Int → Int
  | [] => 0
  | x :: t => if x = 0 then orI t else x
theorem orI_zero {x : Int} {t : List Int} (h : x = 0) : orI (x :: t) = orI t := if_pos h
theorem orI_one {x : Int} {t : List Int} (h : ¬ x = 0) : orI (x :: t) = x := if_neg h
set_option maxRecDepth 100000 in
theorem or_any (w : World) (b n : Nat) (l : List Int) (hn : n = l.length) (hb : b < w.heap.size) (hl : n ≤ 100) (hc : ∀ i x, l[i]? = some x → w.cell? ⟨b, i, none⟩ = some (.int .i64 x)) : Calls Tryz.prog 57 #[.slice (some ⟨b, 0, none⟩) n n] w fun e w' => e = .returned (.int .i64 (orI l)) ∧ w' = w := by
  have mixed : Tryz.prog.follows .mixedOrders = true := by kernel_rfl
  have HN : Hid (n = l.length) := hn
  have HC : Hid (∀ i x, l[i]? = some x → w.cell? ⟨b, i, none⟩ = some (.int .i64 x)) := hc
  clear hn hc
  go_enter Tryz.func57, Tryz.ntmps57
  go_wp2
  go_loop [5, 8] (fun _ i => ∃ k : Nat, i = .int .i64 k ∧ k ≤ n ∧ Hid (orI l = orI (l.drop k))) (fun _ i => n - (intOf i).toNat)
  case atStart => exact ⟨0, rfl, by omega, (show orI l = orI (l.drop 0) from rfl)⟩
  case round =>
    obtain ⟨k, rfl, hk, HO⟩ := hrel
    by_cases hlt : k < n
    · have hlt' : (k : Int) < n := by omega
      obtain ⟨x, hx⟩ : ∃ x, l[k]? = some x := ⟨_, List.getElem?_eq_getElem (by rw [← HN.out]; omega)⟩
      have c0 := HC.out k x hx
      have HD : Hid (l.drop k = x :: l.drop (k + 1)) := (show _ from by
        obtain ⟨h1, rfl⟩ := List.getElem?_eq_some_iff.1 hx
        exact List.drop_eq_getElem_cons h1)
      clear hx
      by_cases hx0 : x = 0
      · have HO2 : Hid (orI l = orI (l.drop (k + 1))) := (show orI l = orI (l.drop (k + 1)) by rw [HO.out, HD.out, orI_zero hx0])
        subst hx0
        go_wp2
        exact ⟨⟨k + 1, by go_num, by omega, HO2⟩, by simp [intOf]; omega⟩
      · have HO2 : Hid (orI l = x) := (show orI l = x by rw [HO.out, HD.out, orI_one hx0])
        have hne : (x != 0) = true := by simpa using hx0
        go_wp2
        go_ret
        exact ⟨by rw [HO2.out]; rfl, rfl⟩
    · have hkn : k = n := by omega
      have HO2 : Hid (orI l = 0) := (show orI l = 0 by rw [HO.out, List.drop_of_length_le (by rw [← HN.out]; omega)]; rfl)
      subst hkn
      go_wp2
      go_ret
      exact ⟨by rw [HO2.out]; rfl, rfl⟩
def cmpC (r c r' c' : Int) : Int := orI [cmpI r r', cmpI c c']
def cmpR (t l b r t' l' b' r' : Int) : Int := orI [cmpI t t', cmpI l l', cmpI b b', cmpI r r']
theorem cmpC_neg (r c r' c' : Int) : cmpC r c r' c' < 0 ↔ (r < r' ∨ (r = r' ∧ c < c')) := by
  unfold cmpC orI orI orI cmpI
  repeat' split
  all_goals omega
theorem cmpC_zero (r c r' c' : Int) : cmpC r c r' c' = 0 ↔ (r = r' ∧ c = c') := by
  unfold cmpC orI orI orI cmpI
  repeat' split
  all_goals omega
theorem cmpR_neg (t l b r t' l' b' r' : Int) : cmpR t l b r t' l' b' r' < 0 ↔ (t < t' ∨ (t = t' ∧ (l < l' ∨ (l = l' ∧ (b < b' ∨ (b = b' ∧ r < r')))))) := by
  unfold cmpR orI orI orI orI orI cmpI
  repeat' split
  all_goals omega
theorem cmpR_zero (t l b r t' l' b' r' : Int) : cmpR t l b r t' l' b' r' = 0 ↔ (t = t' ∧ l = l' ∧ b = b' ∧ r = r') := by
  unfold cmpR orI orI orI orI orI cmpI
  repeat' split
  all_goals omega
theorem own_ints {w : World} {b : Nat} {l : List Int} (h : Own w b (l.map (Value.int .i64)).toArray) : ∀ i x, l[i]? = some x → w.cell? ⟨b, i, none⟩ = some (.int .i64 x) := fun i x hx => by
  rw [h.cell i]
  simp [hx]
set_option maxRecDepth 100000 in
set_option maxHeartbeats 2000000 in
theorem ocel_any (r c r' c' : Int) (w : World) : Calls Tryz.prog 34 #[.agg #[.int .i64 r, .int .i64 c], .agg #[.int .i64 r', .int .i64 c']] w fun e w' => e = .returned (.int .i64 (cmpC r c r' c')) ∧ Below w.heap.size w w' := by
  have mixed : Tryz.prog.follows .mixedOrders = true := by kernel_rfl
  have HO : Hid (∀ W b (x y : Int), Own W b #[.int .i64 x, .int .i64 y] → Calls Tryz.prog 57 #[.slice (some ⟨b, 0, none⟩) 2 2] W fun e w' => e = .returned (.int .i64 (orI [x, y])) ∧ w' = W) := fun W b x y h => or_any W b 2 [x, y] rfl h.lt (by omega) (own_ints h)
  go_enter Tryz.func34, Tryz.ntmps34
  go_wp2
  go_region_held3 (fun w' => w'.cell? ⟨w.heap.size, 0, none⟩ = some (.int .i64 r) ∧ w'.cell? ⟨w.heap.size, 1, none⟩ = some (.int .i64 c) ∧ w'.cell? ⟨w.heap.size + 1, 0, none⟩ = some (.int .i64 r') ∧ w'.cell? ⟨w.heap.size + 1, 1, none⟩ = some (.int .i64 c')) ((repeat' apply And.intro) <;> (first | (go_keep; done) | (go_simp; done))) (first
    | (go_at_call 58; refine (cmp_any _ _ _).mono ?_; rintro e w5 ⟨rfl, rfl⟩)
    | (go_at_call 57; refine (HO.out _ _ _ _ (by with_reducible (repeat' first | assumption | refine Own.drew ?_ | refine Own.drewN ?_ _ | (refine Own.at ?_; first | rfl | (simp; done)) | refine Own.past ?_ _))).mono ?_; rintro e w6 ⟨rfl, rfl⟩))
  go_wp2
  go_ret
  exact ⟨rfl, by with_reducible (repeat' first | assumption | exact Below.refl _ _ | refine Below.drew ?_ | refine bdrewN ?_ _ | refine Below.setCell ?_ (by first | exact Nat.le_refl _ | (simp; done) | (simp; omega) | omega) _ | refine Below.alloc ?_ (by first | exact Nat.le_refl _ | (simp; done) | (simp; omega) | omega) _)⟩
set_option maxRecDepth 100000 in
set_option maxHeartbeats 2000000 in
theorem orec_any (t l b r t' l' b' r' : Int) (w : World) : Calls Tryz.prog 71 #[.agg #[.int .i64 t, .int .i64 l, .int .i64 b, .int .i64 r], .agg #[.int .i64 t', .int .i64 l', .int .i64 b', .int .i64 r']] w fun e w' => e = .returned (.int .i64 (cmpR t l b r t' l' b' r')) ∧ Below w.heap.size w w' := by
  have mixed : Tryz.prog.follows .mixedOrders = true := by kernel_rfl
  have HO : Hid (∀ W b (x y z u : Int), Own W b #[.int .i64 x, .int .i64 y, .int .i64 z, .int .i64 u] → Calls Tryz.prog 57 #[.slice (some ⟨b, 0, none⟩) 4 4] W fun e w' => e = .returned (.int .i64 (orI [x, y, z, u])) ∧ w' = W) := fun W b x y z u h => or_any W b 4 [x, y, z, u] rfl h.lt (by omega) (own_ints h)
  go_enter Tryz.func71, Tryz.ntmps71
  go_wp2
  go_region_held3 (fun w' => w'.cell? ⟨w.heap.size, 0, none⟩ = some (.int .i64 t) ∧ w'.cell? ⟨w.heap.size, 1, none⟩ = some (.int .i64 l) ∧ w'.cell? ⟨w.heap.size, 2, none⟩ = some (.int .i64 b) ∧ w'.cell? ⟨w.heap.size, 3, none⟩ = some (.int .i64 r) ∧ w'.cell? ⟨w.heap.size + 1, 0, none⟩ = some (.int .i64 t') ∧ w'.cell? ⟨w.heap.size + 1, 1, none⟩ = some (.int .i64 l') ∧ w'.cell? ⟨w.heap.size + 1, 2, none⟩ = some (.int .i64 b') ∧ w'.cell? ⟨w.heap.size + 1, 3, none⟩ = some (.int .i64 r')) ((repeat' apply And.intro) <;> (first | (go_keep; done) | (go_simp; done))) (first
    | (go_at_call 58; refine (cmp_any _ _ _).mono ?_; rintro e w5 ⟨rfl, rfl⟩)
    | (go_at_call 57; refine (HO.out _ _ _ _ _ _ (by with_reducible (repeat' first | assumption | refine Own.drew ?_ | refine Own.drewN ?_ _ | (refine Own.at ?_; first | rfl | (simp; done)) | refine Own.past ?_ _))).mono ?_; rintro e w6 ⟨rfl, rfl⟩))
  go_wp2
  go_ret
  exact ⟨rfl, by with_reducible (repeat' first | assumption | exact Below.refl _ _ | refine Below.drew ?_ | refine bdrewN ?_ _ | refine Below.setCell ?_ (by first | exact Nat.le_refl _ | (simp; done) | (simp; omega) | omega) _ | refine Below.alloc ?_ (by first | exact Nat.le_refl _ | (simp; done) | (simp; omega) | omega) _)⟩
end Go.Proofs.YtgojnijpjfdocaaGreat
