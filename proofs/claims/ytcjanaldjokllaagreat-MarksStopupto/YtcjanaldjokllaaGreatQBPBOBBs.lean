/- Looking up in a list by how each stands to what is looked for. No function's text is walked here. · The contracts of cmp.Compare and cmp.Or at int, of order.Cells and order.Rects. New memory alone is made. · The contract of slices.BinarySearchFunc at a row, by how each stands to what is looked for. New memory alone is made. -/
import Derived.Test.YtcjanaldjokllaaGreatQA5BMBE
namespace Go.Proofs.YtcjanaldjokllaaGreat
open Go.RowKit
set_option linter.all false
section
variable {α : Type} {f : α → Int} {l : List α}
def loF (f : α → Int) (l : List α) : List α := l.filter (fun x => decide (f x < 0))
def hiF (f : α → Int) (l : List α) : List α := l.filter (fun x => decide (0 < f x))
def geF (f : α → Int) (l : List α) : List α := l.filter (fun x => decide (0 ≤ f x))
def idxF (f : α → Int) (l : List α) : Nat := (loF f l).length
def hasF (f : α → Int) (l : List α) : Bool := l.any (fun x => decide (f x = 0))
def MonoF (f : α → Int) (l : List α) : Prop := l.Pairwise (fun x y => f y ≤ 0 → f x < 0)
theorem MonoF.low (h : MonoF f l) {i j : Nat} {x y : α} (hx : l[i]? = some x) (hy : l[j]? = some y) (hij : i < j) (hf : f y ≤ 0) : f x < 0 := by
  obtain ⟨l1, rfl⟩ := List.getElem?_eq_some_iff.1 hx
  obtain ⟨l2, rfl⟩ := List.getElem?_eq_some_iff.1 hy
  exact List.pairwise_iff_getElem.1 h i j l1 l2 hij hf
theorem loF_next (hS : MonoF f l) {h : Nat} {x : α} (hx : l[h]? = some x) (hc : f x < 0) : ∀ t y, t < h + 1 → l[t]? = some y → f y < 0 := by
  intro t y ht hy
  by_cases e : t = h
  · subst e; rw [hx] at hy; injection hy with hy; subst hy; exact hc
  · exact hS.low hy hx (by omega) (by omega)
theorem hiF_next (hS : MonoF f l) {h : Nat} {x : α} (hx : l[h]? = some x) (hc : 0 ≤ f x) : ∀ t y, h ≤ t → l[t]? = some y → 0 ≤ f y := by
  intro t y ht hy
  by_cases e : t = h
  · subst e; rw [hx] at hy; injection hy with hy; subst hy; exact hc
  · have := hS.low hx hy (by omega)
    omega
/-- The list is what is below, then the rest. -/
theorem parts : ∀ {l : List α}, MonoF f l → l = loF f l ++ geF f l
  | [], _ => rfl
  | x :: t, h => by
    have ih := parts (List.pairwise_cons.1 h).2
    have hx := (List.pairwise_cons.1 h).1
    by_cases h1 : f x < 0
    · have e1 : loF f (x :: t) = x :: loF f t := by unfold loF; rw [List.filter_cons, if_pos (by simpa using h1)]
      have e2 : geF f (x :: t) = geF f t := by unfold geF; rw [List.filter_cons, if_neg (by simp; omega)]
      rw [e1, e2, List.cons_append, ← ih]
    · have e1 : loF f (x :: t) = [] := by
        unfold loF
        rw [List.filter_eq_nil_iff]
        intro y hy
        rcases List.mem_cons.1 hy with rfl | hy
        · simpa using h1
        · have := hx y hy; simp; omega
      have e2 : geF f (x :: t) = x :: t := by
        unfold geF
        rw [List.filter_eq_self]
        intro y hy
        rcases List.mem_cons.1 hy with rfl | hy
        · simp; omega
        · have := hx y hy; simp; omega
      rw [e1, e2, List.nil_append]
theorem idxF_le (l : List α) : idxF f l ≤ l.length := List.length_filter_le _ _
theorem take_idx (h : MonoF f l) : l.take (idxF f l) = loF f l := by
  have e := parts h
  unfold idxF
  conv => lhs; arg 2; rw [e]
  exact List.take_left
theorem drop_idx (h : MonoF f l) : l.drop (idxF f l) = geF f l := by
  have e := parts h
  unfold idxF
  conv => lhs; arg 2; rw [e]
  exact List.drop_left
theorem idxF_of (hS : MonoF f l) {i : Nat} (hi : i ≤ l.length) (h1 : ∀ t x, t < i → l[t]? = some x → f x < 0) (h2 : ∀ t x, i ≤ t → l[t]? = some x → 0 ≤ f x) : i = idxF f l := by
  have e1 : loF f l = l.take i := by
    unfold loF
    conv => lhs; rw [← List.take_append_drop i l]
    rw [List.filter_append]
    have a1 : (l.take i).filter (fun x => decide (f x < 0)) = l.take i := by
      rw [List.filter_eq_self]
      intro x hx
      obtain ⟨t, ht⟩ := List.getElem?_of_mem hx
      rw [List.getElem?_take] at ht
      split at ht
      · simpa using h1 t x (by assumption) ht
      · cases ht
    have a2 : (l.drop i).filter (fun x => decide (f x < 0)) = [] := by
      rw [List.filter_eq_nil_iff]
      intro x hx
      obtain ⟨t, ht⟩ := List.getElem?_of_mem hx
      rw [List.getElem?_drop] at ht
      have := h2 (i + t) x (by omega) ht
      simp; omega
    rw [a1, a2, List.append_nil]
  unfold idxF
  rw [e1, List.length_take, Nat.min_eq_left hi]
theorem idx_has (hS : MonoF f l) {x : α} (hx : l[idxF f l]? = some x) : hasF f l = decide (f x = 0) := by
  unfold hasF
  rw [Bool.eq_iff_iff, List.any_eq_true, decide_eq_true_iff]
  constructor
  · rintro ⟨y, hy, h0⟩
    have h0 := of_decide_eq_true h0
    obtain ⟨j, hj⟩ := List.getElem?_of_mem hy
    have hlt : ¬ j < idxF f l := fun q => by
      have e : y ∈ loF f l := by rw [← take_idx hS]; exact List.mem_of_getElem? (i := j) (by rw [List.getElem?_take, if_pos q]; exact hj)
      have := of_decide_eq_true (List.mem_filter.1 e).2
      omega
    have hge : 0 ≤ f x := by
      have e : x ∈ geF f l := by rw [← drop_idx hS]; exact List.mem_of_getElem? (i := 0) (by rw [List.getElem?_drop, Nat.add_zero]; exact hx)
      exact of_decide_eq_true (List.mem_filter.1 e).2
    by_cases e : j = idxF f l
    · subst e; rw [hx] at hj; injection hj with hj; subst hj; exact h0
    · have := hS.low hx hj (by omega) (by omega); omega
  · intro h0
    exact ⟨x, List.mem_of_getElem? hx, by simpa using h0⟩
theorem idx_end (hS : MonoF f l) (h : ¬ idxF f l < l.length) : hasF f l = false := by
  unfold hasF
  rw [List.any_eq_false]
  intro y hy h0
  have h0 := of_decide_eq_true h0
  have hl := idxF_le (f := f) l
  have e := take_idx hS
  rw [List.take_of_length_le (by omega)] at e
  rw [e] at hy
  have := of_decide_eq_true (List.mem_filter.1 hy).2
  omega
/-- What is there, is at its place. -/
theorem has_idx (hS : MonoF f l) (h : hasF f l = true) : ∃ x, l[idxF f l]? = some x ∧ f x = 0 ∧ idxF f l < l.length := by
  by_cases hlt : idxF f l < l.length
  · have hx : l[idxF f l]? = some l[idxF f l] := List.getElem?_eq_getElem hlt
    have := idx_has hS hx
    rw [h] at this
    exact ⟨_, hx, of_decide_eq_true this.symm, hlt⟩
  · rw [idx_end hS hlt] at h; cases h
/-- Without what is at the place. -/
theorem drop_has (hS : MonoF f l) (h : hasF f l = true) : l.take (idxF f l) ++ l.drop (idxF f l + 1) = loF f l ++ hiF f l := by
  obtain ⟨x, hx, h0, hlt⟩ := has_idx hS h
  rw [take_idx hS]
  congr 1
  have e : geF f l = x :: l.drop (idxF f l + 1) := by
    rw [← drop_idx hS]
    obtain ⟨h1, rfl⟩ := List.getElem?_eq_some_iff.1 hx
    exact List.drop_eq_getElem_cons h1
  have e2 : hiF f l = hiF f (geF f l) := by
    unfold hiF geF
    rw [List.filter_filter]
    apply List.filter_congr
    intro y _
    rw [Bool.eq_iff_iff]; simp; omega
  have hp : MonoF f (geF f l) := List.Pairwise.filter _ hS
  rw [e] at hp
  rw [e2, e]
  unfold hiF
  rw [List.filter_cons, if_neg (by simp; omega)]
  symm
  rw [List.filter_eq_self]
  intro y hy
  have := (List.pairwise_cons.1 hp).1 y hy
  simp; omega
theorem has_no (h : hasF f l = false) : geF f l = hiF f l := by
  unfold geF hiF
  apply List.filter_congr
  intro y hy
  unfold hasF at h
  rw [List.any_eq_false] at h
  have := h y hy
  simp at this
  rw [Bool.eq_iff_iff]; simp; omega
end
end Go.Proofs.YtcjanaldjokllaaGreat
namespace Go.Proofs.YtcjanaldjokllaaGreat
open Go.RowKit
set_option linter.all false
def cmpI (a b : Int) : Int := if a < b then -1 else if b < a then 1 else 0
theorem nan_any (a : Int) (w : World) : Calls Tryz.prog 91 #[.int .i64 a] w fun e w' => e = .returned (.bool false) ∧ w' = w := by
  go_enter Tryz.func91, Tryz.ntmps91
  go_wp2
  go_ret
  exact ⟨retB (by simp), rfl⟩
theorem cmp_any (a b : Int) (w : World) : Calls Tryz.prog 58 #[.int .i64 a, .int .i64 b] w fun e w' => e = .returned (.int .i64 (cmpI a b)) ∧ w' = w := by
  by_cases h1 : a < b
  · have e : cmpI a b = -1 := by unfold cmpI; rw [if_pos h1]
    rw [e]
    clear e
    go_enter Tryz.func58, Tryz.ntmps58
    go_wp2_with (go_at_call 91; refine (nan_any _ _).mono ?_; rintro e w5 ⟨rfl, rfl⟩)
    go_ret
    exact ⟨rfl, rfl⟩
  · by_cases h2 : b < a
    · have e : cmpI a b = 1 := by unfold cmpI; rw [if_neg h1, if_pos h2]
      rw [e]
      clear e
      go_enter Tryz.func58, Tryz.ntmps58
      go_wp2_with (go_at_call 91; refine (nan_any _ _).mono ?_; rintro e w5 ⟨rfl, rfl⟩)
      go_ret
      exact ⟨rfl, rfl⟩
    · have e : cmpI a b = 0 := by unfold cmpI; rw [if_neg h1, if_neg h2]
      rw [e]
      clear e
      go_enter Tryz.func58, Tryz.ntmps58
      go_wp2_with (go_at_call 91; refine (nan_any _ _).mono ?_; rintro e w5 ⟨rfl, rfl⟩)
      go_ret
      exact ⟨rfl, rfl⟩
/-- The first that is not 0. -/
def orI : List Int → Int
  | [] => 0
  | x :: t => if x = 0 then orI t else x
theorem orI_zero {x : Int} {t : List Int} (h : x = 0) : orI (x :: t) = orI t := if_pos h
theorem orI_one {x : Int} {t : List Int} (h : ¬ x = 0) : orI (x :: t) = x := if_neg h
set_option maxRecDepth 100000 in
theorem or_any (w : World) (b n : Nat) (l : List Int) (hn : n = l.length) (hb : b < w.heap.size) (hl : n ≤ 100) (hc : ∀ i x, l[i]? = some x → w.cell? ⟨b, i, none⟩ = some (.int .i64 x)) : Calls Tryz.prog 57 #[.slice (some ⟨b, 0, none⟩) n n] w fun e w' => e = .returned (.int .i64 (orI l)) ∧ w' = w := by
  have mixed : Tryz.prog.follows .mixedOrders = true := by kernel_rfl
  have HN : Hid (n = l.length) := hn
  have HC : Hid (∀ i x, l[i]? = some x → w.cell? ⟨b, i, none⟩ = some (.int .i64 x)) := hc
  clear hn hc
  go_enter Tryz.func57, Tryz.ntmps57
  go_wp2
  go_loop [5, 8] (fun _ i => ∃ k : Nat, i = .int .i64 k ∧ k ≤ n ∧ Hid (orI l = orI (l.drop k))) (fun _ i => n - (intOf i).toNat)
  case atStart => exact ⟨0, rfl, by omega, (show orI l = orI (l.drop 0) from rfl)⟩
  case round =>
    obtain ⟨k, rfl, hk, HO⟩ := hrel
    by_cases hlt : k < n
    · have hlt' : (k : Int) < n := by omega
      obtain ⟨x, hx⟩ : ∃ x, l[k]? = some x := ⟨_, List.getElem?_eq_getElem (by rw [← HN.out]; omega)⟩
      have c0 := HC.out k x hx
      have HD : Hid (l.drop k = x :: l.drop (k + 1)) := (show _ from by
        obtain ⟨h1, rfl⟩ := List.getElem?_eq_some_iff.1 hx
        exact List.drop_eq_getElem_cons h1)
      clear hx
      by_cases hx0 : x = 0
      · have HO2 : Hid (orI l = orI (l.drop (k + 1))) := (show orI l = orI (l.drop (k + 1)) by rw [HO.out, HD.out, orI_zero hx0])
        subst hx0
        go_wp2
        exact ⟨⟨k + 1, by go_num, by omega, HO2⟩, by simp [intOf]; omega⟩
      · have HO2 : Hid (orI l = x) := (show orI l = x by rw [HO.out, HD.out, orI_one hx0])
        have hne : (x != 0) = true := by simpa using hx0
        go_wp2
        go_ret
        exact ⟨by rw [HO2.out]; rfl, rfl⟩
    · have hkn : k = n := by omega
      have HO2 : Hid (orI l = 0) := (show orI l = 0 by rw [HO.out, List.drop_of_length_le (by rw [← HN.out]; omega)]; rfl)
      subst hkn
      go_wp2
      go_ret
      exact ⟨by rw [HO2.out]; rfl, rfl⟩
def cmpC (r c r' c' : Int) : Int := orI [cmpI r r', cmpI c c']
def cmpR (t l b r t' l' b' r' : Int) : Int := orI [cmpI t t', cmpI l l', cmpI b b', cmpI r r']
theorem cmpC_neg (r c r' c' : Int) : cmpC r c r' c' < 0 ↔ (r < r' ∨ (r = r' ∧ c < c')) := by
  unfold cmpC orI orI orI cmpI
  repeat' split
  all_goals omega
theorem cmpC_zero (r c r' c' : Int) : cmpC r c r' c' = 0 ↔ (r = r' ∧ c = c') := by
  unfold cmpC orI orI orI cmpI
  repeat' split
  all_goals omega
theorem cmpR_neg (t l b r t' l' b' r' : Int) : cmpR t l b r t' l' b' r' < 0 ↔ (t < t' ∨ (t = t' ∧ (l < l' ∨ (l = l' ∧ (b < b' ∨ (b = b' ∧ r < r')))))) := by
  unfold cmpR orI orI orI orI orI cmpI
  repeat' split
  all_goals omega
theorem cmpR_zero (t l b r t' l' b' r' : Int) : cmpR t l b r t' l' b' r' = 0 ↔ (t = t' ∧ l = l' ∧ b = b' ∧ r = r') := by
  unfold cmpR orI orI orI orI orI cmpI
  repeat' split
  all_goals omega
theorem own_ints {w : World} {b : Nat} {l : List Int} (h : Own w b (l.map (Value.int .i64)).toArray) : ∀ i x, l[i]? = some x → w.cell? ⟨b, i, none⟩ = some (.int .i64 x) := fun i x hx => by
  rw [h.cell i]
  simp [hx]
set_option maxRecDepth 100000 in
set_option maxHeartbeats 2000000 in
theorem ocel_any (r c r' c' : Int) (w : World) : Calls Tryz.prog 34 #[.agg #[.int .i64 r, .int .i64 c], .agg #[.int .i64 r', .int .i64 c']] w fun e w' => e = .returned (.int .i64 (cmpC r c r' c')) ∧ Below w.heap.size w w' := by
  have mixed : Tryz.prog.follows .mixedOrders = true := by kernel_rfl
  have HO : Hid (∀ W b (x y : Int), Own W b #[.int .i64 x, .int .i64 y] → Calls Tryz.prog 57 #[.slice (some ⟨b, 0, none⟩) 2 2] W fun e w' => e = .returned (.int .i64 (orI [x, y])) ∧ w' = W) := fun W b x y h => or_any W b 2 [x, y] rfl h.lt (by omega) (own_ints h)
  go_enter Tryz.func34, Tryz.ntmps34
  go_wp2
  go_region_held3 (fun w' => w'.cell? ⟨w.heap.size, 0, none⟩ = some (.int .i64 r) ∧ w'.cell? ⟨w.heap.size, 1, none⟩ = some (.int .i64 c) ∧ w'.cell? ⟨w.heap.size + 1, 0, none⟩ = some (.int .i64 r') ∧ w'.cell? ⟨w.heap.size + 1, 1, none⟩ = some (.int .i64 c')) ((repeat' apply And.intro) <;> (first | (go_keep; done) | (go_simp; done))) (first
    | (go_at_call 58; refine (cmp_any _ _ _).mono ?_; rintro e w5 ⟨rfl, rfl⟩)
    | (go_at_call 57; refine (HO.out _ _ _ _ (by with_reducible (repeat' first | assumption | refine Own.drew ?_ | refine Own.drewN ?_ _ | (refine Own.at ?_; first | rfl | (simp; done)) | refine Own.past ?_ _))).mono ?_; rintro e w6 ⟨rfl, rfl⟩))
  go_wp2
  go_ret
  exact ⟨rfl, by with_reducible (repeat' first | assumption | exact Below.refl _ _ | refine Below.drew ?_ | refine bdrewN ?_ _ | refine Below.setCell ?_ (by first | exact Nat.le_refl _ | (simp; done) | (simp; omega) | omega) _ | refine Below.alloc ?_ (by first | exact Nat.le_refl _ | (simp; done) | (simp; omega) | omega) _)⟩
set_option maxRecDepth 100000 in
set_option maxHeartbeats 2000000 in
theorem orec_any (t l b r t' l' b' r' : Int) (w : World) : Calls Tryz.prog 68 #[.agg #[.int .i64 t, .int .i64 l, .int .i64 b, .int .i64 r], .agg #[.int .i64 t', .int .i64 l', .int .i64 b', .int .i64 r']] w fun e w' => e = .returned (.int .i64 (cmpR t l b r t' l' b' r')) ∧ Below w.heap.size w w' := by
  have mixed : Tryz.prog.follows .mixedOrders = true := by kernel_rfl
  have HO : Hid (∀ W b (x y z u : Int), Own W b #[.int .i64 x, .int .i64 y, .int .i64 z, .int .i64 u] → Calls Tryz.prog 57 #[.slice (some ⟨b, 0, none⟩) 4 4] W fun e w' => e = .returned (.int .i64 (orI [x, y, z, u])) ∧ w' = W) := fun W b x y z u h => or_any W b 4 [x, y, z, u] rfl h.lt (by omega) (own_ints h)
  go_enter Tryz.func68, Tryz.ntmps68
  go_wp2
  go_region_held3 (fun w' => w'.cell? ⟨w.heap.size, 0, none⟩ = some (.int .i64 t) ∧ w'.cell? ⟨w.heap.size, 1, none⟩ = some (.int .i64 l) ∧ w'.cell? ⟨w.heap.size, 2, none⟩ = some (.int .i64 b) ∧ w'.cell? ⟨w.heap.size, 3, none⟩ = some (.int .i64 r) ∧ w'.cell? ⟨w.heap.size + 1, 0, none⟩ = some (.int .i64 t') ∧ w'.cell? ⟨w.heap.size + 1, 1, none⟩ = some (.int .i64 l') ∧ w'.cell? ⟨w.heap.size + 1, 2, none⟩ = some (.int .i64 b') ∧ w'.cell? ⟨w.heap.size + 1, 3, none⟩ = some (.int .i64 r')) ((repeat' apply And.intro) <;> (first | (go_keep; done) | (go_simp; done))) (first
    | (go_at_call 58; refine (cmp_any _ _ _).mono ?_; rintro e w5 ⟨rfl, rfl⟩)
    | (go_at_call 57; refine (HO.out _ _ _ _ _ _ (by with_reducible (repeat' first | assumption | refine Own.drew ?_ | refine Own.drewN ?_ _ | (refine Own.at ?_; first | rfl | (simp; done)) | refine Own.past ?_ _))).mono ?_; rintro e w6 ⟨rfl, rfl⟩))
  go_wp2
  go_ret
  exact ⟨rfl, by with_reducible (repeat' first | assumption | exact Below.refl _ _ | refine Below.drew ?_ | refine bdrewN ?_ _ | refine Below.setCell ?_ (by first | exact Nat.le_refl _ | (simp; done) | (simp; omega) | omega) _ | refine Below.alloc ?_ (by first | exact Nat.le_refl _ | (simp; done) | (simp; omega) | omega) _)⟩
end Go.Proofs.YtcjanaldjokllaaGreat
namespace Go.Proofs.YtcjanaldjokllaaGreat
open Go.RowKit
set_option linter.all false
set_option maxRecDepth 100000 in
set_option maxHeartbeats 2000000 in
theorem bs_ys (w : World) (b cp n : Nat) (l : List Seat) (k0 k1 : Int) (f : Seat → Int) (hla : b < w.heap.size) (HA : ∀ i x j u, l[i]? = some x → x.cs[j]? = some u → w.cell? ⟨b, i * 2 + j, none⟩ = some u) (hn : l.length = n) (hc : n ≤ cp) (hl : n ≤ 4000000000000) (hS : Hid (MonoF f l)) (HKf : Hid (∀ W : World, Below w.heap.size w W → ∀ x ∈ l, Calls Tryz.prog 116 #[.agg #[.pointer (some ⟨x.g, 0, none⟩), .int .i64 x.n], .agg #[.int .i64 k0, .int .i64 k1]] W fun e w' => e = .returned (.int .i64 (f x)) ∧ Below W.heap.size W w')) :
    Calls Tryz.prog 115 #[.slice (some ⟨b, 0, none⟩) n cp, .agg #[.int .i64 k0, .int .i64 k1], (.func (.func 116) #[] #[])] w fun e w' => e = .returned (.tuple #[.int .i64 (idxF f l), .bool (hasF f l)]) ∧ Below w.heap.size w w' := by
  have HA' : Hid _ := HA
  have HL : Hid (l.length = n) := hn
  clear HA hn
  have mixed : Tryz.prog.follows .mixedOrders = true := by kernel_rfl
  go_enter Tryz.func115, Tryz.ntmps115
  go_wp2
  go_loopw [9, 10] (fun u v w' => ∃ (i j : Nat), u = .int .i64 i ∧ v = .int .i64 j ∧ i ≤ j ∧ j ≤ n ∧ Hid (∀ t x, t < i → l[t]? = some x → f x < 0) ∧ Hid (∀ t x, j ≤ t → l[t]? = some x → 0 ≤ f x) ∧ Own w' w.heap.size #[.int .i64 k0, .int .i64 k1] ∧ Below w.heap.size w w') (fun u v _ => (intOf v).toNat - (intOf u).toNat)
  case atStart => exact ⟨0, n, rfl, rfl, by omega, by omega, (show Hid _ from fun t x h => absurd h (Nat.not_lt_zero _)), (show Hid _ from fun t x h hx => absurd (List.getElem?_eq_some_iff.1 hx).1 (by rw [HL.out]; omega)), by with_reducible (repeat' first | assumption | refine Own.drew ?_ | refine Own.drewN ?_ _ | (refine Own.at ?_; first | rfl | (simp; done)) | refine Own.past ?_ _), by with_reducible (repeat' first | assumption | exact Below.refl _ _ | refine Below.drew ?_ | refine bdrewN ?_ _ | refine Below.setCell ?_ (by first | exact Nat.le_refl _ | (simp; done) | (simp; omega) | omega) _ | refine Below.alloc ?_ (by first | exact Nat.le_refl _ | (simp; done) | (simp; omega) | omega) _)⟩
  case round =>
    obtain ⟨i, j, rfl, rfl, hij, hjn, hlo, hhi, oK, hB3⟩ := hrel
    have cK := oK.cell
    have lK := oK.lt
    have z3 := hB3.size
    by_cases hlt : i < j
    · have hlt' : (i : Int) < j := by omega
      obtain ⟨h, hh⟩ : ∃ h : Nat, h = (i + j) / 2 := ⟨_, rfl⟩
      have h1 : i ≤ h := by omega
      have h2 : h < j := by omega
      have h3 : (h : Int) < n := by omega
      have h4 : (0 : Int) ≤ h := by omega
      have hd1 : ((i : Int) + j) / 2 = h := by omega
      have hd2 : ((i : Int) + j) >>> 1 = h := by rw [Int.shiftRight_eq_div_pow]; omega
      obtain ⟨x, hai⟩ : ∃ x, l[h]? = some x := ⟨_, List.getElem?_eq_getElem (by rw [HL.out]; omega)⟩
      have ca' : ∀ j u, x.cs[j]? = some u → wr.cell? ⟨b, h * 2 + j, none⟩ = some u := fun j u hu => (hB3.cell (p := ⟨b, h * 2 + j, none⟩) hla).trans (HA'.out h x j u hai hu)
      have y0 : wr.cell? ⟨b, h * 2, none⟩ = some (.pointer (some ⟨x.g, 0, none⟩)) := ca' 0 _ rfl
      have y1 : wr.cell? ⟨b, h * 2 + 1, none⟩ = some (.int .i64 x.n) := ca' 1 _ rfl
      have HAi : Hid (l[h]? = some x) := hai
      have HK : Hid (∀ W : World, Below w.heap.size w W → Calls Tryz.prog 116 #[.agg #[.pointer (some ⟨x.g, 0, none⟩), .int .i64 x.n], .agg #[.int .i64 k0, .int .i64 k1]] W fun e w' => e = .returned (.int .i64 (f x)) ∧ Below W.heap.size W w') := (show _ from fun W hb => HKf.out W hb x (List.mem_of_getElem? hai))
      clear ca' hai hh
      obtain ⟨q, hq⟩ : ∃ q : Int, f x = q := ⟨_, rfl⟩
      rw [hq] at HK
      have HQ : Hid (f x = q) := hq
      clear hq
      by_cases hneg : q < 0
      · go_wp2
        go_region_held3 (fun w' => w'.cell? ⟨b, h * 2, none⟩ = some (.pointer (some ⟨x.g, 0, none⟩)) ∧ w'.cell? ⟨b, h * 2 + 1, none⟩ = some (.int .i64 x.n) ∧ w'.cell? ⟨w.heap.size, 0, none⟩ = some (.int .i64 k0) ∧ w'.cell? ⟨w.heap.size, 1, none⟩ = some (.int .i64 k1)) ((repeat' apply And.intro) <;> (first | (go_keep; done) | (go_simp; done))) ((go_at_call 116; refine (HK.out _ zqb).mono ?_; rintro e wa ⟨rfl, hbwa⟩; have hBwa : Below w.heap.size w wa := bup zqb hbwa; have hRwa : Below wr.heap.size wr wa := bup zqb hbwa; have oKa := oK.keep hRwa; have cKa := oKa.cell; have ya0 := (hRwa.cell (p := ⟨b, h * 2, none⟩) (Nat.lt_of_lt_of_le hla z3)).trans y0; have ya1 := (hRwa.cell (p := ⟨b, h * 2 + 1, none⟩) (Nat.lt_of_lt_of_le hla z3)).trans y1))
        go_wp2
        exact ⟨⟨h + 1, j, by go_num, rfl, by omega, by omega, (show Hid _ from loF_next hS.out HAi.out (by rw [HQ.out]; exact hneg)), hhi, oKa, hBwa⟩, by simp [intOf]; omega⟩
      · go_wp2
        go_region_held3 (fun w' => w'.cell? ⟨b, h * 2, none⟩ = some (.pointer (some ⟨x.g, 0, none⟩)) ∧ w'.cell? ⟨b, h * 2 + 1, none⟩ = some (.int .i64 x.n) ∧ w'.cell? ⟨w.heap.size, 0, none⟩ = some (.int .i64 k0) ∧ w'.cell? ⟨w.heap.size, 1, none⟩ = some (.int .i64 k1)) ((repeat' apply And.intro) <;> (first | (go_keep; done) | (go_simp; done))) ((go_at_call 116; refine (HK.out _ zqb).mono ?_; rintro e wa ⟨rfl, hbwa⟩; have hBwa : Below w.heap.size w wa := bup zqb hbwa; have hRwa : Below wr.heap.size wr wa := bup zqb hbwa; have oKa := oK.keep hRwa; have cKa := oKa.cell; have ya0 := (hRwa.cell (p := ⟨b, h * 2, none⟩) (Nat.lt_of_lt_of_le hla z3)).trans y0; have ya1 := (hRwa.cell (p := ⟨b, h * 2 + 1, none⟩) (Nat.lt_of_lt_of_le hla z3)).trans y1))
        go_wp2
        exact ⟨⟨i, h, rfl, rfl, by omega, by omega, hlo, (show Hid _ from hiF_next hS.out HAi.out (by rw [HQ.out]; omega)), oKa, hBwa⟩, by simp [intOf]; omega⟩
    · have hlt' : ¬ (i : Int) < j := by omega
      have HI : Hid (i = idxF f l) := (show _ from idxF_of hS.out (by rw [HL.out]; omega) hlo.out (fun t x ht => hhi.out t x (by omega)))
      by_cases hin : i < n
      · have hin' : (i : Int) < n := by omega
        have hin'' : decide ((i : Int) < n) = true := by simpa using hin
        obtain ⟨h, hhi'⟩ : ∃ h, h = i := ⟨_, rfl⟩
        subst hhi'
        obtain ⟨x, hai⟩ : ∃ x, l[h]? = some x := ⟨_, List.getElem?_eq_getElem (by rw [HL.out]; omega)⟩
        have ca' : ∀ j u, x.cs[j]? = some u → wr.cell? ⟨b, h * 2 + j, none⟩ = some u := fun j u hu => (hB3.cell (p := ⟨b, h * 2 + j, none⟩) hla).trans (HA'.out h x j u hai hu)
        have y0 : wr.cell? ⟨b, h * 2, none⟩ = some (.pointer (some ⟨x.g, 0, none⟩)) := ca' 0 _ rfl
        have y1 : wr.cell? ⟨b, h * 2 + 1, none⟩ = some (.int .i64 x.n) := ca' 1 _ rfl
        have HK : Hid (∀ W : World, Below w.heap.size w W → Calls Tryz.prog 116 #[.agg #[.pointer (some ⟨x.g, 0, none⟩), .int .i64 x.n], .agg #[.int .i64 k0, .int .i64 k1]] W fun e w' => e = .returned (.int .i64 (f x)) ∧ Below W.heap.size W w') := (show _ from fun W hb => HKf.out W hb x (List.mem_of_getElem? hai))
        have HF : Hid (hasF f l = decide (f x = 0)) := (show _ from idx_has hS.out (by rw [← HI.out]; exact hai))
        clear ca' hai
        obtain ⟨q, hq⟩ : ∃ q : Int, f x = q := ⟨_, rfl⟩
        rw [hq] at HK HF
        clear hq
        by_cases hz : q = 0
        · subst hz
          go_wp2
          go_region_held3 (fun w' => w'.cell? ⟨b, h * 2, none⟩ = some (.pointer (some ⟨x.g, 0, none⟩)) ∧ w'.cell? ⟨b, h * 2 + 1, none⟩ = some (.int .i64 x.n) ∧ w'.cell? ⟨w.heap.size, 0, none⟩ = some (.int .i64 k0) ∧ w'.cell? ⟨w.heap.size, 1, none⟩ = some (.int .i64 k1)) ((repeat' apply And.intro) <;> (first | (go_keep; done) | (go_simp; done))) ((go_at_call 116; refine (HK.out _ zqb).mono ?_; rintro e wa ⟨rfl, hbwa⟩; have hBwa : Below w.heap.size w wa := bup zqb hbwa; have hRwa : Below wr.heap.size wr wa := bup zqb hbwa; have oKa := oK.keep hRwa; have cKa := oKa.cell; have ya0 := (hRwa.cell (p := ⟨b, h * 2, none⟩) (Nat.lt_of_lt_of_le hla z3)).trans y0; have ya1 := (hRwa.cell (p := ⟨b, h * 2 + 1, none⟩) (Nat.lt_of_lt_of_le hla z3)).trans y1))
          go_wp2
          exact bodyPost_ret (v := .tuple #[.int .i64 h, .bool true]) (by simp [results, Tryz.results115, go_sem]) rfl ⟨by rw [← HI.out, HF.out]; rfl, hBwa⟩
        · have hqb : (q == 0) = false := by simpa using hz
          go_wp2
          go_region_held3 (fun w' => w'.cell? ⟨b, h * 2, none⟩ = some (.pointer (some ⟨x.g, 0, none⟩)) ∧ w'.cell? ⟨b, h * 2 + 1, none⟩ = some (.int .i64 x.n) ∧ w'.cell? ⟨w.heap.size, 0, none⟩ = some (.int .i64 k0) ∧ w'.cell? ⟨w.heap.size, 1, none⟩ = some (.int .i64 k1)) ((repeat' apply And.intro) <;> (first | (go_keep; done) | (go_simp; done))) ((go_at_call 116; refine (HK.out _ zqb).mono ?_; rintro e wa ⟨rfl, hbwa⟩; have hBwa : Below w.heap.size w wa := bup zqb hbwa; have hRwa : Below wr.heap.size wr wa := bup zqb hbwa; have oKa := oK.keep hRwa; have cKa := oKa.cell; have ya0 := (hRwa.cell (p := ⟨b, h * 2, none⟩) (Nat.lt_of_lt_of_le hla z3)).trans y0; have ya1 := (hRwa.cell (p := ⟨b, h * 2 + 1, none⟩) (Nat.lt_of_lt_of_le hla z3)).trans y1))
          go_wp2
          exact bodyPost_ret (v := .tuple #[.int .i64 h, .bool false]) (by simp [results, Tryz.results115, go_sem, hz]) rfl ⟨by rw [← HI.out, HF.out]; simp [hz], hBwa⟩
      · have hin' : ¬ (i : Int) < n := by omega
        have hin'' : decide ((i : Int) < n) = false := by simpa using hin
        have HF : Hid (hasF f l = false) := (show _ from idx_end hS.out (by rw [← HI.out, HL.out]; omega))
        go_wp2
        go_quiet (fail)
        go_wp2
        exact bodyPost_ret (v := .tuple #[.int .i64 i, .bool false]) (by simp [results, Tryz.results115, go_sem]) rfl ⟨by rw [← HI.out, HF.out], by with_reducible (repeat' first | assumption | exact Below.refl _ _ | refine Below.drew ?_ | refine bdrewN ?_ _ | refine Below.setCell ?_ (by first | exact Nat.le_refl _ | (simp; done) | (simp; omega) | omega) _ | refine Below.alloc ?_ (by first | exact Nat.le_refl _ | (simp; done) | (simp; omega) | omega) _)⟩
set_option maxRecDepth 100000 in
theorem bs_nils (w : World) (k0 k1 : Int) :
    Calls Tryz.prog 115 #[.slice none 0 0, .agg #[.int .i64 k0, .int .i64 k1], (.func (.func 116) #[] #[])] w fun e w' => e = .returned (.tuple #[.int .i64 0, .bool false]) ∧ Below w.heap.size w w' := by
  have mixed : Tryz.prog.follows .mixedOrders = true := by kernel_rfl
  go_enter Tryz.func115, Tryz.ntmps115
  go_wp2
  go_loop [9, 10] (fun u v => u = .int .i64 0 ∧ v = .int .i64 0) (fun _ _ => 0)
  case atStart => exact ⟨rfl, rfl⟩
  case round =>
    obtain ⟨rfl, rfl⟩ := hrel
    go_wp2
    go_quiet (fail)
    go_wp2
    exact bodyPost_ret (v := .tuple #[.int .i64 0, .bool false]) (by simp [results, Tryz.results115, go_sem]) rfl ⟨rfl, by with_reducible (repeat' first | assumption | exact Below.refl _ _ | refine Below.drew ?_ | refine bdrewN ?_ _ | refine Below.setCell ?_ (by first | exact Nat.le_refl _ | (simp; done) | (simp; omega) | omega) _ | refine Below.alloc ?_ (by first | exact Nat.le_refl _ | (simp; done) | (simp; omega) | omega) _)⟩
/-- slices.BinarySearchFunc, everywhere. -/
theorem bs_anys (w : World) (v : Value) (l : List Seat) (k0 k1 : Int) (f : Seat → Int) (hv : RowS w v l) (hl : l.length ≤ 4000000000000) (hS : MonoF f l) (HK : (∀ W : World, Below w.heap.size w W → ∀ x ∈ l, Calls Tryz.prog 116 #[.agg #[.pointer (some ⟨x.g, 0, none⟩), .int .i64 x.n], .agg #[.int .i64 k0, .int .i64 k1]] W fun e w' => e = .returned (.int .i64 (f x)) ∧ Below W.heap.size W w')) :
    Calls Tryz.prog 115 #[v, .agg #[.int .i64 k0, .int .i64 k1], (.func (.func 116) #[] #[])] w fun e w' => e = .returned (.tuple #[.int .i64 (idxF f l), .bool (hasF f l)]) ∧ Below w.heap.size w w' := by
  rcases hv.two with ⟨rfl, rfl⟩ | ⟨g, cap, cur, rfl, _, h1, h2, h3, h4, h5, h6⟩
  · exact bs_nils w k0 k1
  · exact bs_ys w g cap l.length l k0 k1 f h1 (row_cellsG Seat.len h2 h6) rfl h3 hl hS HK
end Go.Proofs.YtcjanaldjokllaaGreat
