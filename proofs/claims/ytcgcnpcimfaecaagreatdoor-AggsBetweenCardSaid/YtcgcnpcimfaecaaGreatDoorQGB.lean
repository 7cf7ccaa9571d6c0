/- Plain facts of lists of numbers: the least, the greatest, the sum, the mean, the median; no function. The contracts of slices.Min and Max at numbers, of aggs.least and greatest, of the function that aggs.ofSome gives, and of what ofAll gives of it. New memory alone is made (the row of numbers may be turned). -/
import Derived.Test.YtcgcnpcimfaecaaGreatDoorQGL
namespace Go.Proofs.YtcgcnpcimfaecaaGreatDoor
set_option linter.all false
/-- The quotient of a sum by how many, rounded, halves away from 0. -/
def rdn (s n : Int) : Int := if s < 0 then -((2 * (-s) + n) / (2 * n)) else (2 * s + n) / (2 * n)
theorem div_le_of {a b q : Int} (hb : 0 < b) (h : a < b * (q + 1)) : a / b ≤ q := by
  have := Int.ediv_lt_of_lt_mul hb (by rw [Int.mul_comm]; exact h)
  omega
theorem le_div_of {a b q : Int} (hb : 0 < b) (h : b * q ≤ a) : q ≤ a / b := (Int.le_ediv_iff_mul_le hb).2 (by rw [Int.mul_comm]; exact h)
theorem rdn_bd {s n lo hi : Int} (hn : 0 < n) (h1 : n * lo ≤ s) (h2 : s ≤ n * hi) : lo ≤ rdn s n ∧ rdn s n ≤ hi := by
  have e1 : 2 * n * lo = 2 * (n * lo) := Int.mul_assoc ..
  have e2 : 2 * n * hi = 2 * (n * hi) := Int.mul_assoc ..
  have e3 : 2 * n * (-lo) = -(2 * (n * lo)) := by rw [Int.mul_neg, e1]
  have e4 : 2 * n * (-hi) = -(2 * (n * hi)) := by rw [Int.mul_neg, e2]
  unfold rdn
  split
  · have a1 : (2 * (-s) + n) / (2 * n) ≤ -lo := div_le_of (by omega) (by rw [Int.mul_add, Int.mul_one]; omega)
    have a2 : -hi ≤ (2 * (-s) + n) / (2 * n) := le_div_of (by omega) (by omega)
    omega
  · exact ⟨le_div_of (by omega) (by omega), div_le_of (by omega) (by rw [Int.mul_add, Int.mul_one]; omega)⟩
theorem sum_lohi {lo hi : Int} : ∀ {l : List Int}, (∀ x ∈ l, lo ≤ x ∧ x ≤ hi) → (l.length : Int) * lo ≤ l.sum ∧ l.sum ≤ (l.length : Int) * hi
  | [], _ => by simp
  | x :: r, h => by
    have h1 := sum_lohi (l := r) (fun y hy => h y (List.mem_cons_of_mem _ hy))
    have h2 := h x (List.mem_cons_self ..)
    simp only [List.length_cons, List.sum_cons, Int.natCast_succ, Int.add_mul, Int.one_mul]
    omega
def mnL (l : List Int) : Int := match l with | [] => 0 | x :: r => r.foldl min x
def mxL (l : List Int) : Int := match l with | [] => 0 | x :: r => r.foldl max x
theorem fmin_spec : ∀ (r : List Int) (x : Int), (r.foldl min x = x ∨ r.foldl min x ∈ r) ∧ r.foldl min x ≤ x ∧ ∀ y ∈ r, r.foldl min x ≤ y
  | [], x => ⟨.inl rfl, Int.le_refl _, fun y hy => by cases hy⟩
  | z :: r, x => by
    obtain ⟨h1, h2, h3⟩ := fmin_spec r (min x z)
    simp only [List.foldl_cons]
    refine ⟨?_, by omega, fun y hy => ?_⟩
    · rcases h1 with h1 | h1
      · rw [h1]
        by_cases q : x ≤ z
        · left; omega
        · right; rw [show min x z = z by omega]; exact List.mem_cons_self ..
      · right; exact List.mem_cons_of_mem _ h1
    · rcases List.mem_cons.1 hy with rfl | hy
      · omega
      · exact h3 y hy
theorem fmax_spec : ∀ (r : List Int) (x : Int), (r.foldl max x = x ∨ r.foldl max x ∈ r) ∧ x ≤ r.foldl max x ∧ ∀ y ∈ r, y ≤ r.foldl max x
  | [], x => ⟨.inl rfl, Int.le_refl _, fun y hy => by cases hy⟩
  | z :: r, x => by
    obtain ⟨h1, h2, h3⟩ := fmax_spec r (max x z)
    simp only [List.foldl_cons]
    refine ⟨?_, by omega, fun y hy => ?_⟩
    · rcases h1 with h1 | h1
      · rw [h1]
        by_cases q : z ≤ x
        · left; omega
        · right; rw [show max x z = z by omega]; exact List.mem_cons_self ..
      · right; exact List.mem_cons_of_mem _ h1
    · rcases List.mem_cons.1 hy with rfl | hy
      · omega
      · exact h3 y hy
theorem mn_spec {l : List Int} (h : l ≠ []) : mnL l ∈ l ∧ ∀ y ∈ l, mnL l ≤ y := by
  cases l with
  | nil => exact absurd rfl h
  | cons x r =>
    obtain ⟨h1, h2, h3⟩ := fmin_spec r x
    show r.foldl min x ∈ x :: r ∧ ∀ y ∈ x :: r, r.foldl min x ≤ y
    refine ⟨?_, fun y hy => ?_⟩
    · rcases h1 with h1 | h1
      · rw [h1]; exact List.mem_cons_self ..
      · exact List.mem_cons_of_mem _ h1
    · rcases List.mem_cons.1 hy with rfl | hy
      · exact h2
      · exact h3 y hy
theorem mx_spec {l : List Int} (h : l ≠ []) : mxL l ∈ l ∧ ∀ y ∈ l, y ≤ mxL l := by
  cases l with
  | nil => exact absurd rfl h
  | cons x r =>
    obtain ⟨h1, h2, h3⟩ := fmax_spec r x
    show r.foldl max x ∈ x :: r ∧ ∀ y ∈ x :: r, y ≤ r.foldl max x
    refine ⟨?_, fun y hy => ?_⟩
    · rcases h1 with h1 | h1
      · rw [h1]; exact List.mem_cons_self ..
      · exact List.mem_cons_of_mem _ h1
    · rcases List.mem_cons.1 hy with rfl | hy
      · exact h2
      · exact h3 y hy
theorem srt_perm (l : List Int) : (srt l).Perm l := List.mergeSort_perm ..
theorem srt_mem {l : List Int} {x : Int} : x ∈ srt l ↔ x ∈ l := (srt_perm l).mem_iff
theorem srt_le {l : List Int} : (srt l).Pairwise (fun x y => x ≤ y) := by
  have h := List.pairwise_mergeSort (le := fun x y : Int => decide (x ≤ y)) (fun a b c h1 h2 => by simp at *; omega) (fun a b => by simp; omega) l
  exact h.imp (fun h => by simpa using h)
theorem srt_mono {l : List Int} {i j : Nat} {x y : Int} (h : i ≤ j) (hx : (srt l)[i]? = some x) (hy : (srt l)[j]? = some y) : x ≤ y := by
  obtain ⟨a1, a2⟩ := List.getElem?_eq_some_iff.1 hx
  obtain ⟨b1, b2⟩ := List.getElem?_eq_some_iff.1 hy
  by_cases e : i = j
  · subst e; rw [hx] at hy; injection hy with hy; omega
  · have := List.pairwise_iff_getElem.1 (srt_le (l := l)) i j a1 b1 (by omega)
    omega
theorem srt_0 {l : List Int} {x : Int} (h : (srt l)[0]? = some x) : x = mnL l := by
  have hm : x ∈ l := srt_mem.1 (List.mem_of_getElem? h)
  obtain ⟨h1, h2⟩ := mn_spec (l := l) (fun e => by subst e; cases hm)
  have h3 := h2 x hm
  obtain ⟨j, hj⟩ := List.getElem?_of_mem (srt_mem.2 h1)
  have := srt_mono (Nat.zero_le j) h hj
  omega
theorem srt_last {l : List Int} {n : Nat} {x : Int} (hn : n + 1 = l.length) (h : (srt l)[n]? = some x) : x = mxL l := by
  have hm : x ∈ l := srt_mem.1 (List.mem_of_getElem? h)
  obtain ⟨h1, h2⟩ := mx_spec (l := l) (fun e => by subst e; cases hm)
  have h3 := h2 x hm
  obtain ⟨j, hj⟩ := List.getElem?_of_mem (srt_mem.2 h1)
  have hjl := (List.getElem?_eq_some_iff.1 hj).1
  rw [srt_len] at hjl
  have := srt_mono (show j ≤ n by omega) hj h
  omega
theorem perm_sum {a b : List Int} (h : a.Perm b) : a.sum = b.sum := by
  induction h with
  | nil => rfl
  | cons x _ ih => simp [ih]
  | swap x y l => simp only [List.sum_cons]; omega
  | trans _ _ h1 h2 => exact h1.trans h2
theorem perm_mn {a b : List Int} (h : a.Perm b) : mnL a = mnL b := by
  by_cases e : a = []
  · subst e; rw [List.nil_perm.1 h]
  · have e2 : b ≠ [] := fun q => by subst q; exact e (List.perm_nil.1 h)
    obtain ⟨a1, a2⟩ := mn_spec e
    obtain ⟨b1, b2⟩ := mn_spec e2
    have := b2 _ (h.mem_iff.1 a1)
    have := a2 _ (h.mem_iff.2 b1)
    omega
theorem perm_mx {a b : List Int} (h : a.Perm b) : mxL a = mxL b := by
  by_cases e : a = []
  · subst e; rw [List.nil_perm.1 h]
  · have e2 : b ≠ [] := fun q => by subst q; exact e (List.perm_nil.1 h)
    obtain ⟨a1, a2⟩ := mx_spec e
    obtain ⟨b1, b2⟩ := mx_spec e2
    have := b2 _ (h.mem_iff.1 a1)
    have := a2 _ (h.mem_iff.2 b1)
    omega
theorem perm_srt {a b : List Int} (h : a.Perm b) : srt a = srt b :=
  (((srt_perm a).trans h).trans (srt_perm b).symm).eq_of_pairwise (fun x y _ _ h1 h2 => by omega) srt_le srt_le
/-- The median. -/
def medL (l : List Int) : Int := if l.length % 2 = 0 then rdn ((srt l).getD (l.length / 2 - 1) 0 + (srt l).getD (l.length / 2) 0) 2 else (srt l).getD (l.length / 2) 0
def avgL (l : List Int) : Int := rdn l.sum l.length
theorem getD_mem {l : List Int} {i : Nat} (h : i < l.length) : (srt l).getD i 0 ∈ l := by
  rw [List.getD_eq_getElem?_getD, List.getElem?_eq_getElem (by rw [srt_len]; exact h), Option.getD_some]
  exact srt_mem.1 (List.getElem_mem _)
theorem med_bd {l : List Int} (h : 0 < l.length) {lo hi : Int} (hb : ∀ x ∈ l, lo ≤ x ∧ x ≤ hi) : lo ≤ medL l ∧ medL l ≤ hi := by
  unfold medL
  split
  · have a := hb _ (getD_mem (l := l) (i := l.length / 2 - 1) (by omega))
    have b := hb _ (getD_mem (l := l) (i := l.length / 2) (by omega))
    exact rdn_bd (by omega) (by omega) (by omega)
  · exact hb _ (getD_mem (by omega))
theorem avg_bd {l : List Int} (h : 0 < l.length) {lo hi : Int} (hb : ∀ x ∈ l, lo ≤ x ∧ x ≤ hi) : lo ≤ avgL l ∧ avgL l ≤ hi :=
  have q := sum_lohi hb
  rdn_bd (by omega) q.1 q.2
theorem perm_avg {a b : List Int} (h : a.Perm b) : avgL a = avgL b := by unfold avgL; rw [perm_sum h, h.length_eq]
theorem perm_med {a b : List Int} (h : a.Perm b) : medL a = medL b := by unfold medL; rw [perm_srt h, h.length_eq]
end Go.Proofs.YtcgcnpcimfaecaaGreatDoor
namespace Go.Proofs.YtcgcnpcimfaecaaGreatDoor
open Go.RowKit
set_option linter.all false
/-- A number that may be. -/
def In (x : Int) : Prop := -9223372036854775807 ≤ x ∧ x ≤ 9223372036854775807
theorem In.i64 {x : Int} (h : In x) : I64 x := ⟨by have := h.1; omega, h.2⟩
theorem smin_snoc {l : List Int} {i : Nat} {x : Int} (h : l[i]? = some x) (h1 : 1 ≤ i) : mnL (l.take (i + 1)) = min (mnL (l.take i)) x := by
  rw [List.take_succ, h, Option.toList_some]
  cases l with
  | nil => cases h
  | cons y r =>
    obtain ⟨j, rfl⟩ : ∃ j, i = j + 1 := ⟨i - 1, by omega⟩
    rw [List.take_succ_cons, List.cons_append]
    show (r.take j ++ [x]).foldl min y = min ((r.take j).foldl min y) x
    rw [List.foldl_append]; rfl
theorem smax_snoc {l : List Int} {i : Nat} {x : Int} (h : l[i]? = some x) (h1 : 1 ≤ i) : mxL (l.take (i + 1)) = max (mxL (l.take i)) x := by
  rw [List.take_succ, h, Option.toList_some]
  cases l with
  | nil => cases h
  | cons y r =>
    obtain ⟨j, rfl⟩ : ∃ j, i = j + 1 := ⟨i - 1, by omega⟩
    rw [List.take_succ_cons, List.cons_append]
    show (r.take j ++ [x]).foldl max y = max ((r.take j).foldl max y) x
    rw [List.foldl_append]; rfl
set_option maxRecDepth 100000 in
set_option maxHeartbeats 2000000 in
theorem smin (w : World) (p : Option Addr) (n c : Nat) (l : List Int) (hv : NV w p n l) (h0 : 0 < n) (h40 : n ≤ 1099511627776) : Calls Tryz.prog 117 #[.slice p n c] w fun e w' => e = .returned (.int .i64 (mnL l)) ∧ w' = w := by
  have mixed : Tryz.prog.follows .mixedOrders = true := by kernel_rfl
  have HV : Hid _ := hv
  clear hv
  have hn1 : ¬ (n : Int) < 1 := by omega
  obtain ⟨b0, o0, hp0, hb0, hc0⟩ := HV.out.at_ h0
  subst hp0
  have hl0 : l[0]? = some (l[0]'(by rw [HV.out.len]; exact h0)) := List.getElem?_eq_getElem _
  have y0 := hc0 0 _ hl0
  rw [Nat.add_zero] at y0
  have HA0 : Hid (l.take 1 = [(l[0]'(by rw [HV.out.len]; exact h0))]) := (show _ from by rw [List.take_succ, hl0]; rfl)
  clear hl0 hc0
  revert HA0 y0
  generalize (l[0]'(by rw [HV.out.len]; exact h0)) = x0
  intro y0 HA0
  have h0' : (0 : Int) < n := by omega
  go_enter Tryz.func117, Tryz.ntmps117
  go_wp2
  go_loopw [3, 4] (fun u v w' => ∃ i : Nat, v = .int .i64 i ∧ u = .int .i64 (mnL (l.take i)) ∧ 1 ≤ i ∧ i ≤ n ∧ w' = w) (fun _ v _ => n - (intOf v).toNat)
  case atStart => exact ⟨1, rfl, by rw [HA0.out]; rfl, by omega, by omega, rfl⟩
  case round =>
    obtain ⟨i, rfl, rfl, hi1, hi, rfl⟩ := hrel
    by_cases hlt : i < n
    · have hlt' : (i : Int) < n := by omega
      have hai : l[i]? = some (l[i]'(by rw [HV.out.len]; exact hlt)) := List.getElem?_eq_getElem _
      obtain ⟨b, o, hp, hb, hc⟩ := HV.out.at_ h0
      injection hp with hp
      injection hp with hp1 hp2 _
      subst hp1 hp2
      have cx := hc i _ hai
      have HAi : Hid (mnL (l.take (i + 1)) = min (mnL (l.take i)) (l[i]'(by rw [HV.out.len]; exact hlt))) := (show _ from smin_snoc hai hi1)
      clear hai hc
      revert HAi cx
      generalize (l[i]'(by rw [HV.out.len]; exact hlt)) = x
      intro cx HAi
      go_wp2
      exact ⟨⟨i + 1, by go_num, by rw [HAi.out], by omega, by omega, by first | rfl | trivial⟩, by simp [intOf]; omega⟩
    · have hlt' : ¬ (i : Int) < n := by omega
      have e : l.take i = l := List.take_of_length_le (by rw [HV.out.len]; omega)
      go_wp2
      exact bodyPost_ret (v := .int .i64 (mnL l)) (by simp [results, Tryz.results117, go_sem]) rfl ⟨rfl, rfl⟩
set_option maxRecDepth 100000 in
set_option maxHeartbeats 2000000 in
theorem smax (w : World) (p : Option Addr) (n c : Nat) (l : List Int) (hv : NV w p n l) (h0 : 0 < n) (h40 : n ≤ 1099511627776) : Calls Tryz.prog 118 #[.slice p n c] w fun e w' => e = .returned (.int .i64 (mxL l)) ∧ w' = w := by
  have mixed : Tryz.prog.follows .mixedOrders = true := by kernel_rfl
  have HV : Hid _ := hv
  clear hv
  have hn1 : ¬ (n : Int) < 1 := by omega
  obtain ⟨b0, o0, hp0, hb0, hc0⟩ := HV.out.at_ h0
  subst hp0
  have hl0 : l[0]? = some (l[0]'(by rw [HV.out.len]; exact h0)) := List.getElem?_eq_getElem _
  have y0 := hc0 0 _ hl0
  rw [Nat.add_zero] at y0
  have HA0 : Hid (l.take 1 = [(l[0]'(by rw [HV.out.len]; exact h0))]) := (show _ from by rw [List.take_succ, hl0]; rfl)
  clear hl0 hc0
  revert HA0 y0
  generalize (l[0]'(by rw [HV.out.len]; exact h0)) = x0
  intro y0 HA0
  have h0' : (0 : Int) < n := by omega
  go_enter Tryz.func118, Tryz.ntmps118
  go_wp2
  go_loopw [3, 4] (fun u v w' => ∃ i : Nat, v = .int .i64 i ∧ u = .int .i64 (mxL (l.take i)) ∧ 1 ≤ i ∧ i ≤ n ∧ w' = w) (fun _ v _ => n - (intOf v).toNat)
  case atStart => exact ⟨1, rfl, by rw [HA0.out]; rfl, by omega, by omega, rfl⟩
  case round =>
    obtain ⟨i, rfl, rfl, hi1, hi, rfl⟩ := hrel
    by_cases hlt : i < n
    · have hlt' : (i : Int) < n := by omega
      have hai : l[i]? = some (l[i]'(by rw [HV.out.len]; exact hlt)) := List.getElem?_eq_getElem _
      obtain ⟨b, o, hp, hb, hc⟩ := HV.out.at_ h0
      injection hp with hp
      injection hp with hp1 hp2 _
      subst hp1 hp2
      have cx := hc i _ hai
      have HAi : Hid (mxL (l.take (i + 1)) = max (mxL (l.take i)) (l[i]'(by rw [HV.out.len]; exact hlt))) := (show _ from smax_snoc hai hi1)
      clear hai hc
      revert HAi cx
      generalize (l[i]'(by rw [HV.out.len]; exact hlt)) = x
      intro cx HAi
      go_wp2
      exact ⟨⟨i + 1, by go_num, by rw [HAi.out], by omega, by omega, by first | rfl | trivial⟩, by simp [intOf]; omega⟩
    · have hlt' : ¬ (i : Int) < n := by omega
      have e : l.take i = l := List.take_of_length_le (by rw [HV.out.len]; omega)
      go_wp2
      exact bodyPost_ret (v := .int .i64 (mxL l)) (by simp [results, Tryz.results118, go_sem]) rfl ⟨rfl, rfl⟩
theorem least_any (w : World) (p : Option Addr) (n c : Nat) (l : List Int) (hv : NV w p n l) (h0 : 0 < n) (h40 : n ≤ 1099511627776) (hI : ∀ x ∈ l, In x) : Calls Tryz.prog 81 #[.slice p n c] w fun e w' => e = .returned (.agg #[.int .i64 (1), .int .i64 ((mnL l)), .string ⟨#[]⟩, .bool false, .int .i64 (0)]) ∧ Below w.heap.size w w' := by
  have hne : l ≠ [] := fun e => by have := hv.len; rw [e] at this; simp at this; omega
  have hx : Hid (In (mnL l)) := (show _ from hI _ (mn_spec hne).1)
  have HV : Hid _ := hv
  clear hv
  go_enter Tryz.func81, Tryz.ntmps81
  go_wp2_with (first | (go_at_call 117; refine (smin _ _ _ _ l (NV.keep HV.out (by with_reducible (repeat' first | assumption | exact Below.refl _ _ | refine Below.drew ?_ | refine bdrewN ?_ _ | refine Below.setCell ?_ (by first | exact Nat.le_refl _ | (simp; done) | (simp; omega) | omega) _ | refine Below.alloc ?_ (by first | exact Nat.le_refl _ | (simp; done) | (simp; omega) | omega) _))) h0 h40).mono ?_; rintro e w5 ⟨rfl, e5⟩; rw [e5]; clear e5 w5) | (go_at_call 115; refine (num_t _ _ hx.out.i64 (by have := hx.out.1; omega)).mono ?_; rintro e wa ⟨rfl, hbwa⟩; have hBwa : Below w.heap.size w wa := bup (by with_reducible (repeat' first | assumption | exact Below.refl _ _ | refine Below.drew ?_ | refine bdrewN ?_ _ | refine Below.setCell ?_ (by first | exact Nat.le_refl _ | (simp; done) | (simp; omega) | omega) _ | refine Below.alloc ?_ (by first | exact Nat.le_refl _ | (simp; done) | (simp; omega) | omega) _)) hbwa; have zwa := hBwa.size; have o0wa : Own wa (w.heap.size) #[.int .i64 0, .int .i64 0, .string ⟨#[]⟩, .bool false, .int .i64 0] := Own.keep (by with_reducible (repeat' first | assumption | refine Own.drew ?_ | refine Own.drewN ?_ _ | (refine Own.at ?_; first | rfl | (simp; done)) | refine Own.past ?_ _)) hbwa; have c0 := o0wa.cell; have f0 := o0wa.fro; have l0 := o0wa.lt))
  exact bodyPost_ret (v := (.agg #[.int .i64 (1), .int .i64 ((mnL l)), .string ⟨#[]⟩, .bool false, .int .i64 (0)])) (by simp [results, Tryz.results81, go_sem, c0, f0, l0]) rfl ⟨rfl, by with_reducible (repeat' first | assumption | exact Below.refl _ _ | refine Below.drew ?_ | refine bdrewN ?_ _ | refine Below.setCell ?_ (by first | exact Nat.le_refl _ | (simp; done) | (simp; omega) | omega) _ | refine Below.alloc ?_ (by first | exact Nat.le_refl _ | (simp; done) | (simp; omega) | omega) _)⟩
theorem great_any (w : World) (p : Option Addr) (n c : Nat) (l : List Int) (hv : NV w p n l) (h0 : 0 < n) (h40 : n ≤ 1099511627776) (hI : ∀ x ∈ l, In x) : Calls Tryz.prog 82 #[.slice p n c] w fun e w' => e = .returned (.agg #[.int .i64 (1), .int .i64 ((mxL l)), .string ⟨#[]⟩, .bool false, .int .i64 (0)]) ∧ Below w.heap.size w w' := by
  have hne : l ≠ [] := fun e => by have := hv.len; rw [e] at this; simp at this; omega
  have hx : Hid (In (mxL l)) := (show _ from hI _ (mx_spec hne).1)
  have HV : Hid _ := hv
  clear hv
  go_enter Tryz.func82, Tryz.ntmps82
  go_wp2_with (first | (go_at_call 118; refine (smax _ _ _ _ l (NV.keep HV.out (by with_reducible (repeat' first | assumption | exact Below.refl _ _ | refine Below.drew ?_ | refine bdrewN ?_ _ | refine Below.setCell ?_ (by first | exact Nat.le_refl _ | (simp; done) | (simp; omega) | omega) _ | refine Below.alloc ?_ (by first | exact Nat.le_refl _ | (simp; done) | (simp; omega) | omega) _))) h0 h40).mono ?_; rintro e w5 ⟨rfl, e5⟩; rw [e5]; clear e5 w5) | (go_at_call 115; refine (num_t _ _ hx.out.i64 (by have := hx.out.1; omega)).mono ?_; rintro e wa ⟨rfl, hbwa⟩; have hBwa : Below w.heap.size w wa := bup (by with_reducible (repeat' first | assumption | exact Below.refl _ _ | refine Below.drew ?_ | refine bdrewN ?_ _ | refine Below.setCell ?_ (by first | exact Nat.le_refl _ | (simp; done) | (simp; omega) | omega) _ | refine Below.alloc ?_ (by first | exact Nat.le_refl _ | (simp; done) | (simp; omega) | omega) _)) hbwa; have zwa := hBwa.size; have o0wa : Own wa (w.heap.size) #[.int .i64 0, .int .i64 0, .string ⟨#[]⟩, .bool false, .int .i64 0] := Own.keep (by with_reducible (repeat' first | assumption | refine Own.drew ?_ | refine Own.drewN ?_ _ | (refine Own.at ?_; first | rfl | (simp; done)) | refine Own.past ?_ _)) hbwa; have c0 := o0wa.cell; have f0 := o0wa.fro; have l0 := o0wa.lt))
  exact bodyPost_ret (v := (.agg #[.int .i64 (1), .int .i64 ((mxL l)), .string ⟨#[]⟩, .bool false, .int .i64 (0)])) (by simp [results, Tryz.results82, go_sem, c0, f0, l0]) rfl ⟨rfl, by with_reducible (repeat' first | assumption | exact Below.refl _ _ | refine Below.drew ?_ | refine bdrewN ?_ _ | refine Below.setCell ?_ (by first | exact Nat.le_refl _ | (simp; done) | (simp; omega) | omega) _ | refine Below.alloc ?_ (by first | exact Nat.le_refl _ | (simp; done) | (simp; omega) | omega) _)⟩
set_option maxRecDepth 100000 in
theorem ofs_0 (cb : Nat) (p : Option Addr) (c : Nat) (w : World) : Calls Tryz.prog 116 #[.slice p 0 c, .pointer (some ⟨cb, 0, none⟩)] w fun e w' => e = .returned (.agg #[.int .i64 (4), .int .i64 (0), .string ⟨#[]⟩, .bool false, .int .i64 (6)]) ∧ Below w.heap.size w w' := by
  go_enter Tryz.func116, Tryz.ntmps116
  go_wp2_with (go_at_call 27; refine (err_ok _ _ (by decide) (by decide)).mono ?_; rintro e wa ⟨rfl, hbwa⟩; have hBwa : Below w.heap.size w wa := bup (by with_reducible (repeat' first | assumption | exact Below.refl _ _ | refine Below.drew ?_ | refine bdrewN ?_ _ | refine Below.setCell ?_ (by first | exact Nat.le_refl _ | (simp; done) | (simp; omega) | omega) _ | refine Below.alloc ?_ (by first | exact Nat.le_refl _ | (simp; done) | (simp; omega) | omega) _)) hbwa; have zwa := hBwa.size; have o0wa : Own wa (w.heap.size) #[.int .i64 0, .int .i64 0, .string ⟨#[]⟩, .bool false, .int .i64 0] := Own.keep (by with_reducible (repeat' first | assumption | refine Own.drew ?_ | refine Own.drewN ?_ _ | (refine Own.at ?_; first | rfl | (simp; done)) | refine Own.past ?_ _)) hbwa; have c0 := o0wa.cell; have f0 := o0wa.fro; have l0 := o0wa.lt)
  exact bodyPost_ret (v := (.agg #[.int .i64 (4), .int .i64 (0), .string ⟨#[]⟩, .bool false, .int .i64 (6)])) (by simp [results, Tryz.results116, go_sem, c0, f0, l0]) rfl ⟨rfl, by with_reducible (repeat' first | assumption | exact Below.refl _ _ | refine Below.drew ?_ | refine bdrewN ?_ _ | refine Below.setCell ?_ (by first | exact Nat.le_refl _ | (simp; done) | (simp; omega) | omega) _ | refine Below.alloc ?_ (by first | exact Nat.le_refl _ | (simp; done) | (simp; omega) | omega) _)⟩
set_option maxRecDepth 100000 in
theorem ofs_y (kk cb : Nat) (hcf : ∀ (args : Array Value) (W : World), (callFunc kk args).run Tryz.prog W = .ok (.enter kk args) W) (p : Option Addr) (m c : Nat) (w : World) (h0 : 0 < m) (hbo : Own w cb #[.func (.func kk) #[] #[]]) (hg : ∀ g, (Value.slice p m c).ownBlock = some g → g < w.heap.size) (rt rn : Int) (rs : ByteArray) (rb : Bool) (rc : Int)
    (HK : Hid (∀ (W : World), Below w.heap.size w W → Calls Tryz.prog kk #[.slice p m c] W fun e w' => e = .returned (.agg #[.int .i64 rt, .int .i64 rn, .string rs, .bool rb, .int .i64 rc]) ∧ Mut (fun q => (Value.slice p m c).ownBlock = some q) W w')) : Calls Tryz.prog 116 #[.slice p m c, .pointer (some ⟨cb, 0, none⟩)] w fun e w' => e = .returned (.agg #[.int .i64 rt, .int .i64 rn, .string rs, .bool rb, .int .i64 rc]) ∧ Mut (fun q => (Value.slice p m c).ownBlock = some q) w w' := by
  have hbl := hbo.lt
  have hbc := hbo.cell 0
  have hm : ((m : Int) == 0) = false := by simp; omega
  have hm2 : ¬ (m : Int) = 0 := by omega
  have HG : Hid _ := hg
  go_enter Tryz.func116, Tryz.ntmps116
  go_wp2_with (refine (HK.out _ (by with_reducible (repeat' first | assumption | exact Below.refl _ _ | refine Below.drew ?_ | refine bdrewN ?_ _ | refine Below.setCell ?_ (by first | exact Nat.le_refl _ | (simp; done) | (simp; omega) | omega) _ | refine Below.alloc ?_ (by first | exact Nat.le_refl _ | (simp; done) | (simp; omega) | omega) _))).mono ?_; rintro e wb ⟨rfl, hmt⟩; have hM : Mut (fun q => (Value.slice p m c).ownBlock = some q) w wb := Mut.call (Mut.alloc (Mut.refl _ w) _) hmt (fun b hb => .inl hb); have o0 : Own wb w.heap.size #[.int .i64 0, .int .i64 0, .string ⟨#[]⟩, .bool false, .int .i64 0] := Own.mut (by with_reducible (repeat' first | assumption | refine Own.drew ?_ | refine Own.drewN ?_ _ | (refine Own.at ?_; first | rfl | (simp; done)) | refine Own.past ?_ _)) hmt (fun h => by have := HG.out _ h; omega); have c0 := o0.cell; have f0 := o0.fro; have l0 := o0.lt)
  exact bodyPost_ret (v := (.agg #[.int .i64 rt, .int .i64 rn, .string rs, .bool rb, .int .i64 rc])) (by simp [results, Tryz.results116, go_sem, c0, f0, l0]) rfl ⟨rfl, by with_reducible (repeat' first | assumption | refine Mut.drew ?_ | refine Mut.set ?_ (.inr (by first | exact Nat.le_refl _ | (simp; done))) _)⟩
set_option maxRecDepth 100000 in
set_option maxHeartbeats 2000000 in
theorem ofb_any (k bb cb : Nat) (hcf : ∀ (args : Array Value) (W : World), (callFunc k args).run Tryz.prog W = .ok (.enter k args) W) (w : World) (vq up : Option Addr) (vn vc um uc : Nat) (x : Int) (L : List (Ag × List En)) (hv : AV w (.slice vq vn vc) (L.map Prod.fst)) (h40 : L.length ≤ 1099511627776) (hE : Hid (∀ p ∈ L, AgE w p)) (hM : (itms L).length ≤ 1099511627776) (hbo : Own w bb #[.func (.func k) #[] #[.pointer (some ⟨cb, 0, none⟩)]]) (rt rn : Int) (rs : ByteArray) (rb : Bool) (rc : Int)
    (HK : Hid (∀ (W : World) (p : Option Addr) (m c : Nat), Below w.heap.size w W → Hid (NV W p m (numsI (itms L)) ∧ m ≤ c ∧ Row icell 1 2 W (w.heap.size + 2) (.slice p m c) (numsI (itms L))) → Calls Tryz.prog k #[.slice p m c, .pointer (some ⟨cb, 0, none⟩)] W fun e w' => e = .returned (.agg #[.int .i64 rt, .int .i64 rn, .string rs, .bool rb, .int .i64 rc]) ∧ Mut (fun q => (Value.slice p m c).ownBlock = some q) W w')) :
    Calls Tryz.prog 110 #[.agg #[.slice vq vn vc, .slice up um uc, .int .i64 x], .pointer (some ⟨bb, 0, none⟩)] w fun e w' => e = .returned (.agg #[.int .i64 rt, .int .i64 rn, .string rs, .bool rb, .int .i64 rc]) ∧ Below w.heap.size w w' := by
  have mixed : Tryz.prog.follows .mixedOrders = true := by kernel_rfl
  have HV : Hid (AV w (.slice vq vn vc) (L.map Prod.fst)) := hv
  have hbl := hbo.lt
  have hbc := hbo.cell 0
  clear hv
  go_enter Tryz.func110, Tryz.ntmps110
  go_wp2
  go_region_held3 (fun w' => w'.cell? ⟨bb, 0, none⟩ = some (.func (.func k) #[] #[.pointer (some ⟨cb, 0, none⟩)]) ∧ w'.cell? ⟨w.heap.size, 0, none⟩ = some (.slice vq vn vc)) ((repeat' apply And.intro) <;> (first | (go_keep; done) | (go_simp; done))) (first | (go_at_call 111; refine (nof_v _ _ _ _ L (View.keep HV.out (by with_reducible (repeat' first | assumption | exact Below.refl _ _ | refine Below.drew ?_ | refine bdrewN ?_ _ | refine Below.setCell ?_ (by first | exact Nat.le_refl _ | (simp; done) | (simp; omega) | omega) _ | refine Below.alloc ?_ (by first | exact Nat.le_refl _ | (simp; done) | (simp; omega) | omega) _))) h40 (show Hid _ from fun p hp => (hE.out p hp).keep (by with_reducible (repeat' first | assumption | exact Below.refl _ _ | refine Below.drew ?_ | refine bdrewN ?_ _ | refine Below.setCell ?_ (by first | exact Nat.le_refl _ | (simp; done) | (simp; omega) | omega) _ | refine Below.alloc ?_ (by first | exact Nat.le_refl _ | (simp; done) | (simp; omega) | omega) _))) hM).mono ?_; rintro e wa ⟨⟨p, m, c, rfl, hnv⟩, hbwa⟩; have hBwa : Below w.heap.size w wa := bup (by with_reducible (repeat' first | assumption | exact Below.refl _ _ | refine Below.drew ?_ | refine bdrewN ?_ _ | refine Below.setCell ?_ (by first | exact Nat.le_refl _ | (simp; done) | (simp; omega) | omega) _ | refine Below.alloc ?_ (by first | exact Nat.le_refl _ | (simp; done) | (simp; omega) | omega) _)) hbwa; have zwa := hBwa.size; have o0wa : Own wa (w.heap.size) #[.slice vq vn vc, .slice up um uc, .int .i64 x] := Own.keep (by with_reducible (repeat' first | assumption | refine Own.drew ?_ | refine Own.drewN ?_ _ | (refine Own.at ?_; first | rfl | (simp; done)) | refine Own.past ?_ _)) hbwa; have c0 := o0wa.cell; have f0 := o0wa.fro; have l0 := o0wa.lt; have o1wa : Own wa (w.heap.size + 1) #[.int .i64 0, .int .i64 0, .string ⟨#[]⟩, .bool false, .int .i64 0] := Own.keep (by with_reducible (repeat' first | assumption | refine Own.drew ?_ | refine Own.drewN ?_ _ | (refine Own.at ?_; first | rfl | (simp; done)) | refine Own.past ?_ _)) hbwa; have c1 := o1wa.cell; have f1 := o1wa.fro; have l1 := o1wa.lt; have hnv2 : Hid (NV wa p m (numsI (itms L)) ∧ m ≤ c ∧ Row icell 1 2 wa (w.heap.size + 2) (.slice p m c) (numsI (itms L))) := (show NV wa p m (numsI (itms L)) ∧ m ≤ c ∧ Row icell 1 2 wa (w.heap.size + 2) (.slice p m c) (numsI (itms L)) from ⟨hnv.out.1, hnv.out.2.1, Row.mono hnv.out.2.2 (by first | (simp; done) | (simp; omega))⟩); have hgb : Hid (∀ g, (Value.slice p m c).ownBlock = some g → w.heap.size + 2 ≤ g) := (show ∀ g, (Value.slice p m c).ownBlock = some g → w.heap.size + 2 ≤ g from fun g hg => (Row.lt hnv2.out.2.2 g hg).1); have cb := (hBwa.cell (p := ⟨bb, 0, none⟩) hbl).trans (hbo.cell 0)) | (with_reducible refine (HK.out _ _ _ _ hBwa hnv2).mono ?_; rintro e wb ⟨rfl, hmt⟩; have hBwb : Below w.heap.size w wb := Below.ofMut hBwa hmt zwa (fun b hb => Nat.le_trans (by omega) (hgb.out b hb)); have zwb := hBwb.size; have o0wb : Own wb (w.heap.size) #[.slice vq vn vc, .slice up um uc, .int .i64 x] := Own.mut o0wa hmt (fun h => by have := hgb.out _ h; omega); have c0 := o0wb.cell; have f0 := o0wb.fro; have l0 := o0wb.lt; have o1wb : Own wb (w.heap.size + 1) #[.int .i64 0, .int .i64 0, .string ⟨#[]⟩, .bool false, .int .i64 0] := Own.mut o1wa hmt (fun h => by have := hgb.out _ h; omega); have c1 := o1wb.cell; have f1 := o1wb.fro; have l1 := o1wb.lt; have cb2 := (hBwb.cell (p := ⟨bb, 0, none⟩) hbl).trans (hbo.cell 0)))
  go_wp2
  exact bodyPost_ret (v := (.agg #[.int .i64 rt, .int .i64 rn, .string rs, .bool rb, .int .i64 rc])) (by simp [results, Tryz.results110, go_sem, c1, f1, l1]) rfl ⟨rfl, by with_reducible (repeat' first | assumption | exact Below.refl _ _ | refine Below.drew ?_ | refine bdrewN ?_ _ | refine Below.setCell ?_ (by first | exact Nat.le_refl _ | (simp; done) | (simp; omega) | omega) _ | refine Below.alloc ?_ (by first | exact Nat.le_refl _ | (simp; done) | (simp; omega) | omega) _)⟩
end Go.Proofs.YtcgcnpcimfaecaaGreatDoor
