/- The contracts of slices.BinarySearchFunc at an ordered list of stamps, and of notAbove: how many are not above a number. New memory alone is made. -/
import Derived.Test.YtmajbophgdimlaaKO
namespace Go.Proofs.Ytmajbophgdimlaa
open Go.RowKit
set_option linter.all false
/-- A stamp of a list: its block, and its number. -/
structure Sk where
  g : Nat
  a : Int
def lowS (l : List Sk) (k : Int) : Nat := l.countP fun x => decide (x.a < k)
theorem low_of {l : List Sk} {k : Int} : ∀ {i : Nat}, i ≤ l.length → (∀ t x, t < i → l[t]? = some x → x.a < k) → (∀ t x, i ≤ t → l[t]? = some x → k ≤ x.a) → i = lowS l k := by
  unfold lowS
  induction l with
  | nil => intro i hi _ _; simpa using hi
  | cons y ys ih =>
    intro i hi hlo hhi
    rw [List.countP_cons]
    cases i with
    | zero =>
      have h0 := hhi 0 y (Nat.le_refl 0) rfl
      have h1 := ih (i := 0) (Nat.zero_le _) (fun t x ht => absurd ht (Nat.not_lt_zero _)) (fun t x _ hx => hhi (t + 1) x (Nat.zero_le _) (by simpa using hx))
      rw [← h1, if_neg (by simp; omega)]
    | succ j =>
      have h0 := hlo 0 y (Nat.succ_pos _) rfl
      have h1 := ih (i := j) (by simpa using hi) (fun t x ht hx => hlo (t + 1) x (by omega) (by simpa using hx)) (fun t x ht hx => hhi (t + 1) x (by omega) (by simpa using hx))
      rw [← h1, if_pos (by simpa using h0)]
abbrev SrtK (l : List Sk) : Prop := l.Pairwise fun x y => x.a ≤ y.a
theorem lo_next {l : List Sk} {k : Int} {h : Nat} {x : Sk} (hS : SrtK l) (hx : l[h]? = some x) (hc : x.a < k) : ∀ t y, t < h + 1 → l[t]? = some y → y.a < k := by
  intro t y ht hy
  by_cases e : t = h
  · subst e; rw [hx] at hy; injection hy with hy; subst hy; exact hc
  · have h1 := (List.getElem?_eq_some_iff.1 hx)
    have h2 := (List.getElem?_eq_some_iff.1 hy)
    obtain ⟨l1, rfl⟩ := h1
    obtain ⟨l2, rfl⟩ := h2
    have := List.pairwise_iff_getElem.1 hS t h l2 l1 (by omega)
    omega
theorem hi_next {l : List Sk} {k : Int} {h : Nat} {x : Sk} (hS : SrtK l) (hx : l[h]? = some x) (hc : k ≤ x.a) : ∀ t y, h ≤ t → l[t]? = some y → k ≤ y.a := by
  intro t y ht hy
  by_cases e : t = h
  · subst e; rw [hx] at hy; injection hy with hy; subst hy; exact hc
  · have h1 := (List.getElem?_eq_some_iff.1 hx)
    have h2 := (List.getElem?_eq_some_iff.1 hy)
    obtain ⟨l1, rfl⟩ := h1
    obtain ⟨l2, rfl⟩ := h2
    have := List.pairwise_iff_getElem.1 hS h t l1 l2 (by omega)
    omega
set_option maxRecDepth 100000 in
set_option maxHeartbeats 2000000 in
theorem kbs_y (w : World) (b cp n : Nat) (l : List Sk) (k : Int) (hla : b < w.heap.size) (HA : ∀ i x, l[i]? = some x → w.cell? ⟨b, i, none⟩ = some (.pointer (some ⟨x.g, 0, none⟩)) ∧ x.g < w.heap.size ∧ w.cell? ⟨x.g, 0, none⟩ = some (.int .i64 x.a)) (hn : l.length = n) (hc : n ≤ cp) (hl : n ≤ 1099511627776) (hS : Hid (SrtK l)) :
    Calls Try.prog 25 #[.slice (some ⟨b, 0, none⟩) n cp, .int .i64 k, (.func (.func 26) #[] #[])] w fun e w' => (∃ f, e = .returned (.tuple #[.int .i64 (lowS l k), .bool f])) ∧ Below w.heap.size w w' := by
  have HA' : Hid _ := HA
  have HL : Hid (l.length = n) := hn
  clear HA hn
  have mixed : Try.prog.follows .mixedOrders = true := by kernel_rfl
  go_enter Try.func25, Try.ntmps25
  go_wp2
  go_loopw [9, 10] (fun u v w' => ∃ (i j : Nat), u = .int .i64 i ∧ v = .int .i64 j ∧ i ≤ j ∧ j ≤ n ∧ Hid (∀ t x, t < i → l[t]? = some x → x.a < k) ∧ Hid (∀ t x, j ≤ t → l[t]? = some x → k ≤ x.a) ∧ Below w.heap.size w w') (fun u v _ => (intOf v).toNat - (intOf u).toNat)
  case atStart => exact ⟨0, n, rfl, rfl, by omega, by omega, (show Hid _ from fun t x h => absurd h (Nat.not_lt_zero _)), (show Hid _ from fun t x h hx => absurd (List.getElem?_eq_some_iff.1 hx).1 (by rw [HL.out]; omega)), by with_reducible (repeat' first | assumption | exact Below.refl _ _ | refine Below.drew ?_ | refine bdrewN ?_ _ | refine Below.setCell ?_ (by first | exact Nat.le_refl _ | (simp; done) | (simp; omega) | omega) _ | refine Below.alloc ?_ (by first | exact Nat.le_refl _ | (simp; done) | (simp; omega) | omega) _)⟩
  case round =>
    obtain ⟨i, j, rfl, rfl, hij, hjn, hlo, hhi, hB3⟩ := hrel
    have z3 := hB3.size
    by_cases hlt : i < j
    · have hlt' : (i : Int) < j := by omega
      obtain ⟨h, hh⟩ : ∃ h : Nat, h = (i + j) / 2 := ⟨_, rfl⟩
      have h1 : i ≤ h := by omega
      have h2 : h < j := by omega
      have h3 : (h : Int) < n := by omega
      have h4 : (0 : Int) ≤ h := by omega
      have hd1 : ((i : Int) + j) / 2 = h := by omega
      have hd2 : ((i : Int) + j) >>> 1 = h := by rw [Int.shiftRight_eq_div_pow]; omega
      have hai : l[h]? = some (l[h]'(by rw [HL.out]; omega)) := List.getElem?_eq_getElem _
      have ca' := HA'.out h _ hai
      have HAi : Hid _ := hai
      revert ca' HAi
      clear hai
      generalize (l[h]'(by rw [HL.out]; omega)) = x
      intro ca' HAi
      clear hh
      obtain ⟨q0, q1, q2⟩ := ca'
      have y0 := (hB3.cell (p := ⟨b, h, none⟩) hla).trans q0
      have y1 := (hB3.cell (p := ⟨x.g, 0, none⟩) q1).trans q2
      have y2 : x.g < wr.heap.size := by omega
      clear q0 q1 q2
      obtain ⟨q, hq⟩ : ∃ q : Int, cmpI x.a k = q := ⟨_, rfl⟩
      have HK : Hid (∀ W : World, x.g < W.heap.size → W.cell? ⟨x.g, 0, none⟩ = some (.int .i64 x.a) → Calls Try.prog 26 #[.pointer (some ⟨x.g, 0, none⟩), .int .i64 k] W fun e w' => e = .returned (.int .i64 q) ∧ Gr W w') := (show _ from fun W g1 g2 => by rw [← hq]; exact knot1_any x.g x.a k W g1 g2)
      have HQ : Hid (cmpI x.a k = q) := hq
      clear hq
      by_cases hneg : q < 0
      · go_wp2_with (go_at_call 26; refine (HK.out _ (by first | assumption | omega) (by first | assumption | (go_simp; done) | simp_all)).mono ?_; rintro e wa ⟨rfl, hgr⟩; have hBwa : Below w.heap.size w wa := bup (by with_reducible (repeat' first | assumption | exact Below.refl _ _ | refine Below.drew ?_ | refine bdrewN ?_ _ | refine Below.setCell ?_ (by first | exact Nat.le_refl _ | (simp; done) | (simp; omega) | omega) _ | refine Below.alloc ?_ (by first | exact Nat.le_refl _ | (simp; done) | (simp; omega) | omega) _)) hgr.below; clear hgr; have zwa := hBwa.size)
        exact ⟨⟨h + 1, j, by go_num, rfl, by omega, by omega, (show Hid _ from lo_next hS.out HAi.out ((cmpI_neg _ _).1 (by rw [HQ.out]; exact hneg))), hhi, by with_reducible (repeat' first | assumption | exact Below.refl _ _ | refine Below.drew ?_ | refine bdrewN ?_ _ | refine Below.setCell ?_ (by first | exact Nat.le_refl _ | (simp; done) | (simp; omega) | omega) _ | refine Below.alloc ?_ (by first | exact Nat.le_refl _ | (simp; done) | (simp; omega) | omega) _)⟩, by simp [intOf]; omega⟩
      · go_wp2_with (go_at_call 26; refine (HK.out _ (by first | assumption | omega) (by first | assumption | (go_simp; done) | simp_all)).mono ?_; rintro e wa ⟨rfl, hgr⟩; have hBwa : Below w.heap.size w wa := bup (by with_reducible (repeat' first | assumption | exact Below.refl _ _ | refine Below.drew ?_ | refine bdrewN ?_ _ | refine Below.setCell ?_ (by first | exact Nat.le_refl _ | (simp; done) | (simp; omega) | omega) _ | refine Below.alloc ?_ (by first | exact Nat.le_refl _ | (simp; done) | (simp; omega) | omega) _)) hgr.below; clear hgr; have zwa := hBwa.size)
        exact ⟨⟨i, h, rfl, rfl, by omega, by omega, hlo, (show Hid _ from hi_next hS.out HAi.out (Int.not_lt.1 (fun q => absurd ((cmpI_neg _ _).2 q) (by rw [HQ.out]; omega)))), by with_reducible (repeat' first | assumption | exact Below.refl _ _ | refine Below.drew ?_ | refine bdrewN ?_ _ | refine Below.setCell ?_ (by first | exact Nat.le_refl _ | (simp; done) | (simp; omega) | omega) _ | refine Below.alloc ?_ (by first | exact Nat.le_refl _ | (simp; done) | (simp; omega) | omega) _)⟩, by simp [intOf]; omega⟩
    · have hlt' : ¬ (i : Int) < j := by omega
      have HI : Hid (i = lowS l k) := (show _ from low_of (by rw [HL.out]; omega) hlo.out (fun t x ht => hhi.out t x (by omega)))
      by_cases hin : i < n
      · have hin' : (i : Int) < n := by omega
        have hai : l[i]? = some (l[i]'(by rw [HL.out]; omega)) := List.getElem?_eq_getElem _
        have ca' := HA'.out i _ hai
        revert ca'
        clear hai
        generalize (l[i]'(by rw [HL.out]; omega)) = x
        intro ca'
        obtain ⟨q0, q1, q2⟩ := ca'
        have y0 := (hB3.cell (p := ⟨b, i, none⟩) hla).trans q0
        have y1 := (hB3.cell (p := ⟨x.g, 0, none⟩) q1).trans q2
        have y2 : x.g < wr.heap.size := by omega
        clear q0 q1 q2
        obtain ⟨q, hq⟩ : ∃ q : Int, cmpI x.a k = q := ⟨_, rfl⟩
        have HK : Hid (∀ W : World, x.g < W.heap.size → W.cell? ⟨x.g, 0, none⟩ = some (.int .i64 x.a) → Calls Try.prog 26 #[.pointer (some ⟨x.g, 0, none⟩), .int .i64 k] W fun e w' => e = .returned (.int .i64 q) ∧ Gr W w') := (show _ from fun W g1 g2 => by rw [← hq]; exact knot1_any x.g x.a k W g1 g2)
        clear hq
        by_cases hz : q = 0
        · subst hz
          go_wp2_with (go_at_call 26; refine (HK.out _ (by first | assumption | omega) (by first | assumption | (go_simp; done) | simp_all)).mono ?_; rintro e wa ⟨rfl, hgr⟩; have hBwa : Below w.heap.size w wa := bup (by with_reducible (repeat' first | assumption | exact Below.refl _ _ | refine Below.drew ?_ | refine bdrewN ?_ _ | refine Below.setCell ?_ (by first | exact Nat.le_refl _ | (simp; done) | (simp; omega) | omega) _ | refine Below.alloc ?_ (by first | exact Nat.le_refl _ | (simp; done) | (simp; omega) | omega) _)) hgr.below; clear hgr; have zwa := hBwa.size)
          exact bodyPost_ret (v := .tuple #[.int .i64 i, .bool true]) (by simp [results, Try.results25, go_sem]) rfl ⟨⟨true, by rw [← HI.out]⟩, by with_reducible (repeat' first | assumption | exact Below.refl _ _ | refine Below.drew ?_ | refine bdrewN ?_ _ | refine Below.setCell ?_ (by first | exact Nat.le_refl _ | (simp; done) | (simp; omega) | omega) _ | refine Below.alloc ?_ (by first | exact Nat.le_refl _ | (simp; done) | (simp; omega) | omega) _)⟩
        · go_wp2_with (go_at_call 26; refine (HK.out _ (by first | assumption | omega) (by first | assumption | (go_simp; done) | simp_all)).mono ?_; rintro e wa ⟨rfl, hgr⟩; have hBwa : Below w.heap.size w wa := bup (by with_reducible (repeat' first | assumption | exact Below.refl _ _ | refine Below.drew ?_ | refine bdrewN ?_ _ | refine Below.setCell ?_ (by first | exact Nat.le_refl _ | (simp; done) | (simp; omega) | omega) _ | refine Below.alloc ?_ (by first | exact Nat.le_refl _ | (simp; done) | (simp; omega) | omega) _)) hgr.below; clear hgr; have zwa := hBwa.size)
          exact bodyPost_ret (v := .tuple #[.int .i64 i, .bool false]) (by simp [results, Try.results25, go_sem, hz]) rfl ⟨⟨false, by rw [← HI.out]⟩, by with_reducible (repeat' first | assumption | exact Below.refl _ _ | refine Below.drew ?_ | refine bdrewN ?_ _ | refine Below.setCell ?_ (by first | exact Nat.le_refl _ | (simp; done) | (simp; omega) | omega) _ | refine Below.alloc ?_ (by first | exact Nat.le_refl _ | (simp; done) | (simp; omega) | omega) _)⟩
      · have hin' : ¬ (i : Int) < n := by omega
        go_wp2
        exact bodyPost_ret (v := .tuple #[.int .i64 i, .bool false]) (by simp [results, Try.results25, go_sem]) rfl ⟨by first | exact ⟨false, by rw [← HI.out]⟩ | exact .inl (by rw [← HI.out]), by with_reducible (repeat' first | assumption | exact Below.refl _ _ | refine Below.drew ?_ | refine bdrewN ?_ _ | refine Below.setCell ?_ (by first | exact Nat.le_refl _ | (simp; done) | (simp; omega) | omega) _ | refine Below.alloc ?_ (by first | exact Nat.le_refl _ | (simp; done) | (simp; omega) | omega) _)⟩
theorem kbs_n (w : World) (k : Int) :
    Calls Try.prog 25 #[.slice none 0 0, .int .i64 k, (.func (.func 26) #[] #[])] w fun e w' => (∃ f, e = .returned (.tuple #[.int .i64 0, .bool f])) ∧ Below w.heap.size w w' := by
  have mixed : Try.prog.follows .mixedOrders = true := by kernel_rfl
  go_enter Try.func25, Try.ntmps25
  go_wp2
  go_loopw [9, 10] (fun u v w' => u = .int .i64 0 ∧ v = .int .i64 0 ∧ Below w.heap.size w w') (fun u v _ => 0)
  case atStart => exact ⟨rfl, rfl, by with_reducible (repeat' first | assumption | exact Below.refl _ _ | refine Below.drew ?_ | refine bdrewN ?_ _ | refine Below.setCell ?_ (by first | exact Nat.le_refl _ | (simp; done) | (simp; omega) | omega) _ | refine Below.alloc ?_ (by first | exact Nat.le_refl _ | (simp; done) | (simp; omega) | omega) _)⟩
  case round =>
    obtain ⟨rfl, rfl, hB3⟩ := hrel
    go_wp2
    exact bodyPost_ret (v := .tuple #[.int .i64 0, .bool false]) (by simp [results, Try.results25, go_sem]) rfl ⟨⟨false, rfl⟩, by with_reducible (repeat' first | assumption | exact Below.refl _ _ | refine Below.drew ?_ | refine bdrewN ?_ _ | refine Below.setCell ?_ (by first | exact Nat.le_refl _ | (simp; done) | (simp; omega) | omega) _ | refine Below.alloc ?_ (by first | exact Nat.le_refl _ | (simp; done) | (simp; omega) | omega) _)⟩
/-- How a list of stamps lies: a slice of pointers to blocks whose first cell is the number. -/
def LstK (w : World) (v : Value) (l : List Sk) : Prop := (v = .slice none 0 0 ∧ l = []) ∨ ∃ b cp, v = .slice (some ⟨b, 0, none⟩) l.length cp ∧ b < w.heap.size ∧ l.length ≤ cp ∧ ∀ i x, l[i]? = some x → w.cell? ⟨b, i, none⟩ = some (.pointer (some ⟨x.g, 0, none⟩)) ∧ x.g < w.heap.size ∧ w.cell? ⟨x.g, 0, none⟩ = some (.int .i64 x.a)
theorem kbs_any (w : World) (v : Value) (l : List Sk) (k : Int) (h : LstK w v l) (hl : l.length ≤ 1099511627776) (hS : SrtK l) :
    Calls Try.prog 25 #[v, .int .i64 k, (.func (.func 26) #[] #[])] w fun e w' => (∃ f, e = .returned (.tuple #[.int .i64 (lowS l k), .bool f])) ∧ Below w.heap.size w w' := by
  rcases h with ⟨rfl, rfl⟩ | ⟨b, cp, rfl, h1, h2, h3⟩
  · exact kbs_n w k
  · exact kbs_y w b cp l.length l k h1 h3 rfl h2 hl hS
set_option maxRecDepth 100000 in
set_option maxHeartbeats 2000000 in
theorem knot_any (w : World) (v : Value) (l : List Sk) (s : Int) (h : LstK w v l) (hl : l.length ≤ 1099511627776) (hS : SrtK l) (h0 : 0 ≤ s) (h1 : s ≤ 4000000000000) :
    Calls Try.prog 21 #[v, .int .i64 s] w fun e w' => e = .returned (.int .i64 (lowS l (s + 1))) ∧ Below w.heap.size w w' := by
  have HB : Hid (∀ W, Below w.heap.size w W → Calls Try.prog 25 #[v, .int .i64 (s + 1), (.func (.func 26) #[] #[])] W fun e w' => (∃ f, e = .returned (.tuple #[.int .i64 (lowS l (s + 1)), .bool f])) ∧ Below W.heap.size W w') := (show _ from fun W hb => kbs_any W v l (s + 1) (by
    rcases h with ⟨q1, q2⟩ | ⟨b, cp, rfl, q1, q2, q3⟩
    · exact .inl ⟨q1, q2⟩
    · refine .inr ⟨b, cp, rfl, Nat.lt_of_lt_of_le q1 hb.size, q2, fun i x hx => ?_⟩
      obtain ⟨r1, r2, r3⟩ := q3 i x hx
      exact ⟨(hb.cell (p := ⟨b, i, none⟩) q1).trans r1, Nat.lt_of_lt_of_le r2 hb.size, (hb.cell (p := ⟨x.g, 0, none⟩) r2).trans r3⟩) hl hS)
  clear h hS
  go_enter Try.func21, Try.ntmps21
  go_wp2_with (go_at_call 25; refine (HB.out _ (by with_reducible (repeat' first | assumption | exact Below.refl _ _ | refine Below.drew ?_ | refine bdrewN ?_ _ | refine Below.setCell ?_ (by first | exact Nat.le_refl _ | (simp; done) | (simp; omega) | omega) _ | refine Below.alloc ?_ (by first | exact Nat.le_refl _ | (simp; done) | (simp; omega) | omega) _))).mono ?_; rintro e wa ⟨⟨f, rfl⟩, hb⟩; have hBa : Below w.heap.size w wa := bup (by with_reducible (repeat' first | assumption | exact Below.refl _ _ | refine Below.drew ?_ | refine bdrewN ?_ _ | refine Below.setCell ?_ (by first | exact Nat.le_refl _ | (simp; done) | (simp; omega) | omega) _ | refine Below.alloc ?_ (by first | exact Nat.le_refl _ | (simp; done) | (simp; omega) | omega) _)) hb; clear hb)
  go_ret
  exact ⟨rfl, by with_reducible (repeat' first | assumption | exact Below.refl _ _ | refine Below.drew ?_ | refine bdrewN ?_ _ | refine Below.setCell ?_ (by first | exact Nat.le_refl _ | (simp; done) | (simp; omega) | omega) _ | refine Below.alloc ?_ (by first | exact Nat.le_refl _ | (simp; done) | (simp; omega) | omega) _)⟩
end Go.Proofs.Ytmajbophgdimlaa
