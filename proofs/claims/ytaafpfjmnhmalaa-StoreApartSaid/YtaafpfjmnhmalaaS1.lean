/- The contracts of cmp.Compare at int, of the comparison of a spot with a column, of slices.BinarySearchFunc at a row's spots, and of row.find: the place of a column among the spots, and whether it is there. New memory alone is made. The condition: the spots stand in their order. -/
import Derived.Test.YtaafpfjmnhmalaaSM
namespace Go.Proofs.Ytaafpfjmnhmalaa
open Go.RowKit
set_option linter.all false
def cmpI (a b : Int) : Int := if a < b then -1 else if b < a then 1 else 0
theorem cmpI_neg (a b : Int) : cmpI a b < 0 ↔ a < b := by unfold cmpI; split <;> (try split) <;> omega
theorem cmpI_zero (a b : Int) : cmpI a b = 0 ↔ a = b := by unfold cmpI; split <;> (try split) <;> omega
theorem nan_any (a : Int) (w : World) : Calls Try.prog 47 #[.int .i64 a] w fun e w' => e = .returned (.bool false) ∧ w' = w := by
  go_enter Try.func47, Try.ntmps47
  go_wp2
  go_ret
  exact ⟨retB (by simp), rfl⟩
theorem cmp_any (a b : Int) (w : World) : Calls Try.prog 43 #[.int .i64 a, .int .i64 b] w fun e w' => e = .returned (.int .i64 (cmpI a b)) ∧ w' = w := by
  by_cases h1 : a < b
  · have e : cmpI a b = -1 := by unfold cmpI; rw [if_pos h1]
    rw [e]
    clear e
    go_enter Try.func43, Try.ntmps43
    go_wp2_with (go_at_call 47; refine (nan_any _ _).mono ?_; rintro e w5 ⟨rfl, rfl⟩)
    go_ret
    exact ⟨rfl, rfl⟩
  · by_cases h2 : b < a
    · have e : cmpI a b = 1 := by unfold cmpI; rw [if_neg h1, if_pos h2]
      rw [e]
      clear e
      go_enter Try.func43, Try.ntmps43
      go_wp2_with (go_at_call 47; refine (nan_any _ _).mono ?_; rintro e w5 ⟨rfl, rfl⟩)
      go_ret
      exact ⟨rfl, rfl⟩
    · have e : cmpI a b = 0 := by unfold cmpI; rw [if_neg h1, if_neg h2]
      rw [e]
      clear e
      go_enter Try.func43, Try.ntmps43
      go_wp2_with (go_at_call 47; refine (nan_any _ _).mono ?_; rintro e w5 ⟨rfl, rfl⟩)
      go_ret
      exact ⟨rfl, rfl⟩
theorem rcmp_any (c k : Int) (v : Option Addr) (w : World) : Calls Try.prog 42 #[.agg #[.int .i64 c, .pointer v], .int .i64 k] w fun e w' => e = .returned (.int .i64 (cmpI c k)) ∧ Below w.heap.size w w' := by
  go_enter Try.func42, Try.ntmps42
  go_wp2_with (go_at_call 43; refine (cmp_any _ _ _).mono ?_; rintro e w5 ⟨rfl, rfl⟩)
  go_ret
  exact ⟨rfl, by with_reducible (repeat' first | assumption | exact Below.refl _ _ | refine Below.drew ?_ | refine bdrewN ?_ _ | refine Below.setCell ?_ (by first | exact Nat.le_refl _ | (simp; done) | (simp; omega) | omega) _ | refine Below.alloc ?_ (by first | exact Nat.le_refl _ | (simp; done) | (simp; omega) | omega) _)⟩
theorem callf_rcmp (args : Array Value) (W : World) : (callFunc 42 args).run Try.prog W = .ok (.enter 42 args) W := by kernel_rfl
theorem lo_next {l : List Sp} {k : Int} {h : Nat} {x : Sp} (hS : Srt l) (hx : l[h]? = some x) (hc : x.c < k) : ∀ t y, t < h + 1 → l[t]? = some y → y.c < k := by
  intro t y ht hy
  by_cases e : t = h
  · subst e; rw [hx] at hy; injection hy with hy; subst hy; exact hc
  · have h1 := (List.getElem?_eq_some_iff.1 hx)
    have h2 := (List.getElem?_eq_some_iff.1 hy)
    obtain ⟨l1, rfl⟩ := h1
    obtain ⟨l2, rfl⟩ := h2
    have := List.pairwise_iff_getElem.1 hS t h l2 l1 (by omega)
    omega
theorem hi_next {l : List Sp} {k : Int} {h : Nat} {x : Sp} (hS : Srt l) (hx : l[h]? = some x) (hc : k ≤ x.c) : ∀ t y, h ≤ t → l[t]? = some y → k ≤ y.c := by
  intro t y ht hy
  by_cases e : t = h
  · subst e; rw [hx] at hy; injection hy with hy; subst hy; exact hc
  · have h1 := (List.getElem?_eq_some_iff.1 hx)
    have h2 := (List.getElem?_eq_some_iff.1 hy)
    obtain ⟨l1, rfl⟩ := h1
    obtain ⟨l2, rfl⟩ := h2
    have := List.pairwise_iff_getElem.1 hS h t l1 l2 (by omega)
    omega
set_option maxRecDepth 100000 in
set_option maxHeartbeats 2000000 in
theorem bs_y (w : World) (b cp n : Nat) (l : List Sp) (k : Int) (hla : b < w.heap.size) (HA : ∀ i x, l[i]? = some x → w.cell? ⟨b, i * 2, none⟩ = some (.int .i64 x.c) ∧ w.cell? ⟨b, i * 2 + 1, none⟩ = some (.pointer x.v)) (hn : l.length = n) (hc : n ≤ cp) (hl : n ≤ 1099511627776) (hS : Hid (Srt l)) :
    Calls Try.prog 41 #[.slice (some ⟨b, 0, none⟩) n cp, .int .i64 k, (.func (.func 42) #[] #[])] w fun e w' => e = .returned (.tuple #[.int .i64 (idxS l k), .bool (hasS l k)]) ∧ Below w.heap.size w w' := by
  have HA' : Hid _ := HA
  have HL : Hid (l.length = n) := hn
  clear HA hn
  have mixed : Try.prog.follows .mixedOrders = true := by kernel_rfl
  go_enter Try.func41, Try.ntmps41
  go_wp2
  go_loopw [9, 10] (fun u v w' => ∃ (i j : Nat), u = .int .i64 i ∧ v = .int .i64 j ∧ i ≤ j ∧ j ≤ n ∧ Hid (∀ t x, t < i → l[t]? = some x → x.c < k) ∧ Hid (∀ t x, j ≤ t → l[t]? = some x → k ≤ x.c) ∧ Below w.heap.size w w') (fun u v _ => (intOf v).toNat - (intOf u).toNat)
  case atStart => exact ⟨0, n, rfl, rfl, by omega, by omega, (show Hid _ from fun t x h => absurd h (Nat.not_lt_zero _)), (show Hid _ from fun t x h hx => absurd (List.getElem?_eq_some_iff.1 hx).1 (by rw [HL.out]; omega)), by with_reducible (repeat' first | assumption | exact Below.refl _ _ | refine Below.drew ?_ | refine bdrewN ?_ _ | refine Below.setCell ?_ (by first | exact Nat.le_refl _ | (simp; done) | (simp; omega) | omega) _ | refine Below.alloc ?_ (by first | exact Nat.le_refl _ | (simp; done) | (simp; omega) | omega) _)⟩
  case round =>
    obtain ⟨i, j, rfl, rfl, hij, hjn, hlo, hhi, hB3⟩ := hrel
    have z3 := hB3.size
    by_cases hlt : i < j
    · have hlt' : (i : Int) < j := by omega
      obtain ⟨h, hh⟩ : ∃ h : Nat, h = (i + j) / 2 := ⟨_, rfl⟩
      have h1 : i ≤ h := by omega
      have h2 : h < j := by omega
      have h3 : (h : Int) < n := by omega
      have h4 : (0 : Int) ≤ h := by omega
      have hd1 : ((i : Int) + j) / 2 = h := by omega
      have hd2 : ((i : Int) + j) >>> 1 = h := by rw [Int.shiftRight_eq_div_pow]; omega
      have hai : l[h]? = some (l[h]'(by rw [HL.out]; omega)) := List.getElem?_eq_getElem _
      have ca' := HA'.out h _ hai
      have HAi : Hid _ := hai
      have HH : Hid (h = (i + j) / 2) := hh
      revert ca' HAi
      clear hai
      generalize (l[h]'(by rw [HL.out]; omega)) = x
      intro ca' HAi
      clear hh
      have y0 := (hB3.cell (p := ⟨b, h * 2, none⟩) hla).trans ca'.1
      have y1 := (hB3.cell (p := ⟨b, h * 2 + 1, none⟩) hla).trans ca'.2
      clear ca'
      obtain ⟨q, hq⟩ : ∃ q : Int, cmpI x.c k = q := ⟨_, rfl⟩
      have HK : Hid (∀ W : World, Calls Try.prog 42 #[.agg #[.int .i64 x.c, .pointer x.v], .int .i64 k] W fun e w' => e = .returned (.int .i64 q) ∧ Below W.heap.size W w') := (show _ from fun W => by rw [← hq]; exact rcmp_any x.c k x.v W)
      have HQ : Hid (cmpI x.c k = q) := hq
      clear hq
      by_cases hneg : q < 0
      · go_wp2_with (go_at_call 42; refine (HK.out _).mono ?_; rintro e wa ⟨rfl, hbwa⟩; have hBwa : Below w.heap.size w wa := bup (by with_reducible (repeat' first | assumption | exact Below.refl _ _ | refine Below.drew ?_ | refine bdrewN ?_ _ | refine Below.setCell ?_ (by first | exact Nat.le_refl _ | (simp; done) | (simp; omega) | omega) _ | refine Below.alloc ?_ (by first | exact Nat.le_refl _ | (simp; done) | (simp; omega) | omega) _)) hbwa; have zwa := hBwa.size)
        exact ⟨⟨h + 1, j, by go_num, rfl, by omega, by omega, (show Hid _ from lo_next hS.out HAi.out ((cmpI_neg _ _).1 (by rw [HQ.out]; exact hneg))), hhi, by with_reducible (repeat' first | assumption | exact Below.refl _ _ | refine Below.drew ?_ | refine bdrewN ?_ _ | refine Below.setCell ?_ (by first | exact Nat.le_refl _ | (simp; done) | (simp; omega) | omega) _ | refine Below.alloc ?_ (by first | exact Nat.le_refl _ | (simp; done) | (simp; omega) | omega) _)⟩, by simp [intOf]; omega⟩
      · go_wp2_with (go_at_call 42; refine (HK.out _).mono ?_; rintro e wa ⟨rfl, hbwa⟩; have hBwa : Below w.heap.size w wa := bup (by with_reducible (repeat' first | assumption | exact Below.refl _ _ | refine Below.drew ?_ | refine bdrewN ?_ _ | refine Below.setCell ?_ (by first | exact Nat.le_refl _ | (simp; done) | (simp; omega) | omega) _ | refine Below.alloc ?_ (by first | exact Nat.le_refl _ | (simp; done) | (simp; omega) | omega) _)) hbwa; have zwa := hBwa.size)
        exact ⟨⟨i, h, rfl, rfl, by omega, by omega, hlo, (show Hid _ from hi_next hS.out HAi.out (Int.not_lt.1 (fun q => absurd ((cmpI_neg _ _).2 q) (by rw [HQ.out]; omega)))), by with_reducible (repeat' first | assumption | exact Below.refl _ _ | refine Below.drew ?_ | refine bdrewN ?_ _ | refine Below.setCell ?_ (by first | exact Nat.le_refl _ | (simp; done) | (simp; omega) | omega) _ | refine Below.alloc ?_ (by first | exact Nat.le_refl _ | (simp; done) | (simp; omega) | omega) _)⟩, by simp [intOf]; omega⟩
    · have hlt' : ¬ (i : Int) < j := by omega
      have HI : Hid (i = idxS l k) := (show _ from idx_of hS.out (by rw [HL.out]; omega) hlo.out (fun t x ht => hhi.out t x (by omega)))
      by_cases hin : i < n
      · have hin' : (i : Int) < n := by omega
        have hai : l[i]? = some (l[i]'(by rw [HL.out]; omega)) := List.getElem?_eq_getElem _
        have ca' := HA'.out i _ hai
        have HAi : Hid _ := hai
        revert ca' HAi
        clear hai
        generalize (l[i]'(by rw [HL.out]; omega)) = x
        intro ca' HAi
        have y0 := (hB3.cell (p := ⟨b, i * 2, none⟩) hla).trans ca'.1
        have y1 := (hB3.cell (p := ⟨b, i * 2 + 1, none⟩) hla).trans ca'.2
        clear ca'
        obtain ⟨q, hq⟩ : ∃ q : Int, cmpI x.c k = q := ⟨_, rfl⟩
        have HK : Hid (∀ W : World, Calls Try.prog 42 #[.agg #[.int .i64 x.c, .pointer x.v], .int .i64 k] W fun e w' => e = .returned (.int .i64 q) ∧ Below W.heap.size W w') := (show _ from fun W => by rw [← hq]; exact rcmp_any x.c k x.v W)
        have HF : Hid (hasS l k = decide (q = 0)) := (show _ from by
          rw [has_at hS.out (by rw [← HI.out]; exact HAi.out), ← hq]
          exact decide_eq_decide.2 (cmpI_zero _ _).symm)
        clear hq
        by_cases hz : q = 0
        · subst hz
          go_wp2_with (go_at_call 42; refine (HK.out _).mono ?_; rintro e wa ⟨rfl, hbwa⟩; have hBwa : Below w.heap.size w wa := bup (by with_reducible (repeat' first | assumption | exact Below.refl _ _ | refine Below.drew ?_ | refine bdrewN ?_ _ | refine Below.setCell ?_ (by first | exact Nat.le_refl _ | (simp; done) | (simp; omega) | omega) _ | refine Below.alloc ?_ (by first | exact Nat.le_refl _ | (simp; done) | (simp; omega) | omega) _)) hbwa; have zwa := hBwa.size)
          exact bodyPost_ret (v := .tuple #[.int .i64 i, .bool true]) (by simp [results, Try.results41, go_sem]) rfl ⟨by rw [← HI.out, HF.out]; rfl, by with_reducible (repeat' first | assumption | exact Below.refl _ _ | refine Below.drew ?_ | refine bdrewN ?_ _ | refine Below.setCell ?_ (by first | exact Nat.le_refl _ | (simp; done) | (simp; omega) | omega) _ | refine Below.alloc ?_ (by first | exact Nat.le_refl _ | (simp; done) | (simp; omega) | omega) _)⟩
        · go_wp2_with (go_at_call 42; refine (HK.out _).mono ?_; rintro e wa ⟨rfl, hbwa⟩; have hBwa : Below w.heap.size w wa := bup (by with_reducible (repeat' first | assumption | exact Below.refl _ _ | refine Below.drew ?_ | refine bdrewN ?_ _ | refine Below.setCell ?_ (by first | exact Nat.le_refl _ | (simp; done) | (simp; omega) | omega) _ | refine Below.alloc ?_ (by first | exact Nat.le_refl _ | (simp; done) | (simp; omega) | omega) _)) hbwa; have zwa := hBwa.size)
          exact bodyPost_ret (v := .tuple #[.int .i64 i, .bool false]) (by simp [results, Try.results41, go_sem, hz]) rfl ⟨by rw [← HI.out, HF.out]; simp [hz], by with_reducible (repeat' first | assumption | exact Below.refl _ _ | refine Below.drew ?_ | refine bdrewN ?_ _ | refine Below.setCell ?_ (by first | exact Nat.le_refl _ | (simp; done) | (simp; omega) | omega) _ | refine Below.alloc ?_ (by first | exact Nat.le_refl _ | (simp; done) | (simp; omega) | omega) _)⟩
      · have hin' : ¬ (i : Int) < n := by omega
        have HF : Hid (hasS l k = false) := (show _ from has_end hS.out (by rw [← HI.out, HL.out]; omega))
        go_wp2
        exact bodyPost_ret (v := .tuple #[.int .i64 i, .bool false]) (by simp [results, Try.results41, go_sem]) rfl ⟨by rw [← HI.out, HF.out], by with_reducible (repeat' first | assumption | exact Below.refl _ _ | refine Below.drew ?_ | refine bdrewN ?_ _ | refine Below.setCell ?_ (by first | exact Nat.le_refl _ | (simp; done) | (simp; omega) | omega) _ | refine Below.alloc ?_ (by first | exact Nat.le_refl _ | (simp; done) | (simp; omega) | omega) _)⟩
set_option maxRecDepth 100000 in
theorem bs_nil (w : World) (k : Int) :
    Calls Try.prog 41 #[.slice none 0 0, .int .i64 k, (.func (.func 42) #[] #[])] w fun e w' => e = .returned (.tuple #[.int .i64 0, .bool false]) ∧ Below w.heap.size w w' := by
  have mixed : Try.prog.follows .mixedOrders = true := by kernel_rfl
  go_enter Try.func41, Try.ntmps41
  go_wp2
  go_loop [9, 10] (fun u v => u = .int .i64 0 ∧ v = .int .i64 0) (fun _ _ => 0)
  case atStart => exact ⟨rfl, rfl⟩
  case round =>
    obtain ⟨rfl, rfl⟩ := hrel
    go_wp2
    exact bodyPost_ret (v := .tuple #[.int .i64 0, .bool false]) (by simp [results, Try.results41, go_sem]) rfl ⟨rfl, by with_reducible (repeat' first | assumption | exact Below.refl _ _ | refine Below.drew ?_ | refine bdrewN ?_ _ | refine Below.setCell ?_ (by first | exact Nat.le_refl _ | (simp; done) | (simp; omega) | omega) _ | refine Below.alloc ?_ (by first | exact Nat.le_refl _ | (simp; done) | (simp; omega) | omega) _)⟩
theorem bs_any (w : World) (v : Value) (l : List Sp) (k : Int) (hv : RowW w v l) (hl : l.length ≤ 1099511627776) (hS : Srt l) :
    Calls Try.prog 41 #[v, .int .i64 k, (.func (.func 42) #[] #[])] w fun e w' => e = .returned (.tuple #[.int .i64 (idxS l k), .bool (hasS l k)]) ∧ Below w.heap.size w w' := by
  rcases hv.two with ⟨rfl, rfl⟩ | ⟨g, cap, cur, rfl, h1, h2, h3, h4, h5, h6⟩
  · exact bs_nil w k
  · exact bs_y w g cap l.length l k h1 (row_cells h2 h6) rfl h3 hl hS
theorem find_any (w : World) (v : Value) (l : List Sp) (k : Int) (hv : Hid (RowW w v l)) (hl : l.length ≤ 1099511627776) (hS : Hid (Srt l)) :
    Calls Try.prog 38 #[v, .int .i64 k] w fun e w' => e = .returned (.tuple #[.int .i64 (idxS l k), .bool (hasS l k)]) ∧ Below w.heap.size w w' := by
  obtain ⟨i, hi⟩ : ∃ i : Nat, i = idxS l k := ⟨_, rfl⟩
  obtain ⟨f, hf⟩ : ∃ f : Bool, f = hasS l k := ⟨_, rfl⟩
  have H := bs_any w v l k hv.out hl hS.out
  rw [← hi, ← hf] at H ⊢
  clear hi hf
  go_enter Try.func38, Try.ntmps38
  go_wp2_with (go_at_call 41; refine H.mono ?_; rintro e wa ⟨rfl, hbwa⟩)
  exact bodyPost_ret (v := .tuple #[.int .i64 i, .bool f]) (by simp [results, Try.results38, go_sem]) rfl ⟨rfl, hbwa⟩
end Go.Proofs.Ytaafpfjmnhmalaa
