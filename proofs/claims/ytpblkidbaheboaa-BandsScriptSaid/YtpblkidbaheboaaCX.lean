/- The document's pair and ahead. New memory alone is made. -/
import Derived.Test.YtpblkidbaheboaaCU
namespace Go.Proofs.Ytpblkidbaheboaa
open Go.RowKit
set_option linter.all false
def Pr.ev (p : Pr) : Value := .agg #[.int .i64 p.r, .int .i64 p.c, .bool true, .int .i64 p.t, .int .i64 p.l, .int .i64 p.b, .int .i64 p.q]
theorem befB_cmp (a b a' b' : Int) (x y : Pr) (h1 : x.r = a) (h2 : x.c = b) (h3 : y.r = a') (h4 : y.c = b') (hs : sameC a b a' b' = false) : befB a b a' b' = decide (cmpP x y < 0) := by
  have hs' : ¬ (a = a' ∧ b = b') := by simpa [sameC] using hs
  rw [Bool.eq_iff_iff, befB_is]
  simp only [decide_eq_true_eq, cmpP_neg, h1, h2, h3, h4]
  constructor
  · intro h; exact .inl h
  · rintro (h | ⟨h, -⟩)
    · exact h
    · exact absurd h hs'
set_option maxRecDepth 100000 in
set_option maxHeartbeats 4000000 in
theorem ahead_any (r c t l b q r' c' t' l' b' q' : Int) (w : World) : Calls Try.prog 28 #[.agg #[.int .i64 r, .int .i64 c, .bool true, .int .i64 t, .int .i64 l, .int .i64 b, .int .i64 q], .agg #[.int .i64 r', .int .i64 c', .bool true, .int .i64 t', .int .i64 l', .int .i64 b', .int .i64 q']] w fun e w' => e = .returned (.bool (decide (cmpP ⟨r, c, t, l, b, q⟩ ⟨r', c', t', l', b', q'⟩ < 0))) ∧ Below w.heap.size w w' := by
  have hne := neC r c r' c'
  cases hs : sameC r c r' c'
  · rw [hs] at hne
    have HB : Hid (∀ W, Calls Try.prog 39 #[.agg #[.int .i64 r, .int .i64 c], .agg #[.int .i64 r', .int .i64 c']] W fun e w' => e = .returned (.bool (decide (cmpP ⟨r, c, t, l, b, q⟩ ⟨r', c', t', l', b', q'⟩ < 0))) ∧ Below W.heap.size W w') := (show _ from fun W => by
      have := rbef_any r c r' c' W
      rw [befB_cmp r c r' c' ⟨r, c, t, l, b, q⟩ ⟨r', c', t', l', b', q'⟩ rfl rfl rfl rfl hs] at this
      exact this)
    clear hs
    go_enter Try.func28, Try.ntmps28
    go_wp2_with (go_at_call 39; refine (HB.out _).mono ?_; rintro e w1 ⟨rfl, hb⟩; have hB1 : Below w.heap.size w w1 := bup (by with_reducible (repeat' first | assumption | exact Below.refl _ _ | refine Below.drew ?_ | refine bdrewN ?_ _ | refine Below.setCell ?_ (by first | exact Nat.le_refl _ | (simp; done) | (simp; omega) | omega) _ | refine Below.alloc ?_ (by first | exact Nat.le_refl _ | (simp; done) | (simp; omega) | omega) _)) hb)
    go_ret
    exact ⟨rfl, by with_reducible (repeat' first | assumption | exact Below.refl _ _ | refine Below.drew ?_ | refine bdrewN ?_ _ | refine Below.setCell ?_ (by first | exact Nat.le_refl _ | (simp; done) | (simp; omega) | omega) _ | refine Below.alloc ?_ (by first | exact Nat.le_refl _ | (simp; done) | (simp; omega) | omega) _)⟩
  · rw [hs] at hne
    have he : r = r' ∧ c = c' := by simpa [sameC] using hs
    obtain ⟨rfl, rfl⟩ := he
    clear hs
    have hd : ∀ (t l b q t' l' b' q' : Int), (cmpP ⟨r, c, t, l, b, q⟩ ⟨r, c, t', l', b', q'⟩ < 0) ↔ cmpR t l b q t' l' b' q' < 0 := fun t l b q t' l' b' q' => by
      rw [cmpP_neg]; simp
    by_cases h1 : t = t'
    · subst h1
      by_cases h2 : l = l'
      · subst h2
        by_cases h3 : b = b'
        · subst h3
          have hD : Hid (decide (cmpP ⟨r, c, t, l, b, q⟩ ⟨r, c, t, l, b, q'⟩ < 0) = decide (q < q')) := (show _ = _ by rw [decide_eq_decide, hd, cmpR_neg]; omega)
          rw [hD.out]
          clear hd
          go_enter Try.func28, Try.ntmps28
          go_wp2
          go_ret
          exact ⟨rfl, by with_reducible (repeat' first | assumption | exact Below.refl _ _ | refine Below.drew ?_ | refine bdrewN ?_ _ | refine Below.setCell ?_ (by first | exact Nat.le_refl _ | (simp; done) | (simp; omega) | omega) _ | refine Below.alloc ?_ (by first | exact Nat.le_refl _ | (simp; done) | (simp; omega) | omega) _)⟩
        · have hD : Hid (decide (cmpP ⟨r, c, t, l, b, q⟩ ⟨r, c, t, l, b', q'⟩ < 0) = decide (b < b')) := (show _ = _ by rw [decide_eq_decide, hd, cmpR_neg]; omega)
          rw [hD.out]
          have h3' : (b != b') = true := by simpa using h3
          clear hd
          go_enter Try.func28, Try.ntmps28
          go_wp2
          go_ret
          exact ⟨rfl, by with_reducible (repeat' first | assumption | exact Below.refl _ _ | refine Below.drew ?_ | refine bdrewN ?_ _ | refine Below.setCell ?_ (by first | exact Nat.le_refl _ | (simp; done) | (simp; omega) | omega) _ | refine Below.alloc ?_ (by first | exact Nat.le_refl _ | (simp; done) | (simp; omega) | omega) _)⟩
      · have hD : Hid (decide (cmpP ⟨r, c, t, l, b, q⟩ ⟨r, c, t, l', b', q'⟩ < 0) = decide (l < l')) := (show _ = _ by rw [decide_eq_decide, hd, cmpR_neg]; omega)
        rw [hD.out]
        have h2' : (l != l') = true := by simpa using h2
        clear hd
        go_enter Try.func28, Try.ntmps28
        go_wp2
        go_ret
        exact ⟨rfl, by with_reducible (repeat' first | assumption | exact Below.refl _ _ | refine Below.drew ?_ | refine bdrewN ?_ _ | refine Below.setCell ?_ (by first | exact Nat.le_refl _ | (simp; done) | (simp; omega) | omega) _ | refine Below.alloc ?_ (by first | exact Nat.le_refl _ | (simp; done) | (simp; omega) | omega) _)⟩
    · have hD : Hid (decide (cmpP ⟨r, c, t, l, b, q⟩ ⟨r, c, t', l', b', q'⟩ < 0) = decide (t < t')) := (show _ = _ by rw [decide_eq_decide, hd, cmpR_neg]; omega)
      rw [hD.out]
      have h1' : (t != t') = true := by simpa using h1
      clear hd
      go_enter Try.func28, Try.ntmps28
      go_wp2
      go_ret
      exact ⟨rfl, by with_reducible (repeat' first | assumption | exact Below.refl _ _ | refine Below.drew ?_ | refine bdrewN ?_ _ | refine Below.setCell ?_ (by first | exact Nat.le_refl _ | (simp; done) | (simp; omega) | omega) _ | refine Below.alloc ?_ (by first | exact Nat.le_refl _ | (simp; done) | (simp; omega) | omega) _)⟩
set_option maxRecDepth 100000 in
set_option maxHeartbeats 4000000 in
theorem pair_any (t l b q r c : Int) (w : World) : Calls Try.prog 27 #[.agg #[.int .i64 t, .int .i64 l, .int .i64 b, .int .i64 q], .agg #[.int .i64 r, .int .i64 c]] w fun e w' => e = .returned (.agg #[.int .i64 r, .int .i64 c, .bool true, .int .i64 t, .int .i64 l, .int .i64 b, .int .i64 q]) ∧ Below w.heap.size w w' := by
  go_enter Try.func27, Try.ntmps27
  go_wp2
  exact bodyPost_ret (v := .agg #[.int .i64 r, .int .i64 c, .bool true, .int .i64 t, .int .i64 l, .int .i64 b, .int .i64 q]) (by simp [results, Try.results27, go_sem]) rfl ⟨rfl, by with_reducible (repeat' first | assumption | exact Below.refl _ _ | refine Below.drew ?_ | refine bdrewN ?_ _ | refine Below.setCell ?_ (by first | exact Nat.le_refl _ | (simp; done) | (simp; omega) | omega) _ | refine Below.alloc ?_ (by first | exact Nat.le_refl _ | (simp; done) | (simp; omega) | omega) _)⟩
end Go.Proofs.Ytpblkidbaheboaa
