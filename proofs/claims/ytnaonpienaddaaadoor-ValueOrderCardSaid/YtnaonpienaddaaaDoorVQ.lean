/- What follows of Compare, as plain facts on its answer (cmpV), for all values; the contract of oriellaw02.rank. -/
import Derived.Test.YtnaonpienaddaaaDoorV9
namespace Go.Proofs.YtnaonpienaddaaaDoor
open Go.RowKit
set_option linter.all false
theorem cmpI_anti (x y : Int) : cmpI y x = - cmpI x y := by unfold cmpI; split <;> split <;> omega
theorem cmpI_rng (x y : Int) : -1 ≤ cmpI x y ∧ cmpI x y ≤ 1 := by unfold cmpI; split <;> (try split) <;> omega
theorem cmpI_lt (x y : Int) : cmpI x y < 0 ↔ x < y := by unfold cmpI; split <;> (try split) <;> omega
theorem cmpI_eq (x y : Int) : cmpI x y = 0 ↔ x = y := by unfold cmpI; split <;> (try split) <;> omega
theorem cmpI_le (x y : Int) : cmpI x y ≤ 0 ↔ x ≤ y := by unfold cmpI; split <;> (try split) <;> omega
theorem tri (l m : List UInt8) : l < m ∨ l = m ∨ m < l := by
  rcases Decidable.em (l < m) with h | h
  · exact .inl h
  · rcases Decidable.em (m < l) with h' | h'
    · exact .inr (.inr h')
    · exact .inr (.inl (List.le_antisymm (List.not_lt.1 h') (List.not_lt.1 h)))
theorem cmpS_lt1 {x y : ByteArray} (h : x.toList < y.toList) : cmpS x y = -1 := if_pos h
theorem cmpS_eq1 {x y : ByteArray} (h : x.toList = y.toList) : cmpS x y = 0 := by
  unfold cmpS; rw [h, if_neg (List.lt_irrefl _), if_pos rfl]
theorem cmpS_rng (x y : ByteArray) : -1 ≤ cmpS x y ∧ cmpS x y ≤ 1 := by unfold cmpS; split <;> (try split) <;> omega
theorem cmpS_anti (x y : ByteArray) : cmpS y x = - cmpS x y := by
  rcases tri x.toList y.toList with h | h | h
  · rw [cmpS_lt1 h, cmp_gt h]; rfl
  · rw [cmpS_eq1 h, cmpS_eq1 h.symm]; rfl
  · rw [cmpS_lt1 h, cmp_gt h]
theorem cmpS_lt (x y : ByteArray) : cmpS x y < 0 ↔ x.toList < y.toList := by
  rcases tri x.toList y.toList with h | h | h
  · rw [cmpS_lt1 h]; exact ⟨fun _ => h, fun _ => by decide⟩
  · rw [cmpS_eq1 h, h]; exact ⟨fun k => absurd k (by decide), fun k => absurd k (List.lt_irrefl _)⟩
  · rw [cmp_gt h]; exact ⟨fun k => absurd k (by decide), fun k => absurd k (not_both h).1⟩
theorem cmpS_eq (x y : ByteArray) : cmpS x y = 0 ↔ x = y := by
  rcases tri x.toList y.toList with h | h | h
  · rw [cmpS_lt1 h]; exact ⟨fun k => absurd k (by decide), fun k => by rw [k] at h; exact absurd h (List.lt_irrefl _)⟩
  · rw [cmpS_eq1 h]; exact ⟨fun _ => toList_inj h, fun _ => rfl⟩
  · rw [cmp_gt h]; exact ⟨fun k => absurd k (by decide), fun k => by rw [k] at h; exact absurd h (List.lt_irrefl _)⟩
theorem cmpC_anti (t n : Int) (s : ByteArray) (b : Bool) (t' n' : Int) (s' : ByteArray) (b' : Bool) : cmpC t' n' s' b' t n s b = - cmpC t n s b t' n' s' b' := by
  unfold cmpC
  by_cases h : fillT t t' = fillT t' t
  · rw [if_neg (show ¬ ¬ fillT t' t = fillT t t' from fun k => k h.symm), if_neg (show ¬ ¬ fillT t t' = fillT t' t from fun k => k h), ← h]
    by_cases h1 : fillT t t' = 1
    · rw [if_pos h1, if_pos h1]; exact cmpI_anti _ _
    · rw [if_neg h1, if_neg h1]
      by_cases h2 : fillT t t' = 2
      · rw [if_pos h2, if_pos h2]; exact cmpS_anti _ _
      · rw [if_neg h2, if_neg h2]
        by_cases h3 : fillT t t' = 3
        · rw [if_pos h3, if_pos h3]; exact cmpI_anti _ _
        · rw [if_neg h3, if_neg h3]; rfl
  · rw [if_pos (show ¬ fillT t' t = fillT t t' from fun k => h k.symm), if_pos h]; exact cmpI_anti _ _
theorem cmpC_rng (t n : Int) (s : ByteArray) (b : Bool) (t' n' : Int) (s' : ByteArray) (b' : Bool) : -1 ≤ cmpC t n s b t' n' s' b' ∧ cmpC t n s b t' n' s' b' ≤ 1 := by
  unfold cmpC
  split
  · exact cmpI_rng _ _
  · split
    · exact cmpI_rng _ _
    · split
      · exact cmpS_rng _ _
      · split
        · exact cmpI_rng _ _
        · exact ⟨by decide, by decide⟩
theorem cmpV_anti (t n : Int) (s : ByteArray) (b : Bool) (c : Int) (t' n' : Int) (s' : ByteArray) (b' : Bool) (c' : Int) : cmpV t' n' s' b' c' t n s b c = - cmpV t n s b c t' n' s' b' c' := by
  unfold cmpV
  by_cases h : mayB t n s b c = true ∧ mayB t' n' s' b' c' = true ∧ ¬ t = 4 ∧ ¬ t' = 4
  · rw [if_pos h, if_pos ⟨h.2.1, h.1, h.2.2.2, h.2.2.1⟩]; exact cmpC_anti ..
  · rw [if_neg h, if_neg (fun k => h ⟨k.2.1, k.1, k.2.2.2, k.2.2.1⟩)]; rfl
theorem cmpV_rng (t n : Int) (s : ByteArray) (b : Bool) (c : Int) (t' n' : Int) (s' : ByteArray) (b' : Bool) (c' : Int) : -1 ≤ cmpV t n s b c t' n' s' b' c' ∧ cmpV t n s b c t' n' s' b' c' ≤ 1 := by
  unfold cmpV
  split
  · exact cmpC_rng ..
  · exact ⟨by decide, by decide⟩
theorem cmpV_self (t n : Int) (s : ByteArray) (b : Bool) (c : Int) : cmpV t n s b c t n s b c = 0 := by
  have h := cmpV_anti t n s b c t n s b c
  omega
/-- A value that may be and is neither Blank nor Fault. -/
def rankB (t n : Int) (s : ByteArray) (b : Bool) (c : Int) : Bool := mayB t n s b c && (t != 0) && (t != 4)
theorem rank_of {t n : Int} {s : ByteArray} {b : Bool} {c : Int} (h : rankB t n s b c = true) : mayB t n s b c = true ∧ ¬ t = 0 ∧ ¬ t = 4 := by
  unfold rankB at h
  simp only [Bool.and_eq_true, bne_iff_ne, ne_eq] at h
  exact ⟨h.1.1, h.1.2, h.2⟩
/-- Compare of two that have their rank. -/
theorem cmpV_rank {t n : Int} {s : ByteArray} {b : Bool} {c : Int} {t' n' : Int} {s' : ByteArray} {b' : Bool} {c' : Int} (h : rankB t n s b c = true) (h' : rankB t' n' s' b' c' = true) :
    cmpV t n s b c t' n' s' b' c' = if ¬ t = t' then cmpI t t' else if t = 1 then cmpI n n' else if t = 2 then cmpS s s' else if t = 3 then cmpI (partsI b) (partsI b') else 0 := by
  obtain ⟨h1, h2, h3⟩ := rank_of h
  obtain ⟨k1, k2, k3⟩ := rank_of h'
  unfold cmpV cmpC
  rw [if_pos ⟨h1, k1, h3, k3⟩, show fillT t t' = t from if_neg h2, show fillT t' t = t' from if_neg k2]
theorem rank_cases {t n : Int} {s : ByteArray} {b : Bool} {c : Int} (h : rankB t n s b c = true) :
    (t = 1 ∧ s = ⟨#[]⟩ ∧ b = false ∧ c = 0) ∨ (t = 2 ∧ n = 0 ∧ b = false ∧ c = 0) ∨ (t = 3 ∧ n = 0 ∧ s = ⟨#[]⟩ ∧ c = 0) := by
  obtain ⟨h1, h2, h3⟩ := rank_of h
  rcases may_cases h1 h3 with h | h | h | h
  · exact absurd h.1 h2
  · exact .inl h
  · exact .inr (.inl h)
  · exact .inr (.inr h)
theorem parts_inj {b b' : Bool} (h : partsI b = partsI b') : b = b' := by
  cases b <;> cases b' <;> first | rfl | exact absurd h (by decide)
theorem cmp_zero {t n : Int} {s : ByteArray} {b : Bool} {c : Int} {t' n' : Int} {s' : ByteArray} {b' : Bool} {c' : Int} (h : rankB t n s b c = true) (h' : rankB t' n' s' b' c' = true) :
    (cmpV t n s b c t' n' s' b' c' == 0) = sameB t n s b c t' n' s' b' c' := by
  rw [cmpV_rank h h']
  have key : (if ¬ t = t' then cmpI t t' else if t = 1 then cmpI n n' else if t = 2 then cmpS s s' else if t = 3 then cmpI (partsI b) (partsI b') else 0) = 0 ↔ (t = t' ∧ n = n' ∧ s = s' ∧ b = b' ∧ c = c') := by
    rcases rank_cases h with ⟨rfl, rfl, rfl, rfl⟩ | ⟨rfl, rfl, rfl, rfl⟩ | ⟨rfl, rfl, rfl, rfl⟩ <;> rcases rank_cases h' with ⟨rfl, rfl, rfl, rfl⟩ | ⟨rfl, rfl, rfl, rfl⟩ | ⟨rfl, rfl, rfl, rfl⟩
    · simp [cmpI_eq]
    · simp [cmpI_eq]
    · simp [cmpI_eq]
    · simp [cmpI_eq]
    · simp [cmpS_eq]
    · simp [cmpI_eq]
    · simp [cmpI_eq]
    · simp [cmpI_eq]
    · simp only [not_true_eq_false, if_false, if_neg (show ¬ (3 : Int) = 1 by decide), if_neg (show ¬ (3 : Int) = 2 by decide), if_true, cmpI_eq]
      exact ⟨fun k => by simp [parts_inj k], fun k => by simp at k; rw [k]⟩
  unfold sameB
  rw [Bool.eq_iff_iff, beq_iff_eq, decide_eq_true_iff]
  exact key
theorem cmp_trans {t n : Int} {s : ByteArray} {b : Bool} {c : Int} {t' n' : Int} {s' : ByteArray} {b' : Bool} {c' : Int} {t'' n'' : Int} {s'' : ByteArray} {b'' : Bool} {c'' : Int} (h : rankB t n s b c = true) (h' : rankB t' n' s' b' c' = true) (h'' : rankB t'' n'' s'' b'' c'' = true)
    (hx : ¬ 0 < cmpV t n s b c t' n' s' b' c') (hy : ¬ 0 < cmpV t' n' s' b' c' t'' n'' s'' b'' c'') : cmpV t n s b c t'' n'' s'' b'' c'' ≤ 0 ∧ (cmpV t n s b c t'' n'' s'' b'' c'' < 0 ↔ (cmpV t n s b c t' n' s' b' c' < 0 ∨ cmpV t' n' s' b' c' t'' n'' s'' b'' c'' < 0)) := by
  rw [cmpV_rank h h'] at hx ⊢
  rw [cmpV_rank h' h''] at hy ⊢
  rw [cmpV_rank h h'']
  have hx := Int.not_lt.1 hx
  have hy := Int.not_lt.1 hy
  by_cases e1 : t = t'
  · by_cases e2 : t' = t''
    · subst e1 e2
      simp only [not_true_eq_false, if_false] at hx hy ⊢
      by_cases k1 : t = 1
      · simp only [if_pos k1, cmpI_lt, cmpI_le] at hx hy ⊢; omega
      · simp only [if_neg k1] at hx hy ⊢
        by_cases k2 : t = 2
        · simp only [if_pos k2] at hx hy ⊢
          have ax := cmpS_lt s s'
          have ay := cmpS_lt s' s''
          have az := cmpS_lt s s''
          have ex := cmpS_eq s s'
          have ey := cmpS_eq s' s''
          by_cases jx : cmpS s s' < 0
          · by_cases jy : cmpS s' s'' < 0
            · have q := az.2 (List.lt_trans (ax.1 jx) (ay.1 jy)); exact ⟨by omega, fun _ => .inl jx, fun _ => q⟩
            · have := ey.1 (by omega); subst this; exact ⟨by omega, fun _ => .inl jx, fun _ => jx⟩
          · have := ex.1 (by omega); subst this; exact ⟨hy, fun k => .inr k, fun k => k.resolve_left jx⟩
        · simp only [if_neg k2] at hx hy ⊢
          by_cases k3 : t = 3
          · simp only [if_pos k3, cmpI_lt, cmpI_le] at hx hy ⊢; omega
          · simp only [if_neg k3]; exact ⟨by decide, fun k => absurd k (by decide), fun k => by rcases k with k | k <;> exact absurd k (by decide)⟩
    · subst e1
      rw [if_pos e2] at hy ⊢
      rw [if_pos e2]
      exact ⟨hy, fun k => .inr k, fun _ => by rw [cmpI_lt]; rw [cmpI_le] at hy; omega⟩
  · rw [if_pos e1] at hx ⊢
    rw [cmpI_le] at hx
    have hlt : t < t' := by omega
    have hle : t' ≤ t'' := by
      by_cases e2 : t' = t''
      · omega
      · rw [if_pos e2, cmpI_le] at hy; exact hy
    rw [if_pos (show ¬ t = t'' by omega)]
    exact ⟨by rw [cmpI_le]; omega, fun _ => .inl (by rw [cmpI_lt]; exact hlt), fun _ => by rw [cmpI_lt]; omega⟩
theorem rank_f (t n : Int) (s : ByteArray) (b : Bool) (c : Int) (w : World) (hn : I64 n) (hm : mayB t n s b c = false) : Calls Tryd.prog 36 #[(.agg #[.int .i64 (t), .int .i64 (n), .string s, .bool b, .int .i64 (c)])] w fun e w' => e = .returned (.bool false) ∧ Below w.heap.size w w' := by
  go_enter Tryd.func36, Tryd.ntmps36
  go_wp2_with (go_at_call 19; refine (rmayV _ _ _ _ _ _ (by assumption)).mono ?_; rintro e w1 ⟨rfl, hb⟩; have hB : Below w.heap.size w w1 := bup (by with_reducible (first | assumption | exact Below.drew (by assumption) | exact bal _ _ | exact (bal _ _).alloc (by simp) _ | exact (bal _ _).drew | exact ((bal _ _).alloc (by simp) _).drew | exact Below.refl _ _ | exact (Below.refl _ _).drew)) hb; have o0 : Own w1 (w.heap.size) #[.int .i64 (t), .int .i64 (n), .string s, .bool b, .int .i64 (c)] := Own.keep (by with_reducible (first | assumption | exact Own.drew (by assumption) | exact Own.new _ _ _ | exact Own.new2 _ _ _ _ | exact (Own.new _ _ _).past _ | exact Own.drew (Own.new _ _ _) | exact (Own.new2 _ _ _ _).drew | exact ((Own.new _ _ _).past _).drew)) hb; have c0 := o0.cell; have f0 := o0.fro)
  go_ret
  exact ⟨rfl, by with_reducible assumption⟩
theorem rank_0 (n : Int) (s : ByteArray) (b : Bool) (c : Int) (w : World) (hn : I64 n) (hm : mayB 0 n s b c = true) : Calls Tryd.prog 36 #[(.agg #[.int .i64 (0), .int .i64 (n), .string s, .bool b, .int .i64 (c)])] w fun e w' => e = .returned (.bool false) ∧ Below w.heap.size w w' := by
  go_enter Tryd.func36, Tryd.ntmps36
  go_wp2_with (go_at_call 19; refine (rmayV _ _ _ _ _ _ (by assumption)).mono ?_; rintro e w1 ⟨rfl, hb⟩; have hB : Below w.heap.size w w1 := bup (by with_reducible (first | assumption | exact Below.drew (by assumption) | exact bal _ _ | exact (bal _ _).alloc (by simp) _ | exact (bal _ _).drew | exact ((bal _ _).alloc (by simp) _).drew | exact Below.refl _ _ | exact (Below.refl _ _).drew)) hb; have o0 : Own w1 (w.heap.size) #[.int .i64 (0), .int .i64 (n), .string s, .bool b, .int .i64 (c)] := Own.keep (by with_reducible (first | assumption | exact Own.drew (by assumption) | exact Own.new _ _ _ | exact Own.new2 _ _ _ _ | exact (Own.new _ _ _).past _ | exact Own.drew (Own.new _ _ _) | exact (Own.new2 _ _ _ _).drew | exact ((Own.new _ _ _).past _).drew)) hb; have c0 := o0.cell; have f0 := o0.fro)
  go_ret
  exact ⟨rfl, by with_reducible assumption⟩
theorem rank_4 (n : Int) (s : ByteArray) (b : Bool) (c : Int) (w : World) (hn : I64 n) (hm : mayB 4 n s b c = true) : Calls Tryd.prog 36 #[(.agg #[.int .i64 (4), .int .i64 (n), .string s, .bool b, .int .i64 (c)])] w fun e w' => e = .returned (.bool false) ∧ Below w.heap.size w w' := by
  go_enter Tryd.func36, Tryd.ntmps36
  go_wp2_with (go_at_call 19; refine (rmayV _ _ _ _ _ _ (by assumption)).mono ?_; rintro e w1 ⟨rfl, hb⟩; have hB : Below w.heap.size w w1 := bup (by with_reducible (first | assumption | exact Below.drew (by assumption) | exact bal _ _ | exact (bal _ _).alloc (by simp) _ | exact (bal _ _).drew | exact ((bal _ _).alloc (by simp) _).drew | exact Below.refl _ _ | exact (Below.refl _ _).drew)) hb; have o0 : Own w1 (w.heap.size) #[.int .i64 (4), .int .i64 (n), .string s, .bool b, .int .i64 (c)] := Own.keep (by with_reducible (first | assumption | exact Own.drew (by assumption) | exact Own.new _ _ _ | exact Own.new2 _ _ _ _ | exact (Own.new _ _ _).past _ | exact Own.drew (Own.new _ _ _) | exact (Own.new2 _ _ _ _).drew | exact ((Own.new _ _ _).past _).drew)) hb; have c0 := o0.cell; have f0 := o0.fro)
  go_ret
  exact ⟨rfl, by with_reducible assumption⟩
theorem rank_t (t n : Int) (s : ByteArray) (b : Bool) (c : Int) (w : World) (hn : I64 n) (hm : mayB t n s b c = true) (h0 : ¬ t = 0) (h4 : ¬ t = 4) : Calls Tryd.prog 36 #[(.agg #[.int .i64 (t), .int .i64 (n), .string s, .bool b, .int .i64 (c)])] w fun e w' => e = .returned (.bool true) ∧ Below w.heap.size w w' := by
  have g0 : (t != 0) = true := by simpa using h0
  have g4 : (t != 4) = true := by simpa using h4
  go_enter Tryd.func36, Tryd.ntmps36
  go_wp2_with (go_at_call 19; refine (rmayV _ _ _ _ _ _ (by assumption)).mono ?_; rintro e w1 ⟨rfl, hb⟩; have hB : Below w.heap.size w w1 := bup (by with_reducible (first | assumption | exact Below.drew (by assumption) | exact bal _ _ | exact (bal _ _).alloc (by simp) _ | exact (bal _ _).drew | exact ((bal _ _).alloc (by simp) _).drew | exact Below.refl _ _ | exact (Below.refl _ _).drew)) hb; have o0 : Own w1 (w.heap.size) #[.int .i64 (t), .int .i64 (n), .string s, .bool b, .int .i64 (c)] := Own.keep (by with_reducible (first | assumption | exact Own.drew (by assumption) | exact Own.new _ _ _ | exact Own.new2 _ _ _ _ | exact (Own.new _ _ _).past _ | exact Own.drew (Own.new _ _ _) | exact (Own.new2 _ _ _ _).drew | exact ((Own.new _ _ _).past _).drew)) hb; have c0 := o0.cell; have f0 := o0.fro)
  go_ret
  exact ⟨rfl, by with_reducible assumption⟩
theorem rankV (t n : Int) (s : ByteArray) (b : Bool) (c : Int) (w : World) (hn : I64 n) : Calls Tryd.prog 36 #[(.agg #[.int .i64 (t), .int .i64 (n), .string s, .bool b, .int .i64 (c)])] w fun e w' => e = .returned (.bool (rankB t n s b c)) ∧ Below w.heap.size w w' := by
  by_cases hm : mayB t n s b c = true
  case neg => 
    have hm' : mayB t n s b c = false := by simpa using hm
    rw [show rankB t n s b c = false by unfold rankB; rw [hm']; rfl]; exact rank_f t n s b c w hn hm'
  by_cases h0 : t = 0
  · subst h0; rw [show rankB 0 n s b c = false by unfold rankB; simp]; exact rank_0 n s b c w hn hm
  by_cases h4 : t = 4
  · subst h4; rw [show rankB 4 n s b c = false by unfold rankB; simp]; exact rank_4 n s b c w hn hm
  rw [show rankB t n s b c = true by unfold rankB; rw [hm]; simp [h0, h4]]; exact rank_t t n s b c w hn hm h0 h4
end Go.Proofs.YtnaonpienaddaaaDoor
