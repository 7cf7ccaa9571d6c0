/- The contracts of Compare and of Same (of package value and of the document's answer): of any two values the same answer. New memory alone is made. No condition but that the numbers are int64 and the texts no longer than texts are. -/
import Derived.Test.YtnaonpienaddaaaDoorV5
import Derived.Test.YtnaonpienaddaaaDoorV6
import Derived.Test.YtnaonpienaddaaaDoorV7
import Derived.Test.YtnaonpienaddaaaDoorV8
namespace Go.Proofs.YtnaonpienaddaaaDoor
open Go.RowKit
set_option linter.all false
/-- Compare of two that may be and are no Faults. -/
def cmpC (t n : Int) (s : ByteArray) (b : Bool) (t' n' : Int) (s' : ByteArray) (b' : Bool) : Int :=
  if ¬ fillT t t' = fillT t' t then cmpI (fillT t t') (fillT t' t) else if fillT t t' = 1 then cmpI n n' else if fillT t t' = 2 then cmpS s s' else if fillT t t' = 3 then cmpI (partsI b) (partsI b') else 0
/-- Compare of any two. -/
def cmpV (t n : Int) (s : ByteArray) (b : Bool) (c : Int) (t' n' : Int) (s' : ByteArray) (b' : Bool) (c' : Int) : Int :=
  if mayB t n s b c = true ∧ mayB t' n' s' b' c' = true ∧ ¬ t = 4 ∧ ¬ t' = 4 then cmpC t n s b t' n' s' b' else 0
theorem cmp_wa (t n : Int) (s : ByteArray) (b : Bool) (c : Int) (t' n' : Int) (s' : ByteArray) (b' : Bool) (c' : Int) (w : World) (hn : I64 n) (hn' : I64 n') (hx : (wrongC t n s b c != 0) = true) : Calls Tryd.prog 22 #[(.agg #[.int .i64 (t), .int .i64 (n), .string s, .bool b, .int .i64 (c)]), (.agg #[.int .i64 (t'), .int .i64 (n'), .string s', .bool b', .int .i64 (c')])] w fun e w' => e = .returned (.int .i64 0) ∧ Below w.heap.size w w' := by
  go_enter Tryd.func22, Tryd.ntmps22
  go_wp2_with (go_at_call 40; refine (wrongV _ _ _ _ _ _ (by assumption)).mono ?_; rintro e w1 ⟨rfl, hb⟩; have hB : Below w.heap.size w w1 := bup (by with_reducible (first | assumption | exact Below.drew (by assumption) | exact bal _ _ | exact (bal _ _).alloc (by simp) _ | exact (bal _ _).drew | exact ((bal _ _).alloc (by simp) _).drew | exact Below.refl _ _ | exact (Below.refl _ _).drew)) hb; have o0 : Own w1 (w.heap.size) #[.int .i64 (t), .int .i64 (n), .string s, .bool b, .int .i64 (c)] := Own.keep (by with_reducible (first | assumption | exact Own.drew (by assumption) | exact Own.new _ _ _ | exact Own.new2 _ _ _ _ | exact (Own.new _ _ _).past _ | exact Own.drew (Own.new _ _ _) | exact (Own.new2 _ _ _ _).drew | exact ((Own.new _ _ _).past _).drew)) hb; have c0 := o0.cell; have f0 := o0.fro; have o1 : Own w1 (w.heap.size + 1) #[.int .i64 (t'), .int .i64 (n'), .string s', .bool b', .int .i64 (c')] := Own.keep (by with_reducible (first | assumption | exact Own.drew (by assumption) | exact Own.new _ _ _ | exact Own.new2 _ _ _ _ | exact (Own.new _ _ _).past _ | exact Own.drew (Own.new _ _ _) | exact (Own.new2 _ _ _ _).drew | exact ((Own.new _ _ _).past _).drew)) hb; have c1 := o1.cell; have f1 := o1.fro)
  go_ret
  exact ⟨rfl, by with_reducible assumption⟩
theorem cmp_wb (t n : Int) (s : ByteArray) (b : Bool) (c : Int) (t' n' : Int) (s' : ByteArray) (b' : Bool) (c' : Int) (w : World) (hn : I64 n) (hn' : I64 n') (ha : wrongC t n s b c = 0) (hx : (wrongC t' n' s' b' c' != 0) = true) : Calls Tryd.prog 22 #[(.agg #[.int .i64 (t), .int .i64 (n), .string s, .bool b, .int .i64 (c)]), (.agg #[.int .i64 (t'), .int .i64 (n'), .string s', .bool b', .int .i64 (c')])] w fun e w' => e = .returned (.int .i64 0) ∧ Below w.heap.size w w' := by
  go_enter Tryd.func22, Tryd.ntmps22
  go_wp2_with (go_at_call 40; refine (wrongV _ _ _ _ _ _ (by assumption)).mono ?_; rintro e w1 ⟨rfl, hb⟩; have hB : Below w.heap.size w w1 := bup (by with_reducible (first | assumption | exact Below.drew (by assumption) | exact bal _ _ | exact (bal _ _).alloc (by simp) _ | exact (bal _ _).drew | exact ((bal _ _).alloc (by simp) _).drew | exact Below.refl _ _ | exact (Below.refl _ _).drew)) hb; have o0 : Own w1 (w.heap.size) #[.int .i64 (t), .int .i64 (n), .string s, .bool b, .int .i64 (c)] := Own.keep (by with_reducible (first | assumption | exact Own.drew (by assumption) | exact Own.new _ _ _ | exact Own.new2 _ _ _ _ | exact (Own.new _ _ _).past _ | exact Own.drew (Own.new _ _ _) | exact (Own.new2 _ _ _ _).drew | exact ((Own.new _ _ _).past _).drew)) hb; have c0 := o0.cell; have f0 := o0.fro; have o1 : Own w1 (w.heap.size + 1) #[.int .i64 (t'), .int .i64 (n'), .string s', .bool b', .int .i64 (c')] := Own.keep (by with_reducible (first | assumption | exact Own.drew (by assumption) | exact Own.new _ _ _ | exact Own.new2 _ _ _ _ | exact (Own.new _ _ _).past _ | exact Own.drew (Own.new _ _ _) | exact (Own.new2 _ _ _ _).drew | exact ((Own.new _ _ _).past _).drew)) hb; have c1 := o1.cell; have f1 := o1.fro)
  go_ret
  exact ⟨rfl, by with_reducible assumption⟩
theorem compV (t n : Int) (s : ByteArray) (b : Bool) (c : Int) (t' n' : Int) (s' : ByteArray) (b' : Bool) (c' : Int) (w : World) (hn : I64 n) (hn' : I64 n') : Calls Tryd.prog 22 #[(.agg #[.int .i64 (t), .int .i64 (n), .string s, .bool b, .int .i64 (c)]), (.agg #[.int .i64 (t'), .int .i64 (n'), .string s', .bool b', .int .i64 (c')])] w fun e w' => e = .returned (.int .i64 (cmpV t n s b c t' n' s' b' c')) ∧ Below w.heap.size w w' := by
  unfold cmpV
  by_cases ha : mayB t n s b c = true ∧ ¬ t = 4
  case neg => rw [if_neg (fun h => ha ⟨h.1, h.2.2.1⟩)]; exact cmp_wa t n s b c t' n' s' b' c' w hn hn' (wrong_ne ha)
  by_cases hb : mayB t' n' s' b' c' = true ∧ ¬ t' = 4
  case neg => rw [if_neg (fun h => hb ⟨h.2.1, h.2.2.2⟩)]; exact cmp_wb t n s b c t' n' s' b' c' w hn hn' (wrong_0 ha.1 ha.2) (wrong_ne hb)
  rw [if_pos ⟨ha.1, hb.1, ha.2, hb.2⟩]
  have wa := wrong_0 ha.1 ha.2
  have wb := wrong_0 hb.1 hb.2
  have ma := ha.1
  have mb := hb.1
  rcases may_cases ha.1 ha.2 with ⟨rfl, rfl, rfl, rfl, rfl⟩ | ⟨rfl, rfl, rfl, rfl⟩ | ⟨rfl, rfl, rfl, rfl⟩ | ⟨rfl, rfl, rfl, rfl⟩
  · rcases may_cases hb.1 hb.2 with ⟨rfl, rfl, rfl, rfl, rfl⟩ | ⟨rfl, rfl, rfl, rfl⟩ | ⟨rfl, rfl, rfl, rfl⟩ | ⟨rfl, rfl, rfl, rfl⟩
    · rw [show cmpC (0) (0) ⟨#[]⟩ false (0) (0) ⟨#[]⟩ false = 0 by simp [cmpC, fillT]]; exact cmp_00 w wa wb
    · rw [show cmpC (0) (0) ⟨#[]⟩ false (1) (n') ⟨#[]⟩ false = cmpI (0) (n') by simp [cmpC, fillT]]; exact cmp_01 n' w hn' wa wb
    · rw [show cmpC (0) (0) ⟨#[]⟩ false (2) (0) s' false = cmpS ⟨#[]⟩ s' by simp [cmpC, fillT]]; exact cmp_02 s' w wa wb
    · rw [show cmpC (0) (0) ⟨#[]⟩ false (3) (0) ⟨#[]⟩ b' = cmpI (partsI false) (partsI b') by simp [cmpC, fillT]]; exact cmp_03 b' w wa wb
  · rcases may_cases hb.1 hb.2 with ⟨rfl, rfl, rfl, rfl, rfl⟩ | ⟨rfl, rfl, rfl, rfl⟩ | ⟨rfl, rfl, rfl, rfl⟩ | ⟨rfl, rfl, rfl, rfl⟩
    · rw [show cmpC (1) (n) ⟨#[]⟩ false (0) (0) ⟨#[]⟩ false = cmpI (n) (0) by simp [cmpC, fillT]]; exact cmp_10 n w hn wa wb
    · rw [show cmpC (1) (n) ⟨#[]⟩ false (1) (n') ⟨#[]⟩ false = cmpI (n) (n') by simp [cmpC, fillT]]; exact cmp_11 n n' w hn hn' wa wb
    · rw [show cmpC (1) (n) ⟨#[]⟩ false (2) (0) s' false = cmpI 1 2 by simp [cmpC, fillT]]; exact cmp_ne (1) (n) ⟨#[]⟩ false (0) (2) (0) s' false (0) w (by decide) (by decide) (by decide) hn hn' wa wb
    · rw [show cmpC (1) (n) ⟨#[]⟩ false (3) (0) ⟨#[]⟩ b' = cmpI 1 3 by simp [cmpC, fillT]]; exact cmp_ne (1) (n) ⟨#[]⟩ false (0) (3) (0) ⟨#[]⟩ b' (0) w (by decide) (by decide) (by decide) hn hn' wa wb
  · rcases may_cases hb.1 hb.2 with ⟨rfl, rfl, rfl, rfl, rfl⟩ | ⟨rfl, rfl, rfl, rfl⟩ | ⟨rfl, rfl, rfl, rfl⟩ | ⟨rfl, rfl, rfl, rfl⟩
    · rw [show cmpC (2) (0) s false (0) (0) ⟨#[]⟩ false = cmpS s ⟨#[]⟩ by simp [cmpC, fillT]]; exact cmp_20 s w wa wb
    · rw [show cmpC (2) (0) s false (1) (n') ⟨#[]⟩ false = cmpI 2 1 by simp [cmpC, fillT]]; exact cmp_ne (2) (0) s false (0) (1) (n') ⟨#[]⟩ false (0) w (by decide) (by decide) (by decide) hn hn' wa wb
    · rw [show cmpC (2) (0) s false (2) (0) s' false = cmpS s s' by simp [cmpC, fillT]]; exact cmp_22 s s' w wa wb
    · rw [show cmpC (2) (0) s false (3) (0) ⟨#[]⟩ b' = cmpI 2 3 by simp [cmpC, fillT]]; exact cmp_ne (2) (0) s false (0) (3) (0) ⟨#[]⟩ b' (0) w (by decide) (by decide) (by decide) hn hn' wa wb
  · rcases may_cases hb.1 hb.2 with ⟨rfl, rfl, rfl, rfl, rfl⟩ | ⟨rfl, rfl, rfl, rfl⟩ | ⟨rfl, rfl, rfl, rfl⟩ | ⟨rfl, rfl, rfl, rfl⟩
    · rw [show cmpC (3) (0) ⟨#[]⟩ b (0) (0) ⟨#[]⟩ false = cmpI (partsI b) (partsI false) by simp [cmpC, fillT]]; exact cmp_30 b w wa wb
    · rw [show cmpC (3) (0) ⟨#[]⟩ b (1) (n') ⟨#[]⟩ false = cmpI 3 1 by simp [cmpC, fillT]]; exact cmp_ne (3) (0) ⟨#[]⟩ b (0) (1) (n') ⟨#[]⟩ false (0) w (by decide) (by decide) (by decide) hn hn' wa wb
    · rw [show cmpC (3) (0) ⟨#[]⟩ b (2) (0) s' false = cmpI 3 2 by simp [cmpC, fillT]]; exact cmp_ne (3) (0) ⟨#[]⟩ b (0) (2) (0) s' false (0) w (by decide) (by decide) (by decide) hn hn' wa wb
    · rw [show cmpC (3) (0) ⟨#[]⟩ b (3) (0) ⟨#[]⟩ b' = cmpI (partsI b) (partsI b') by simp [cmpC, fillT]]; exact cmp_33 b b' w wa wb
theorem rcompV (t n : Int) (s : ByteArray) (b : Bool) (c : Int) (t' n' : Int) (s' : ByteArray) (b' : Bool) (c' : Int) (w : World) (hn : I64 n) (hn' : I64 n') (hs : s.size ≤ maxLen) (hs' : s'.size ≤ maxLen) : Calls Tryd.prog 23 #[(.agg #[.int .i64 (t), .int .i64 (n), .string s, .bool b, .int .i64 (c)]), (.agg #[.int .i64 (t'), .int .i64 (n'), .string s', .bool b', .int .i64 (c')])] w fun e w' => e = .returned (.int .i64 (cmpV t n s b c t' n' s' b' c')) ∧ Below w.heap.size w w' := by
  unfold cmpV
  by_cases h1 : mayB t n s b c = true
  case neg => rw [if_neg (fun h => h1 h.1)]; exact rcmp_fa t n s b c t' n' s' b' c' w hn hn' (by simpa using h1)
  by_cases h2 : mayB t' n' s' b' c' = true
  case neg => rw [if_neg (fun h => h2 h.2.1)]; exact rcmp_fb t n s b c t' n' s' b' c' w hn hn' h1 (by simpa using h2)
  by_cases h3 : t = 4
  · rw [if_neg (fun h => h.2.2.1 h3)]; subst h3; exact rcmp_4a n s b c t' n' s' b' c' w hn hn' h1 h2
  by_cases h4 : t' = 4
  · rw [if_neg (fun h => h.2.2.2 h4)]; subst h4; exact rcmp_4b t n s b c n' s' b' c' w hn hn' h3 h1 h2
  have ha : mayB t n s b c = true ∧ ¬ t = 4 := ⟨h1, h3⟩
  have hb : mayB t' n' s' b' c' = true ∧ ¬ t' = 4 := ⟨h2, h4⟩
  clear h1 h2 h3 h4
  rw [if_pos ⟨ha.1, hb.1, ha.2, hb.2⟩]
  have wa := wrong_0 ha.1 ha.2
  have wb := wrong_0 hb.1 hb.2
  have ma := ha.1
  have mb := hb.1
  rcases may_cases ha.1 ha.2 with ⟨rfl, rfl, rfl, rfl, rfl⟩ | ⟨rfl, rfl, rfl, rfl⟩ | ⟨rfl, rfl, rfl, rfl⟩ | ⟨rfl, rfl, rfl, rfl⟩
  · rcases may_cases hb.1 hb.2 with ⟨rfl, rfl, rfl, rfl, rfl⟩ | ⟨rfl, rfl, rfl, rfl⟩ | ⟨rfl, rfl, rfl, rfl⟩ | ⟨rfl, rfl, rfl, rfl⟩
    · rw [show cmpC (0) (0) ⟨#[]⟩ false (0) (0) ⟨#[]⟩ false = 0 by simp [cmpC, fillT]]; exact rcmp_00 w ma mb
    · rw [show cmpC (0) (0) ⟨#[]⟩ false (1) (n') ⟨#[]⟩ false = cmpI (0) (n') by simp [cmpC, fillT]]; unfold cmpI
      by_cases hl : 0 < n'
      · rw [if_pos hl]; exact rcmp_01l n' w hn' hl ma mb
      · rw [if_neg hl]
        by_cases hg : n' < 0
        · rw [if_pos hg]; exact rcmp_01g n' w hn' hg hl ma mb
        · rw [if_neg hg]
          have he : n' = 0 := by omega
          subst he; exact rcmp_01e w ma mb
    · rw [show cmpC (0) (0) ⟨#[]⟩ false (2) (0) s' false = cmpS ⟨#[]⟩ s' by simp [cmpC, fillT]]; exact rcmp_02 s' w hs' ma mb
    · rw [show cmpC (0) (0) ⟨#[]⟩ false (3) (0) ⟨#[]⟩ b' = cmpI (partsI false) (partsI b') by simp [cmpC, fillT]]; cases b'
      · exact rcmp_03f w ma mb
      · exact rcmp_03t w ma mb
  · rcases may_cases hb.1 hb.2 with ⟨rfl, rfl, rfl, rfl, rfl⟩ | ⟨rfl, rfl, rfl, rfl⟩ | ⟨rfl, rfl, rfl, rfl⟩ | ⟨rfl, rfl, rfl, rfl⟩
    · rw [show cmpC (1) (n) ⟨#[]⟩ false (0) (0) ⟨#[]⟩ false = cmpI (n) (0) by simp [cmpC, fillT]]; unfold cmpI
      by_cases hl : n < 0
      · rw [if_pos hl]; exact rcmp_10l n w hn hl ma mb
      · rw [if_neg hl]
        by_cases hg : 0 < n
        · rw [if_pos hg]; exact rcmp_10g n w hn hg hl ma mb
        · rw [if_neg hg]
          have he : n = 0 := by omega
          subst he; exact rcmp_10e w ma mb
    · rw [show cmpC (1) (n) ⟨#[]⟩ false (1) (n') ⟨#[]⟩ false = cmpI (n) (n') by simp [cmpC, fillT]]; unfold cmpI
      by_cases hl : n < n'
      · rw [if_pos hl]; exact rcmp_11l n n' w hn hn' hl ma mb
      · rw [if_neg hl]
        by_cases hg : n' < n
        · rw [if_pos hg]; exact rcmp_11g n n' w hn hn' hg hl ma mb
        · rw [if_neg hg]
          have he : n = n' := by omega
          subst he; exact rcmp_11e n w hn ma mb
    · rw [show cmpC (1) (n) ⟨#[]⟩ false (2) (0) s' false = cmpI 1 2 by simp [cmpC, fillT]]; exact rcmp_12 n s' w hn ma mb
    · rw [show cmpC (1) (n) ⟨#[]⟩ false (3) (0) ⟨#[]⟩ b' = cmpI 1 3 by simp [cmpC, fillT]]; exact rcmp_13 n b' w hn ma mb
  · rcases may_cases hb.1 hb.2 with ⟨rfl, rfl, rfl, rfl, rfl⟩ | ⟨rfl, rfl, rfl, rfl⟩ | ⟨rfl, rfl, rfl, rfl⟩ | ⟨rfl, rfl, rfl, rfl⟩
    · rw [show cmpC (2) (0) s false (0) (0) ⟨#[]⟩ false = cmpS s ⟨#[]⟩ by simp [cmpC, fillT]]; exact rcmp_20 s w hs ma mb
    · rw [show cmpC (2) (0) s false (1) (n') ⟨#[]⟩ false = cmpI 2 1 by simp [cmpC, fillT]]; exact rcmp_21 s n' w hn' ma mb
    · rw [show cmpC (2) (0) s false (2) (0) s' false = cmpS s s' by simp [cmpC, fillT]]; exact rcmp_22 s s' w hs hs' ma mb
    · rw [show cmpC (2) (0) s false (3) (0) ⟨#[]⟩ b' = cmpI 2 3 by simp [cmpC, fillT]]; exact rcmp_23 s b' w  ma mb
  · rcases may_cases hb.1 hb.2 with ⟨rfl, rfl, rfl, rfl, rfl⟩ | ⟨rfl, rfl, rfl, rfl⟩ | ⟨rfl, rfl, rfl, rfl⟩ | ⟨rfl, rfl, rfl, rfl⟩
    · rw [show cmpC (3) (0) ⟨#[]⟩ b (0) (0) ⟨#[]⟩ false = cmpI (partsI b) (partsI false) by simp [cmpC, fillT]]; cases b
      · exact rcmp_30f w ma mb
      · exact rcmp_30t w ma mb
    · rw [show cmpC (3) (0) ⟨#[]⟩ b (1) (n') ⟨#[]⟩ false = cmpI 3 1 by simp [cmpC, fillT]]; exact rcmp_31 b n' w hn' ma mb
    · rw [show cmpC (3) (0) ⟨#[]⟩ b (2) (0) s' false = cmpI 3 2 by simp [cmpC, fillT]]; exact rcmp_32 b s' w  ma mb
    · rw [show cmpC (3) (0) ⟨#[]⟩ b (3) (0) ⟨#[]⟩ b' = cmpI (partsI b) (partsI b') by simp [cmpC, fillT]]; cases b <;> cases b'
      · exact rcmp_33ff w ma mb
      · exact rcmp_33ft w ma mb
      · exact rcmp_33tf w ma mb
      · exact rcmp_33tt w ma mb
end Go.Proofs.YtnaonpienaddaaaDoor
