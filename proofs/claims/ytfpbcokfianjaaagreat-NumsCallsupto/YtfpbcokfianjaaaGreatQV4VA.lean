/- Parts of the contract of value.Compare: of any two values -1, 0 or 1. New memory alone is made. No condition but that the numbers are int64. · The contracts of AsNumber of package value and of the document's: of every value what it is taken for, and the code. New memory alone is made. -/
import Derived.Test.YtfpbcokfianjaaaGreatQNT4V3
import Derived.Test.YtfpbcokfianjaaaGreatQNT0VO
import Derived.Deep.RegionHeld3
namespace Go.Proofs.YtfpbcokfianjaaaGreat
open Go.RowKit
set_option linter.all false
theorem may_cases {t n : Int} {s : ByteArray} {b : Bool} {c : Int} (h : mayB t n s b c = true) (h4 : ¬ t = 4) :
    (t = 0 ∧ n = 0 ∧ s = ⟨#[]⟩ ∧ b = false ∧ c = 0) ∨ (t = 1 ∧ s = ⟨#[]⟩ ∧ b = false ∧ c = 0) ∨ (t = 2 ∧ n = 0 ∧ b = false ∧ c = 0) ∨ (t = 3 ∧ n = 0 ∧ s = ⟨#[]⟩ ∧ c = 0) := by
  unfold mayB at h
  obtain ⟨h1, h2, h3, h5, h6, h7, _, _⟩ := of_decide_eq_true h
  have ht : t = 0 ∨ t = 1 ∨ t = 2 ∨ t = 3 := by omega
  rcases ht with rfl | rfl | rfl | rfl
  · exact .inl ⟨rfl, h1 (by decide), h2 (by decide), h3 (by decide), h5 (by decide)⟩
  · exact .inr (.inl ⟨rfl, h2 (by decide), h3 (by decide), h5 (by decide)⟩)
  · exact .inr (.inr (.inl ⟨rfl, h1 (by decide), h3 (by decide), h5 (by decide)⟩))
  · exact .inr (.inr (.inr ⟨rfl, h1 (by decide), h2 (by decide), h5 (by decide)⟩))
theorem may_c {t n : Int} {s : ByteArray} {b : Bool} {c : Int} (h : mayB t n s b c = true) : (t = 4 → ¬ c = 0) ∧ (¬ t = 4 → c = 0) := by
  unfold mayB at h
  obtain ⟨h1, h2, h3, h5, h6, h7, _, h8⟩ := of_decide_eq_true h
  exact ⟨fun h => by have := h8 h; omega, h5⟩
theorem wrong_ne {t n : Int} {s : ByteArray} {b : Bool} {c : Int} (h : ¬ (mayB t n s b c = true ∧ ¬ t = 4)) : (wrongC t n s b c != 0) = true := by
  by_cases hm : mayB t n s b c = true
  · have h4 : t = 4 := Decidable.byContradiction fun k => h ⟨hm, k⟩
    rw [wrong_t hm]; simpa using (may_c hm).1 h4
  · rw [wrong_f (by simpa using hm)]; rfl
theorem wrong_0 {t n : Int} {s : ByteArray} {b : Bool} {c : Int} (hm : mayB t n s b c = true) (h4 : ¬ t = 4) : wrongC t n s b c = 0 := by
  rw [wrong_t hm]; exact (may_c hm).2 h4
end Go.Proofs.YtfpbcokfianjaaaGreat
namespace Go.Proofs.YtfpbcokfianjaaaGreat
open Go.RowKit
set_option linter.all false
/-- What a value is taken for as a number, as a text, as a truth; and the code. -/
def asNum (t n : Int) (s : ByteArray) (b : Bool) (c : Int) : Int := if mayB t n s b c = true ∧ ¬ t = 4 then (if t = 1 then n else if t = 3 then partsI b else 0) else 0
def asCode (t n : Int) (s : ByteArray) (b : Bool) (c : Int) : Int := if mayB t n s b c = true ∧ ¬ t = 4 then (if t = 2 then 4 else 0) else wrongC t n s b c
theorem AsNumber_w (t n : Int) (s : ByteArray) (b : Bool) (c : Int) (w : World) (hn : I64 n) (hx : (wrongC (t) (n) s b (c) != 0) = true) (hy : (wrongC (t) (n) s b (c) == 0) = false) : Calls Tryz.prog 30 #[(.agg #[.int .i64 (t), .int .i64 (n), .string s, .bool b, .int .i64 (c)])] w fun e w' => e = .returned (.tuple #[.int .i64 (0), .int .i64 (wrongC (t) (n) s b (c))]) ∧ Below w.heap.size w w' := by
  go_enter Tryz.func30, Tryz.ntmps30
  go_wp2_with (go_at_call 67; refine (wrongV _ _ _ _ _ _ (by assumption)).mono ?_; rintro e w1 ⟨rfl, hb⟩; have hB : Below w.heap.size w w1 := bup (by with_reducible (first | assumption | exact Below.drew (by assumption) | exact bal _ _ | exact (bal _ _).alloc (by simp) _ | exact (bal _ _).drew | exact ((bal _ _).alloc (by simp) _).drew | exact Below.refl _ _ | exact (Below.refl _ _).drew)) hb; have o0 : Own w1 (w.heap.size) #[.int .i64 (t), .int .i64 (n), .string s, .bool b, .int .i64 (c)] := Own.keep (by with_reducible (first | assumption | exact Own.drew (by assumption) | exact Own.new _ _ _ | exact Own.new2 _ _ _ _ | exact (Own.new _ _ _).past _ | exact Own.drew (Own.new _ _ _) | exact (Own.new2 _ _ _ _).drew | exact ((Own.new _ _ _).past _).drew)) hb; have c0 := o0.cell; have f0 := o0.fro)
  all_goals go_ret2
  all_goals refine ⟨rfl, ?_⟩
  all_goals repeat' with_reducible first | assumption | refine Below.setCell ?_ (by first | exact Nat.le_refl _ | (simp; done) | (simp; omega)) _ | refine Below.drew ?_
theorem AsNumber_0  (w : World) (hw : wrongC (0) (0) ⟨#[]⟩ false (0) = 0) : Calls Tryz.prog 30 #[(.agg #[.int .i64 (0), .int .i64 (0), .string ⟨#[]⟩, .bool false, .int .i64 (0)])] w fun e w' => e = .returned (.tuple #[.int .i64 (0), .int .i64 (0)]) ∧ Below w.heap.size w w' := by
  have hz : I64 0 := ⟨by decide, by decide⟩
  go_enter Tryz.func30, Tryz.ntmps30
  go_wp2_with (first | (go_at_call 67; refine (wrongV _ _ _ _ _ _ (by assumption)).mono ?_; rintro e w1 ⟨rfl, hb⟩; have hB : Below w.heap.size w w1 := bup (by with_reducible (first | assumption | exact Below.drew (by assumption) | exact bal _ _ | exact (bal _ _).alloc (by simp) _ | exact (bal _ _).drew | exact ((bal _ _).alloc (by simp) _).drew | exact Below.refl _ _ | exact (Below.refl _ _).drew)) hb; have o0 : Own w1 (w.heap.size) #[.int .i64 (0), .int .i64 (0), .string ⟨#[]⟩, .bool false, .int .i64 (0)] := Own.keep (by with_reducible (first | assumption | exact Own.drew (by assumption) | exact Own.new _ _ _ | exact Own.new2 _ _ _ _ | exact (Own.new _ _ _).past _ | exact Own.drew (Own.new _ _ _) | exact (Own.new2 _ _ _ _).drew | exact ((Own.new _ _ _).past _).drew)) hb; have c0 := o0.cell; have f0 := o0.fro) | (go_at_call 68; refine (partsV _ _).mono ?_; rintro e w5 ⟨rfl, rfl⟩))
  all_goals go_ret2
  all_goals refine ⟨rfl, ?_⟩
  all_goals repeat' with_reducible first | assumption | refine Below.setCell ?_ (by first | exact Nat.le_refl _ | (simp; done) | (simp; omega)) _ | refine Below.drew ?_
theorem AsNumber_1 (n : Int) (w : World) (hn : I64 n) (hw : wrongC (1) (n) ⟨#[]⟩ false (0) = 0) : Calls Tryz.prog 30 #[(.agg #[.int .i64 (1), .int .i64 (n), .string ⟨#[]⟩, .bool false, .int .i64 (0)])] w fun e w' => e = .returned (.tuple #[.int .i64 (n), .int .i64 (0)]) ∧ Below w.heap.size w w' := by
  have hz : I64 0 := ⟨by decide, by decide⟩
  go_enter Tryz.func30, Tryz.ntmps30
  go_wp2_with (first | (go_at_call 67; refine (wrongV _ _ _ _ _ _ (by assumption)).mono ?_; rintro e w1 ⟨rfl, hb⟩; have hB : Below w.heap.size w w1 := bup (by with_reducible (first | assumption | exact Below.drew (by assumption) | exact bal _ _ | exact (bal _ _).alloc (by simp) _ | exact (bal _ _).drew | exact ((bal _ _).alloc (by simp) _).drew | exact Below.refl _ _ | exact (Below.refl _ _).drew)) hb; have o0 : Own w1 (w.heap.size) #[.int .i64 (1), .int .i64 (n), .string ⟨#[]⟩, .bool false, .int .i64 (0)] := Own.keep (by with_reducible (first | assumption | exact Own.drew (by assumption) | exact Own.new _ _ _ | exact Own.new2 _ _ _ _ | exact (Own.new _ _ _).past _ | exact Own.drew (Own.new _ _ _) | exact (Own.new2 _ _ _ _).drew | exact ((Own.new _ _ _).past _).drew)) hb; have c0 := o0.cell; have f0 := o0.fro) | (go_at_call 68; refine (partsV _ _).mono ?_; rintro e w5 ⟨rfl, rfl⟩))
  all_goals go_ret2
  all_goals refine ⟨rfl, ?_⟩
  all_goals repeat' with_reducible first | assumption | refine Below.setCell ?_ (by first | exact Nat.le_refl _ | (simp; done) | (simp; omega)) _ | refine Below.drew ?_
theorem AsNumber_2 (s : ByteArray) (w : World) (hw : wrongC (2) (0) s false (0) = 0) : Calls Tryz.prog 30 #[(.agg #[.int .i64 (2), .int .i64 (0), .string s, .bool false, .int .i64 (0)])] w fun e w' => e = .returned (.tuple #[.int .i64 (0), .int .i64 (4)]) ∧ Below w.heap.size w w' := by
  have hz : I64 0 := ⟨by decide, by decide⟩
  go_enter Tryz.func30, Tryz.ntmps30
  go_wp2_with (first | (go_at_call 67; refine (wrongV _ _ _ _ _ _ (by assumption)).mono ?_; rintro e w1 ⟨rfl, hb⟩; have hB : Below w.heap.size w w1 := bup (by with_reducible (first | assumption | exact Below.drew (by assumption) | exact bal _ _ | exact (bal _ _).alloc (by simp) _ | exact (bal _ _).drew | exact ((bal _ _).alloc (by simp) _).drew | exact Below.refl _ _ | exact (Below.refl _ _).drew)) hb; have o0 : Own w1 (w.heap.size) #[.int .i64 (2), .int .i64 (0), .string s, .bool false, .int .i64 (0)] := Own.keep (by with_reducible (first | assumption | exact Own.drew (by assumption) | exact Own.new _ _ _ | exact Own.new2 _ _ _ _ | exact (Own.new _ _ _).past _ | exact Own.drew (Own.new _ _ _) | exact (Own.new2 _ _ _ _).drew | exact ((Own.new _ _ _).past _).drew)) hb; have c0 := o0.cell; have f0 := o0.fro) | (go_at_call 68; refine (partsV _ _).mono ?_; rintro e w5 ⟨rfl, rfl⟩))
  all_goals go_ret2
  all_goals refine ⟨rfl, ?_⟩
  all_goals repeat' with_reducible first | assumption | refine Below.setCell ?_ (by first | exact Nat.le_refl _ | (simp; done) | (simp; omega)) _ | refine Below.drew ?_
theorem AsNumber_3 (b : Bool) (w : World) (hw : wrongC (3) (0) ⟨#[]⟩ b (0) = 0) : Calls Tryz.prog 30 #[(.agg #[.int .i64 (3), .int .i64 (0), .string ⟨#[]⟩, .bool b, .int .i64 (0)])] w fun e w' => e = .returned (.tuple #[.int .i64 (partsI b), .int .i64 (0)]) ∧ Below w.heap.size w w' := by
  have hz : I64 0 := ⟨by decide, by decide⟩
  go_enter Tryz.func30, Tryz.ntmps30
  go_wp2_with (first | (go_at_call 67; refine (wrongV _ _ _ _ _ _ (by assumption)).mono ?_; rintro e w1 ⟨rfl, hb⟩; have hB : Below w.heap.size w w1 := bup (by with_reducible (first | assumption | exact Below.drew (by assumption) | exact bal _ _ | exact (bal _ _).alloc (by simp) _ | exact (bal _ _).drew | exact ((bal _ _).alloc (by simp) _).drew | exact Below.refl _ _ | exact (Below.refl _ _).drew)) hb; have o0 : Own w1 (w.heap.size) #[.int .i64 (3), .int .i64 (0), .string ⟨#[]⟩, .bool b, .int .i64 (0)] := Own.keep (by with_reducible (first | assumption | exact Own.drew (by assumption) | exact Own.new _ _ _ | exact Own.new2 _ _ _ _ | exact (Own.new _ _ _).past _ | exact Own.drew (Own.new _ _ _) | exact (Own.new2 _ _ _ _).drew | exact ((Own.new _ _ _).past _).drew)) hb; have c0 := o0.cell; have f0 := o0.fro) | (go_at_call 68; refine (partsV _ _).mono ?_; rintro e w5 ⟨rfl, rfl⟩))
  all_goals go_ret2
  all_goals refine ⟨rfl, ?_⟩
  all_goals repeat' with_reducible first | assumption | refine Below.setCell ?_ (by first | exact Nat.le_refl _ | (simp; done) | (simp; omega)) _ | refine Below.drew ?_
theorem aNumberV (t n : Int) (s : ByteArray) (b : Bool) (c : Int) (w : World) (hn : I64 n) : Calls Tryz.prog 30 #[(.agg #[.int .i64 (t), .int .i64 (n), .string s, .bool b, .int .i64 (c)])] w fun e w' => e = .returned (.tuple #[.int .i64 (asNum t n s b c), .int .i64 (asCode t n s b c)]) ∧ Below w.heap.size w w' := by
  unfold asNum asCode
  by_cases hm : mayB t n s b c = true ∧ ¬ t = 4
  case neg =>
    rw [if_neg hm, if_neg hm]
    exact AsNumber_w t n s b c w hn (wrong_ne hm) (by have h := wrong_ne hm; simpa using h)
  rw [if_pos hm, if_pos hm]
  have hw := wrong_0 hm.1 hm.2
  rcases may_cases hm.1 hm.2 with ⟨rfl, rfl, rfl, rfl, rfl⟩ | ⟨rfl, rfl, rfl, rfl⟩ | ⟨rfl, rfl, rfl, rfl⟩ | ⟨rfl, rfl, rfl, rfl⟩
  · exact AsNumber_0 w hw
  · exact AsNumber_1 n w hn hw
  · exact AsNumber_2 s w hw
  · exact AsNumber_3 b w hw
theorem rAsNumber_w (t n : Int) (s : ByteArray) (b : Bool) (c : Int) (w : World) (hn : I64 n) (hx : (wrongC (t) (n) s b (c) != 0) = true) (hy : (wrongC (t) (n) s b (c) == 0) = false) : Calls Tryz.prog 16 #[(.agg #[.int .i64 (t), .int .i64 (n), .string s, .bool b, .int .i64 (c)])] w fun e w' => e = .returned (.tuple #[.int .i64 (0), .int .i64 (wrongC (t) (n) s b (c))]) ∧ Below w.heap.size w w' := by
  go_enter Tryz.func16, Tryz.ntmps16
  go_wp2_with (go_at_call 33; refine (rfaultV _ _ _ _ _ _ (by assumption)).mono ?_; rintro e w1 ⟨rfl, hb⟩; have hB : Below w.heap.size w w1 := bup (by with_reducible (first | assumption | exact Below.drew (by assumption) | exact bal _ _ | exact (bal _ _).alloc (by simp) _ | exact (bal _ _).drew | exact ((bal _ _).alloc (by simp) _).drew | exact Below.refl _ _ | exact (Below.refl _ _).drew)) hb; have o0 : Own w1 (w.heap.size) #[.int .i64 (t), .int .i64 (n), .string s, .bool b, .int .i64 (c)] := Own.keep (by with_reducible (first | assumption | exact Own.drew (by assumption) | exact Own.new _ _ _ | exact Own.new2 _ _ _ _ | exact (Own.new _ _ _).past _ | exact Own.drew (Own.new _ _ _) | exact (Own.new2 _ _ _ _).drew | exact ((Own.new _ _ _).past _).drew)) hb; have c0 := o0.cell; have f0 := o0.fro)
  all_goals go_ret2
  all_goals refine ⟨rfl, ?_⟩
  all_goals repeat' with_reducible first | assumption | refine Below.setCell ?_ (by first | exact Nat.le_refl _ | (simp; done) | (simp; omega)) _ | refine Below.drew ?_
theorem rAsNumber_0  (w : World) (hw : wrongC (0) (0) ⟨#[]⟩ false (0) = 0) : Calls Tryz.prog 16 #[(.agg #[.int .i64 (0), .int .i64 (0), .string ⟨#[]⟩, .bool false, .int .i64 (0)])] w fun e w' => e = .returned (.tuple #[.int .i64 (0), .int .i64 (0)]) ∧ Below w.heap.size w w' := by
  have hz : I64 0 := ⟨by decide, by decide⟩
  go_enter Tryz.func16, Tryz.ntmps16
  go_wp2_with (go_at_call 33; refine (rfaultV _ _ _ _ _ _ (by assumption)).mono ?_; rintro e w1 ⟨rfl, hb⟩; have hB : Below w.heap.size w w1 := bup (by with_reducible (first | assumption | exact Below.drew (by assumption) | exact bal _ _ | exact (bal _ _).alloc (by simp) _ | exact (bal _ _).drew | exact ((bal _ _).alloc (by simp) _).drew | exact Below.refl _ _ | exact (Below.refl _ _).drew)) hb; have o0 : Own w1 (w.heap.size) #[.int .i64 (0), .int .i64 (0), .string ⟨#[]⟩, .bool false, .int .i64 (0)] := Own.keep (by with_reducible (first | assumption | exact Own.drew (by assumption) | exact Own.new _ _ _ | exact Own.new2 _ _ _ _ | exact (Own.new _ _ _).past _ | exact Own.drew (Own.new _ _ _) | exact (Own.new2 _ _ _ _).drew | exact ((Own.new _ _ _).past _).drew)) hb; have c0 := o0.cell; have f0 := o0.fro)
  all_goals go_ret2
  all_goals refine ⟨rfl, ?_⟩
  all_goals repeat' with_reducible first | assumption | refine Below.setCell ?_ (by first | exact Nat.le_refl _ | (simp; done) | (simp; omega)) _ | refine Below.drew ?_
theorem rAsNumber_1 (n : Int) (w : World) (hn : I64 n) (hw : wrongC (1) (n) ⟨#[]⟩ false (0) = 0) : Calls Tryz.prog 16 #[(.agg #[.int .i64 (1), .int .i64 (n), .string ⟨#[]⟩, .bool false, .int .i64 (0)])] w fun e w' => e = .returned (.tuple #[.int .i64 (n), .int .i64 (0)]) ∧ Below w.heap.size w w' := by
  have hz : I64 0 := ⟨by decide, by decide⟩
  go_enter Tryz.func16, Tryz.ntmps16
  go_wp2_with (go_at_call 33; refine (rfaultV _ _ _ _ _ _ (by assumption)).mono ?_; rintro e w1 ⟨rfl, hb⟩; have hB : Below w.heap.size w w1 := bup (by with_reducible (first | assumption | exact Below.drew (by assumption) | exact bal _ _ | exact (bal _ _).alloc (by simp) _ | exact (bal _ _).drew | exact ((bal _ _).alloc (by simp) _).drew | exact Below.refl _ _ | exact (Below.refl _ _).drew)) hb; have o0 : Own w1 (w.heap.size) #[.int .i64 (1), .int .i64 (n), .string ⟨#[]⟩, .bool false, .int .i64 (0)] := Own.keep (by with_reducible (first | assumption | exact Own.drew (by assumption) | exact Own.new _ _ _ | exact Own.new2 _ _ _ _ | exact (Own.new _ _ _).past _ | exact Own.drew (Own.new _ _ _) | exact (Own.new2 _ _ _ _).drew | exact ((Own.new _ _ _).past _).drew)) hb; have c0 := o0.cell; have f0 := o0.fro)
  all_goals go_ret2
  all_goals refine ⟨rfl, ?_⟩
  all_goals repeat' with_reducible first | assumption | refine Below.setCell ?_ (by first | exact Nat.le_refl _ | (simp; done) | (simp; omega)) _ | refine Below.drew ?_
theorem rAsNumber_2 (s : ByteArray) (w : World) (hw : wrongC (2) (0) s false (0) = 0) : Calls Tryz.prog 16 #[(.agg #[.int .i64 (2), .int .i64 (0), .string s, .bool false, .int .i64 (0)])] w fun e w' => e = .returned (.tuple #[.int .i64 (0), .int .i64 (4)]) ∧ Below w.heap.size w w' := by
  have hz : I64 0 := ⟨by decide, by decide⟩
  go_enter Tryz.func16, Tryz.ntmps16
  go_wp2_with (go_at_call 33; refine (rfaultV _ _ _ _ _ _ (by assumption)).mono ?_; rintro e w1 ⟨rfl, hb⟩; have hB : Below w.heap.size w w1 := bup (by with_reducible (first | assumption | exact Below.drew (by assumption) | exact bal _ _ | exact (bal _ _).alloc (by simp) _ | exact (bal _ _).drew | exact ((bal _ _).alloc (by simp) _).drew | exact Below.refl _ _ | exact (Below.refl _ _).drew)) hb; have o0 : Own w1 (w.heap.size) #[.int .i64 (2), .int .i64 (0), .string s, .bool false, .int .i64 (0)] := Own.keep (by with_reducible (first | assumption | exact Own.drew (by assumption) | exact Own.new _ _ _ | exact Own.new2 _ _ _ _ | exact (Own.new _ _ _).past _ | exact Own.drew (Own.new _ _ _) | exact (Own.new2 _ _ _ _).drew | exact ((Own.new _ _ _).past _).drew)) hb; have c0 := o0.cell; have f0 := o0.fro)
  all_goals go_ret2
  all_goals refine ⟨rfl, ?_⟩
  all_goals repeat' with_reducible first | assumption | refine Below.setCell ?_ (by first | exact Nat.le_refl _ | (simp; done) | (simp; omega)) _ | refine Below.drew ?_
theorem rAsNumber_3f (w : World) (hw : wrongC (3) (0) ⟨#[]⟩ false (0) = 0) : Calls Tryz.prog 16 #[(.agg #[.int .i64 (3), .int .i64 (0), .string ⟨#[]⟩, .bool false, .int .i64 (0)])] w fun e w' => e = .returned (.tuple #[.int .i64 (partsI false), .int .i64 (0)]) ∧ Below w.heap.size w w' := by
  have hz : I64 0 := ⟨by decide, by decide⟩
  go_enter Tryz.func16, Tryz.ntmps16
  go_wp2_with (go_at_call 33; refine (rfaultV _ _ _ _ _ _ (by assumption)).mono ?_; rintro e w1 ⟨rfl, hb⟩; have hB : Below w.heap.size w w1 := bup (by with_reducible (first | assumption | exact Below.drew (by assumption) | exact bal _ _ | exact (bal _ _).alloc (by simp) _ | exact (bal _ _).drew | exact ((bal _ _).alloc (by simp) _).drew | exact Below.refl _ _ | exact (Below.refl _ _).drew)) hb; have o0 : Own w1 (w.heap.size) #[.int .i64 (3), .int .i64 (0), .string ⟨#[]⟩, .bool false, .int .i64 (0)] := Own.keep (by with_reducible (first | assumption | exact Own.drew (by assumption) | exact Own.new _ _ _ | exact Own.new2 _ _ _ _ | exact (Own.new _ _ _).past _ | exact Own.drew (Own.new _ _ _) | exact (Own.new2 _ _ _ _).drew | exact ((Own.new _ _ _).past _).drew)) hb; have c0 := o0.cell; have f0 := o0.fro)
  all_goals go_ret2
  all_goals refine ⟨rfl, ?_⟩
  all_goals repeat' with_reducible first | assumption | refine Below.setCell ?_ (by first | exact Nat.le_refl _ | (simp; done) | (simp; omega)) _ | refine Below.drew ?_
theorem rAsNumber_3t (w : World) (hw : wrongC (3) (0) ⟨#[]⟩ true (0) = 0) : Calls Tryz.prog 16 #[(.agg #[.int .i64 (3), .int .i64 (0), .string ⟨#[]⟩, .bool true, .int .i64 (0)])] w fun e w' => e = .returned (.tuple #[.int .i64 (partsI true), .int .i64 (0)]) ∧ Below w.heap.size w w' := by
  have hz : I64 0 := ⟨by decide, by decide⟩
  go_enter Tryz.func16, Tryz.ntmps16
  go_wp2_with (go_at_call 33; refine (rfaultV _ _ _ _ _ _ (by assumption)).mono ?_; rintro e w1 ⟨rfl, hb⟩; have hB : Below w.heap.size w w1 := bup (by with_reducible (first | assumption | exact Below.drew (by assumption) | exact bal _ _ | exact (bal _ _).alloc (by simp) _ | exact (bal _ _).drew | exact ((bal _ _).alloc (by simp) _).drew | exact Below.refl _ _ | exact (Below.refl _ _).drew)) hb; have o0 : Own w1 (w.heap.size) #[.int .i64 (3), .int .i64 (0), .string ⟨#[]⟩, .bool true, .int .i64 (0)] := Own.keep (by with_reducible (first | assumption | exact Own.drew (by assumption) | exact Own.new _ _ _ | exact Own.new2 _ _ _ _ | exact (Own.new _ _ _).past _ | exact Own.drew (Own.new _ _ _) | exact (Own.new2 _ _ _ _).drew | exact ((Own.new _ _ _).past _).drew)) hb; have c0 := o0.cell; have f0 := o0.fro)
  all_goals go_ret2
  all_goals refine ⟨rfl, ?_⟩
  all_goals repeat' with_reducible first | assumption | refine Below.setCell ?_ (by first | exact Nat.le_refl _ | (simp; done) | (simp; omega)) _ | refine Below.drew ?_
theorem rAsNumber_3 (b : Bool) (w : World) (hw : wrongC (3) (0) ⟨#[]⟩ b (0) = 0) : Calls Tryz.prog 16 #[(.agg #[.int .i64 (3), .int .i64 (0), .string ⟨#[]⟩, .bool b, .int .i64 (0)])] w fun e w' => e = .returned (.tuple #[.int .i64 (partsI b), .int .i64 (0)]) ∧ Below w.heap.size w w' := by
  cases b
  · exact rAsNumber_3f w hw
  · exact rAsNumber_3t w hw
theorem raNumberV (t n : Int) (s : ByteArray) (b : Bool) (c : Int) (w : World) (hn : I64 n) : Calls Tryz.prog 16 #[(.agg #[.int .i64 (t), .int .i64 (n), .string s, .bool b, .int .i64 (c)])] w fun e w' => e = .returned (.tuple #[.int .i64 (asNum t n s b c), .int .i64 (asCode t n s b c)]) ∧ Below w.heap.size w w' := by
  unfold asNum asCode
  by_cases hm : mayB t n s b c = true ∧ ¬ t = 4
  case neg =>
    rw [if_neg hm, if_neg hm]
    exact rAsNumber_w t n s b c w hn (wrong_ne hm) (by have h := wrong_ne hm; simpa using h)
  rw [if_pos hm, if_pos hm]
  have hw := wrong_0 hm.1 hm.2
  rcases may_cases hm.1 hm.2 with ⟨rfl, rfl, rfl, rfl, rfl⟩ | ⟨rfl, rfl, rfl, rfl⟩ | ⟨rfl, rfl, rfl, rfl⟩ | ⟨rfl, rfl, rfl, rfl⟩
  · exact rAsNumber_0 w hw
  · exact rAsNumber_1 n w hn hw
  · exact rAsNumber_2 s w hw
  · exact rAsNumber_3 b w hw
end Go.Proofs.YtfpbcokfianjaaaGreat
