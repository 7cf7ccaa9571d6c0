/- The contracts of the document's AsText and Show: of every value the very text that package value's have, and the code. New memory alone is made. -/
import Derived.Test.YtnaonpienaddaaaDoorVA
import Derived.Test.YtnaonpienaddaaaDoorRPrint
namespace Go.Proofs.YtnaonpienaddaaaDoor
open Go.RowKit
set_option linter.all false
theorem rAsText_w (t n : Int) (s : ByteArray) (b : Bool) (c : Int) (w : World) (hn : I64 n) (hx : (wrongC (t) (n) s b (c) != 0) = true) (hy : (wrongC (t) (n) s b (c) == 0) = false) : Calls Tryd.prog 27 #[(.agg #[.int .i64 (t), .int .i64 (n), .string s, .bool b, .int .i64 (c)])] w fun e w' => e = .returned (.tuple #[.string (⟨#[]⟩), .int .i64 (wrongC (t) (n) s b (c))]) ∧ Below w.heap.size w w' := by
  go_enter Tryd.func27, Tryd.ntmps27
  go_wp2_with (go_at_call 47; refine (rfaultV _ _ _ _ _ _ (by assumption)).mono ?_; rintro e w1 ⟨rfl, hb⟩; have hB : Below w.heap.size w w1 := bup (by with_reducible (first | assumption | exact Below.drew (by assumption) | exact bal _ _ | exact (bal _ _).alloc (by simp) _ | exact (bal _ _).drew | exact ((bal _ _).alloc (by simp) _).drew | exact Below.refl _ _ | exact (Below.refl _ _).drew)) hb; have o0 : Own w1 (w.heap.size) #[.int .i64 (t), .int .i64 (n), .string s, .bool b, .int .i64 (c)] := Own.keep (by with_reducible (first | assumption | exact Own.drew (by assumption) | exact Own.new _ _ _ | exact Own.new2 _ _ _ _ | exact (Own.new _ _ _).past _ | exact Own.drew (Own.new _ _ _) | exact (Own.new2 _ _ _ _).drew | exact ((Own.new _ _ _).past _).drew)) hb; have c0 := o0.cell; have f0 := o0.fro)
  all_goals go_ret2
  all_goals refine ⟨rfl, ?_⟩
  all_goals repeat' with_reducible first | assumption | refine Below.setCell ?_ (by first | exact Nat.le_refl _ | (simp; done) | (simp; omega)) _ | refine Below.drew ?_
theorem rAsText_0  (w : World) (hw : wrongC (0) (0) ⟨#[]⟩ false (0) = 0) : Calls Tryd.prog 27 #[(.agg #[.int .i64 (0), .int .i64 (0), .string ⟨#[]⟩, .bool false, .int .i64 (0)])] w fun e w' => e = .returned (.tuple #[.string (⟨#[]⟩), .int .i64 (0)]) ∧ Below w.heap.size w w' := by
  have hz : I64 0 := ⟨by decide, by decide⟩
  go_enter Tryd.func27, Tryd.ntmps27
  go_wp2_with (first | (go_at_call 47; refine (rfaultV _ _ _ _ _ _ (by assumption)).mono ?_; rintro e w1 ⟨rfl, hb⟩; have hB : Below w.heap.size w w1 := bup (by with_reducible (first | assumption | exact Below.drew (by assumption) | exact bal _ _ | exact (bal _ _).alloc (by simp) _ | exact (bal _ _).drew | exact ((bal _ _).alloc (by simp) _).drew | exact Below.refl _ _ | exact (Below.refl _ _).drew)) hb; have o0 : Own w1 (w.heap.size) #[.int .i64 (0), .int .i64 (0), .string ⟨#[]⟩, .bool false, .int .i64 (0)] := Own.keep (by with_reducible (first | assumption | exact Own.drew (by assumption) | exact Own.new _ _ _ | exact Own.new2 _ _ _ _ | exact (Own.new _ _ _).past _ | exact Own.drew (Own.new _ _ _) | exact (Own.new2 _ _ _ _).drew | exact ((Own.new _ _ _).past _).drew)) hb; have c0 := o0.cell; have f0 := o0.fro) | (go_at_call 50; refine (rprint_any _ _ (by assumption)).mono ?_; rintro e w5 ⟨rfl, hb⟩; have hB : Below w.heap.size w w5 := bup (by with_reducible (first | assumption | exact Below.drew (by assumption) | exact bal _ _ | exact (bal _ _).alloc (by simp) _ | exact (bal _ _).drew | exact ((bal _ _).alloc (by simp) _).drew | exact Below.refl _ _ | exact (Below.refl _ _).drew)) hb))
  all_goals go_ret2
  all_goals refine ⟨rfl, ?_⟩
  all_goals repeat' with_reducible first | assumption | refine Below.setCell ?_ (by first | exact Nat.le_refl _ | (simp; done) | (simp; omega)) _ | refine Below.drew ?_
theorem rAsText_1 (n : Int) (w : World) (hn : I64 n) (hw : wrongC (1) (n) ⟨#[]⟩ false (0) = 0) : Calls Tryd.prog 27 #[(.agg #[.int .i64 (1), .int .i64 (n), .string ⟨#[]⟩, .bool false, .int .i64 (0)])] w fun e w' => e = .returned (.tuple #[.string (printB n), .int .i64 (0)]) ∧ Below w.heap.size w w' := by
  have hz : I64 0 := ⟨by decide, by decide⟩
  go_enter Tryd.func27, Tryd.ntmps27
  go_wp2_with (first | (go_at_call 47; refine (rfaultV _ _ _ _ _ _ (by assumption)).mono ?_; rintro e w1 ⟨rfl, hb⟩; have hB : Below w.heap.size w w1 := bup (by with_reducible (first | assumption | exact Below.drew (by assumption) | exact bal _ _ | exact (bal _ _).alloc (by simp) _ | exact (bal _ _).drew | exact ((bal _ _).alloc (by simp) _).drew | exact Below.refl _ _ | exact (Below.refl _ _).drew)) hb; have o0 : Own w1 (w.heap.size) #[.int .i64 (1), .int .i64 (n), .string ⟨#[]⟩, .bool false, .int .i64 (0)] := Own.keep (by with_reducible (first | assumption | exact Own.drew (by assumption) | exact Own.new _ _ _ | exact Own.new2 _ _ _ _ | exact (Own.new _ _ _).past _ | exact Own.drew (Own.new _ _ _) | exact (Own.new2 _ _ _ _).drew | exact ((Own.new _ _ _).past _).drew)) hb; have c0 := o0.cell; have f0 := o0.fro) | (go_at_call 50; refine (rprint_any _ _ (by assumption)).mono ?_; rintro e w5 ⟨rfl, hb⟩; have hB : Below w.heap.size w w5 := bup (by with_reducible (first | assumption | exact Below.drew (by assumption) | exact bal _ _ | exact (bal _ _).alloc (by simp) _ | exact (bal _ _).drew | exact ((bal _ _).alloc (by simp) _).drew | exact Below.refl _ _ | exact (Below.refl _ _).drew)) hb))
  all_goals go_ret2
  all_goals refine ⟨rfl, ?_⟩
  all_goals repeat' with_reducible first | assumption | refine Below.setCell ?_ (by first | exact Nat.le_refl _ | (simp; done) | (simp; omega)) _ | refine Below.drew ?_
theorem rAsText_2 (s : ByteArray) (w : World) (hw : wrongC (2) (0) s false (0) = 0) : Calls Tryd.prog 27 #[(.agg #[.int .i64 (2), .int .i64 (0), .string s, .bool false, .int .i64 (0)])] w fun e w' => e = .returned (.tuple #[.string (s), .int .i64 (0)]) ∧ Below w.heap.size w w' := by
  have hz : I64 0 := ⟨by decide, by decide⟩
  go_enter Tryd.func27, Tryd.ntmps27
  go_wp2_with (first | (go_at_call 47; refine (rfaultV _ _ _ _ _ _ (by assumption)).mono ?_; rintro e w1 ⟨rfl, hb⟩; have hB : Below w.heap.size w w1 := bup (by with_reducible (first | assumption | exact Below.drew (by assumption) | exact bal _ _ | exact (bal _ _).alloc (by simp) _ | exact (bal _ _).drew | exact ((bal _ _).alloc (by simp) _).drew | exact Below.refl _ _ | exact (Below.refl _ _).drew)) hb; have o0 : Own w1 (w.heap.size) #[.int .i64 (2), .int .i64 (0), .string s, .bool false, .int .i64 (0)] := Own.keep (by with_reducible (first | assumption | exact Own.drew (by assumption) | exact Own.new _ _ _ | exact Own.new2 _ _ _ _ | exact (Own.new _ _ _).past _ | exact Own.drew (Own.new _ _ _) | exact (Own.new2 _ _ _ _).drew | exact ((Own.new _ _ _).past _).drew)) hb; have c0 := o0.cell; have f0 := o0.fro) | (go_at_call 50; refine (rprint_any _ _ (by assumption)).mono ?_; rintro e w5 ⟨rfl, hb⟩; have hB : Below w.heap.size w w5 := bup (by with_reducible (first | assumption | exact Below.drew (by assumption) | exact bal _ _ | exact (bal _ _).alloc (by simp) _ | exact (bal _ _).drew | exact ((bal _ _).alloc (by simp) _).drew | exact Below.refl _ _ | exact (Below.refl _ _).drew)) hb))
  all_goals go_ret2
  all_goals refine ⟨rfl, ?_⟩
  all_goals repeat' with_reducible first | assumption | refine Below.setCell ?_ (by first | exact Nat.le_refl _ | (simp; done) | (simp; omega)) _ | refine Below.drew ?_
theorem rAsText_3f (w : World) (hw : wrongC (3) (0) ⟨#[]⟩ false (0) = 0) : Calls Tryd.prog 27 #[(.agg #[.int .i64 (3), .int .i64 (0), .string ⟨#[]⟩, .bool false, .int .i64 (0)])] w fun e w' => e = .returned (.tuple #[.string (wordB false), .int .i64 (0)]) ∧ Below w.heap.size w w' := by
  have hz : I64 0 := ⟨by decide, by decide⟩
  go_enter Tryd.func27, Tryd.ntmps27
  go_wp2_with (go_at_call 47; refine (rfaultV _ _ _ _ _ _ (by assumption)).mono ?_; rintro e w1 ⟨rfl, hb⟩; have hB : Below w.heap.size w w1 := bup (by with_reducible (first | assumption | exact Below.drew (by assumption) | exact bal _ _ | exact (bal _ _).alloc (by simp) _ | exact (bal _ _).drew | exact ((bal _ _).alloc (by simp) _).drew | exact Below.refl _ _ | exact (Below.refl _ _).drew)) hb; have o0 : Own w1 (w.heap.size) #[.int .i64 (3), .int .i64 (0), .string ⟨#[]⟩, .bool false, .int .i64 (0)] := Own.keep (by with_reducible (first | assumption | exact Own.drew (by assumption) | exact Own.new _ _ _ | exact Own.new2 _ _ _ _ | exact (Own.new _ _ _).past _ | exact Own.drew (Own.new _ _ _) | exact (Own.new2 _ _ _ _).drew | exact ((Own.new _ _ _).past _).drew)) hb; have c0 := o0.cell; have f0 := o0.fro)
  all_goals go_ret2
  all_goals refine ⟨rfl, ?_⟩
  all_goals repeat' with_reducible first | assumption | refine Below.setCell ?_ (by first | exact Nat.le_refl _ | (simp; done) | (simp; omega)) _ | refine Below.drew ?_
theorem rAsText_3t (w : World) (hw : wrongC (3) (0) ⟨#[]⟩ true (0) = 0) : Calls Tryd.prog 27 #[(.agg #[.int .i64 (3), .int .i64 (0), .string ⟨#[]⟩, .bool true, .int .i64 (0)])] w fun e w' => e = .returned (.tuple #[.string (wordB true), .int .i64 (0)]) ∧ Below w.heap.size w w' := by
  have hz : I64 0 := ⟨by decide, by decide⟩
  go_enter Tryd.func27, Tryd.ntmps27
  go_wp2_with (go_at_call 47; refine (rfaultV _ _ _ _ _ _ (by assumption)).mono ?_; rintro e w1 ⟨rfl, hb⟩; have hB : Below w.heap.size w w1 := bup (by with_reducible (first | assumption | exact Below.drew (by assumption) | exact bal _ _ | exact (bal _ _).alloc (by simp) _ | exact (bal _ _).drew | exact ((bal _ _).alloc (by simp) _).drew | exact Below.refl _ _ | exact (Below.refl _ _).drew)) hb; have o0 : Own w1 (w.heap.size) #[.int .i64 (3), .int .i64 (0), .string ⟨#[]⟩, .bool true, .int .i64 (0)] := Own.keep (by with_reducible (first | assumption | exact Own.drew (by assumption) | exact Own.new _ _ _ | exact Own.new2 _ _ _ _ | exact (Own.new _ _ _).past _ | exact Own.drew (Own.new _ _ _) | exact (Own.new2 _ _ _ _).drew | exact ((Own.new _ _ _).past _).drew)) hb; have c0 := o0.cell; have f0 := o0.fro)
  all_goals go_ret2
  all_goals refine ⟨rfl, ?_⟩
  all_goals repeat' with_reducible first | assumption | refine Below.setCell ?_ (by first | exact Nat.le_refl _ | (simp; done) | (simp; omega)) _ | refine Below.drew ?_
theorem rAsText_3 (b : Bool) (w : World) (hw : wrongC (3) (0) ⟨#[]⟩ b (0) = 0) : Calls Tryd.prog 27 #[(.agg #[.int .i64 (3), .int .i64 (0), .string ⟨#[]⟩, .bool b, .int .i64 (0)])] w fun e w' => e = .returned (.tuple #[.string (wordB b), .int .i64 (0)]) ∧ Below w.heap.size w w' := by
  cases b
  · exact rAsText_3f w hw
  · exact rAsText_3t w hw
theorem raTextV (t n : Int) (s : ByteArray) (b : Bool) (c : Int) (w : World) (hn : I64 n) : Calls Tryd.prog 27 #[(.agg #[.int .i64 (t), .int .i64 (n), .string s, .bool b, .int .i64 (c)])] w fun e w' => e = .returned (.tuple #[.string (asTxt t n s b c), .int .i64 (asCodeT t n s b c)]) ∧ Below w.heap.size w w' := by
  unfold asTxt asCodeT
  by_cases hm : mayB t n s b c = true ∧ ¬ t = 4
  case neg =>
    rw [if_neg hm, if_neg hm]
    exact rAsText_w t n s b c w hn (wrong_ne hm) (by have h := wrong_ne hm; simpa using h)
  rw [if_pos hm, if_pos hm]
  have hw := wrong_0 hm.1 hm.2
  rcases may_cases hm.1 hm.2 with ⟨rfl, rfl, rfl, rfl, rfl⟩ | ⟨rfl, rfl, rfl, rfl⟩ | ⟨rfl, rfl, rfl, rfl⟩ | ⟨rfl, rfl, rfl, rfl⟩
  · exact rAsText_0 w hw
  · exact rAsText_1 n w hn hw
  · exact rAsText_2 s w hw
  · exact rAsText_3 b w hw
theorem rShow_t (n : Int) (s : ByteArray) (b : Bool) (c : Int) (w : World) (hn : I64 n) (hm : mayB 4 n s b c = true) : Calls Tryd.prog 31 #[(.agg #[.int .i64 (4), .int .i64 (n), .string s, .bool b, .int .i64 (c)])] w fun e w' => e = .returned (.string (nameB c)) ∧ Below w.heap.size w w' := by
  go_enter Tryd.func31, Tryd.ntmps31
  go_wp2_with (first | (go_at_call 19; refine (rmayV _ _ _ _ _ _ (by assumption)).mono ?_; rintro e w1 ⟨rfl, hb⟩; have hB : Below w.heap.size w w1 := bup (by with_reducible (first | assumption | exact Below.drew (by assumption) | exact bal _ _ | exact (bal _ _).alloc (by simp) _ | exact (bal _ _).drew | exact ((bal _ _).alloc (by simp) _).drew | exact Below.refl _ _ | exact (Below.refl _ _).drew)) hb; have o0 : Own w1 (w.heap.size) #[.int .i64 (4), .int .i64 (n), .string s, .bool b, .int .i64 (c)] := Own.keep (by with_reducible (first | assumption | exact Own.drew (by assumption) | exact Own.new _ _ _ | exact Own.new2 _ _ _ _ | exact (Own.new _ _ _).past _ | exact Own.drew (Own.new _ _ _) | exact (Own.new2 _ _ _ _).drew | exact ((Own.new _ _ _).past _).drew)) hb; have c0 := o0.cell; have f0 := o0.fro) | (go_at_call 35; refine (rnameAny _ _).mono ?_; rintro e w5 ⟨rfl, hb⟩; have hB : Below w.heap.size w w5 := bup (by with_reducible (first | assumption | exact Below.drew (by assumption) | exact bal _ _ | exact (bal _ _).alloc (by simp) _ | exact (bal _ _).drew | exact ((bal _ _).alloc (by simp) _).drew | exact Below.refl _ _ | exact (Below.refl _ _).drew)) hb))
  go_ret
  exact ⟨rfl, by with_reducible assumption⟩
theorem rShow_f (t n : Int) (s : ByteArray) (b : Bool) (c : Int) (w : World) (hn : I64 n) (hm : mayB t n s b c = false) : Calls Tryd.prog 31 #[(.agg #[.int .i64 (t), .int .i64 (n), .string s, .bool b, .int .i64 (c)])] w fun e w' => e = .returned (.string (asTxt t n s b c)) ∧ Below w.heap.size w w' := by
  go_enter Tryd.func31, Tryd.ntmps31
  go_wp2_with (first | (go_at_call 19; refine (rmayV _ _ _ _ _ _ (by assumption)).mono ?_; rintro e w1 ⟨rfl, hb⟩; have hB : Below w.heap.size w w1 := bup (by with_reducible (first | assumption | exact Below.drew (by assumption) | exact bal _ _ | exact (bal _ _).alloc (by simp) _ | exact (bal _ _).drew | exact ((bal _ _).alloc (by simp) _).drew | exact Below.refl _ _ | exact (Below.refl _ _).drew)) hb; have o0 : Own w1 (w.heap.size) #[.int .i64 (t), .int .i64 (n), .string s, .bool b, .int .i64 (c)] := Own.keep (by with_reducible (first | assumption | exact Own.drew (by assumption) | exact Own.new _ _ _ | exact Own.new2 _ _ _ _ | exact (Own.new _ _ _).past _ | exact Own.drew (Own.new _ _ _) | exact (Own.new2 _ _ _ _).drew | exact ((Own.new _ _ _).past _).drew)) hb; have c0 := o0.cell; have f0 := o0.fro) | (go_at_call 27; refine (raTextV _ _ _ _ _ _ (by assumption)).mono ?_; rintro e w5 ⟨rfl, hb⟩; have hB : Below w.heap.size w w5 := bup (by with_reducible (first | assumption | exact Below.drew (by assumption) | exact bal _ _ | exact (bal _ _).alloc (by simp) _ | exact (bal _ _).drew | exact ((bal _ _).alloc (by simp) _).drew | exact Below.refl _ _ | exact (Below.refl _ _).drew)) hb))
  go_ret
  exact ⟨rfl, by with_reducible assumption⟩
theorem rShow_n (t n : Int) (s : ByteArray) (b : Bool) (c : Int) (w : World) (hn : I64 n) (hm : mayB t n s b c = true) (h4 : (t == 4) = false) : Calls Tryd.prog 31 #[(.agg #[.int .i64 (t), .int .i64 (n), .string s, .bool b, .int .i64 (c)])] w fun e w' => e = .returned (.string (asTxt t n s b c)) ∧ Below w.heap.size w w' := by
  go_enter Tryd.func31, Tryd.ntmps31
  go_wp2_with (first | (go_at_call 19; refine (rmayV _ _ _ _ _ _ (by assumption)).mono ?_; rintro e w1 ⟨rfl, hb⟩; have hB : Below w.heap.size w w1 := bup (by with_reducible (first | assumption | exact Below.drew (by assumption) | exact bal _ _ | exact (bal _ _).alloc (by simp) _ | exact (bal _ _).drew | exact ((bal _ _).alloc (by simp) _).drew | exact Below.refl _ _ | exact (Below.refl _ _).drew)) hb; have o0 : Own w1 (w.heap.size) #[.int .i64 (t), .int .i64 (n), .string s, .bool b, .int .i64 (c)] := Own.keep (by with_reducible (first | assumption | exact Own.drew (by assumption) | exact Own.new _ _ _ | exact Own.new2 _ _ _ _ | exact (Own.new _ _ _).past _ | exact Own.drew (Own.new _ _ _) | exact (Own.new2 _ _ _ _).drew | exact ((Own.new _ _ _).past _).drew)) hb; have c0 := o0.cell; have f0 := o0.fro) | (go_at_call 27; refine (raTextV _ _ _ _ _ _ (by assumption)).mono ?_; rintro e w5 ⟨rfl, hb⟩; have hB : Below w.heap.size w w5 := bup (by with_reducible (first | assumption | exact Below.drew (by assumption) | exact bal _ _ | exact (bal _ _).alloc (by simp) _ | exact (bal _ _).drew | exact ((bal _ _).alloc (by simp) _).drew | exact Below.refl _ _ | exact (Below.refl _ _).drew)) hb))
  go_ret
  exact ⟨rfl, by with_reducible assumption⟩
theorem rshowV (t n : Int) (s : ByteArray) (b : Bool) (c : Int) (w : World) (hn : I64 n) : Calls Tryd.prog 31 #[(.agg #[.int .i64 (t), .int .i64 (n), .string s, .bool b, .int .i64 (c)])] w fun e w' => e = .returned (.string (showB t n s b c)) ∧ Below w.heap.size w w' := by
  unfold showB
  by_cases hm : mayB t n s b c = true
  · by_cases h4 : t = 4
    · subst h4; rw [if_pos ⟨hm, rfl⟩]; exact rShow_t n s b c w hn hm
    · rw [if_neg (fun h => h4 h.2)]; exact rShow_n t n s b c w hn hm (by simpa using h4)
  · rw [if_neg (fun h => hm h.1)]; exact rShow_f t n s b c w hn (by simpa using hm)
end Go.Proofs.YtnaonpienaddaaaDoor
