/- The contracts of value's wrong, filled, parts, word, of cmp.Compare at Tag, int64 and string, and of the document's fault and texts: for every argument. New memory alone is made. · Parts of the contract of value.Compare: of any two values -1, 0 or 1. New memory alone is made. No condition but that the numbers are int64. -/
import Derived.Test.YtfikaamjnkmbdaaGreatDoorQNT1V2
import Derived.Laws.Cover1
import Derived.Sort.Walk0
import Derived.Lib.Hide
import Derived.Deep.QuietTactic
import Derived.BigQuiet
import Derived.Lib.Walk
import Derived.Test.YtfikaamjnkmbdaaGreatDoorQNT0VO
import Derived.Deep.RegionHeld3
namespace Go.Proofs.YtfikaamjnkmbdaaGreatDoor
open Go.RowKit
set_option linter.all false
/-- What has to be told in a value's place: a Fault's code, CodeArg, or nothing. -/
def wrongC (t n : Int) (s : ByteArray) (b : Bool) (c : Int) : Int := if mayB t n s b c = true then c else 8
theorem wrong_t {t n : Int} {s : ByteArray} {b : Bool} {c : Int} (h : mayB t n s b c = true) : wrongC t n s b c = c := if_pos h
theorem wrong_f {t n : Int} {s : ByteArray} {b : Bool} {c : Int} (h : mayB t n s b c = false) : wrongC t n s b c = 8 := if_neg (by rw [h]; decide)
theorem wrongV (t n : Int) (s : ByteArray) (b : Bool) (c : Int) (w : World) (hn : I64 n) : Calls Tryz.prog 139 #[(.agg #[.int .i64 (t), .int .i64 (n), .string s, .bool b, .int .i64 (c)])] w fun e w' => e = .returned (.int .i64 (wrongC t n s b c)) ∧ Below w.heap.size w w' := by
  by_cases hm : mayB t n s b c = true
  · rw [wrong_t hm]
    go_enter Tryz.func139, Tryz.ntmps139
    go_wp2_with (go_at_call 100; refine (mayV t n s b c _ hn).mono ?_; rw [hm]; rintro e w1 ⟨rfl, hb⟩; have hcc := bcell hb)
    go_ret
    exact ⟨rfl, bup (bal _ _) hb⟩
  · have hm' : mayB t n s b c = false := by simpa using hm
    rw [wrong_f hm']
    clear hm
    go_enter Tryz.func139, Tryz.ntmps139
    go_wp2_with (go_at_call 100; refine (mayV t n s b c _ hn).mono ?_; rw [hm']; rintro e w1 ⟨rfl, hb⟩; have hcc := bcell hb)
    go_ret
    exact ⟨rfl, bup (bal _ _) hb⟩
def partsI (b : Bool) : Int := if b then 10000 else 0
def wordB (b : Bool) : ByteArray := if b then ⟨#[84, 82, 85, 69]⟩ else ⟨#[70, 65, 76, 83, 69]⟩
theorem partsV (b : Bool) (w : World) : Calls Tryz.prog 140 #[.bool b] w fun e w' => e = .returned (.int .i64 (partsI b)) ∧ w' = w := by
  cases b
  · go_enter Tryz.func140, Tryz.ntmps140
    go_wp2
    go_ret
    exact ⟨rfl, rfl⟩
  · go_enter Tryz.func140, Tryz.ntmps140
    go_wp2
    go_ret
    exact ⟨rfl, rfl⟩
theorem wordV (b : Bool) (w : World) : Calls Tryz.prog 157 #[.bool b] w fun e w' => e = .returned (.string (wordB b)) ∧ w' = w := by
  cases b
  · go_enter Tryz.func157, Tryz.ntmps157
    go_wp2
    go_ret
    exact ⟨rfl, rfl⟩
  · go_enter Tryz.func157, Tryz.ntmps157
    go_wp2
    go_ret
    exact ⟨rfl, rfl⟩
end Go.Proofs.YtfikaamjnkmbdaaGreatDoor
namespace Go.Proofs.YtfikaamjnkmbdaaGreatDoor
open Go.RowKit
set_option linter.all false
theorem may_cases {t n : Int} {s : ByteArray} {b : Bool} {c : Int} (h : mayB t n s b c = true) (h4 : ¬ t = 4) :
    (t = 0 ∧ n = 0 ∧ s = ⟨#[]⟩ ∧ b = false ∧ c = 0) ∨ (t = 1 ∧ s = ⟨#[]⟩ ∧ b = false ∧ c = 0) ∨ (t = 2 ∧ n = 0 ∧ b = false ∧ c = 0) ∨ (t = 3 ∧ n = 0 ∧ s = ⟨#[]⟩ ∧ c = 0) := by
  unfold mayB at h
  obtain ⟨h1, h2, h3, h5, h6, h7, _, _⟩ := of_decide_eq_true h
  have ht : t = 0 ∨ t = 1 ∨ t = 2 ∨ t = 3 := by omega
  rcases ht with rfl | rfl | rfl | rfl
  · exact .inl ⟨rfl, h1 (by decide), h2 (by decide), h3 (by decide), h5 (by decide)⟩
  · exact .inr (.inl ⟨rfl, h2 (by decide), h3 (by decide), h5 (by decide)⟩)
  · exact .inr (.inr (.inl ⟨rfl, h1 (by decide), h3 (by decide), h5 (by decide)⟩))
  · exact .inr (.inr (.inr ⟨rfl, h1 (by decide), h2 (by decide), h5 (by decide)⟩))
theorem may_c {t n : Int} {s : ByteArray} {b : Bool} {c : Int} (h : mayB t n s b c = true) : (t = 4 → ¬ c = 0) ∧ (¬ t = 4 → c = 0) := by
  unfold mayB at h
  obtain ⟨h1, h2, h3, h5, h6, h7, _, h8⟩ := of_decide_eq_true h
  exact ⟨fun h => by have := h8 h; omega, h5⟩
theorem wrong_ne {t n : Int} {s : ByteArray} {b : Bool} {c : Int} (h : ¬ (mayB t n s b c = true ∧ ¬ t = 4)) : (wrongC t n s b c != 0) = true := by
  by_cases hm : mayB t n s b c = true
  · have h4 : t = 4 := Decidable.byContradiction fun k => h ⟨hm, k⟩
    rw [wrong_t hm]; simpa using (may_c hm).1 h4
  · rw [wrong_f (by simpa using hm)]; rfl
theorem wrong_0 {t n : Int} {s : ByteArray} {b : Bool} {c : Int} (hm : mayB t n s b c = true) (h4 : ¬ t = 4) : wrongC t n s b c = 0 := by
  rw [wrong_t hm]; exact (may_c hm).2 h4
theorem sameV (t n : Int) (s : ByteArray) (b : Bool) (c : Int) (t' n' : Int) (s' : ByteArray) (b' : Bool) (c' : Int) (w : World) : Calls Tryz.prog 124 #[(.agg #[.int .i64 (t), .int .i64 (n), .string s, .bool b, .int .i64 (c)]), (.agg #[.int .i64 (t'), .int .i64 (n'), .string s', .bool b', .int .i64 (c')])] w fun e w' => e = .returned (.bool (sameB t n s b c t' n' s' b' c')) ∧ Below w.heap.size w w' := by
  have heq := eqv t n s b c t' n' s' b' c'
  go_enter Tryz.func124, Tryz.ntmps124
  go_wp2
  go_ret
  exact ⟨rfl, (bal _ _).alloc (by simp) _⟩
end Go.Proofs.YtfikaamjnkmbdaaGreatDoor
