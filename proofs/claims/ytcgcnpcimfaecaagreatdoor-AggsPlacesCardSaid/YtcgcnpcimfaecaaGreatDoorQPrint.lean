/- The contract of dec.Print: for every int64 it returns the text of the number (nothing for the least one); new memory alone is made. The condition: the library's table of powers of ten lies as its initialiser lays it. The contracts of AsNumber, AsText, AsBool and Show of package value, and of the document's AsNumber and AsBool: of every value what it is taken for, and the code. New memory alone is made. The conditions: the library's table of powers of ten and the program's table of names lie as their initialisers lay them (for AsText and Show). -/
import Derived.Test.YtcgcnpcimfaecaaGreatDoorQShelfB
import Derived.Test.YtcgcnpcimfaecaaGreatDoorQSums
import Derived.Lib.AppendIntMem
import Derived.Lib.SmallJoins
import Derived.WalkSpells
import Derived.Outline
import Derived.Test.YtcgcnpcimfaecaaGreatDoorQV3
import Derived.Test.YtcgcnpcimfaecaaGreatDoorQVN
namespace Go.Proofs.YtcgcnpcimfaecaaGreatDoor
open Go.Shelf Go.RowKit Go.Sort Go.Lib Go.Joins
set_option linter.unusedVariables false
theorem gPow : Tryz.prog.globalNamed "internal/strconv.uint64pow10" = some 2 := by kernel_rfl
/-- The library's table of powers of ten lies as it is laid. -/
abbrev Pow (w : World) : Prop := Lib.TabIs Tryz.prog w "internal/strconv.uint64pow10" .u64 Lib.pow10Tab
theorem Pow.stays {w w' : World} (h : Pow w) (hb : Below w.heap.size w w') : Pow w' := tab_stays gPow h hb (Nat.le_refl _)

/-- The digits ahead of the point; those of 10000 and the rest; the rest's without noughts at the end. -/
def ipB (n : Nat) : ByteArray := ⟨(Lib.decDigits (n / 10000)).toArray⟩
def fdB (n : Nat) : ByteArray := ⟨(Lib.decDigits (10000 + n % 10000)).toArray⟩
def frB (n : Nat) : ByteArray := ⟨(Lib.trimRightB ((Lib.decDigits (10000 + n % 10000)).drop 1) 48).toArray⟩
theorem ipB_size (n : Nat) (h : n ≤ 9223372036854775807) : (ipB n).size ≤ 20 := by
  show (Lib.decDigits (n / 10000)).toArray.size ≤ 20
  simp only [List.size_toArray, Lib.decDigits_length]
  by_cases h0 : n / 10000 = 0
  · rw [h0, Lib.nDigits_small (by decide)]; decide
  · have := Lib.numDigits_eq (n / 10000) (by omega) (by omega); split at this <;> omega
theorem fd_len (n : Nat) : (Lib.decDigits (10000 + n % 10000)).length = 5 := by
  rw [Lib.decDigits_length]; exact Lib.nDigits_unique 4 _ (by omega) (by omega)
theorem fdB_size (n : Nat) : (fdB n).size = 5 := by
  show (Lib.decDigits (10000 + n % 10000)).toArray.size = 5
  simp only [List.size_toArray]; exact fd_len n
theorem dropWhile_len {α : Type} (p : α → Bool) (l : List α) : (l.dropWhile p).length ≤ l.length := by
  induction l with
  | nil => simp
  | cons a l ih => rw [List.dropWhile_cons]; split <;> simp <;> omega
theorem trim_len (l : List UInt8) (c : UInt8) : (Lib.trimRightB l c).length ≤ l.length := by
  unfold Lib.trimRightB; have := dropWhile_len (· == c) l.reverse; simp at this ⊢; omega
theorem frB_size (n : Nat) : (frB n).size ≤ 4 := by
  show (Lib.trimRightB ((Lib.decDigits (10000 + n % 10000)).drop 1) 48).toArray.size ≤ 4
  have h := trim_len ((Lib.decDigits (10000 + n % 10000)).drop 1) 48
  simp only [List.size_toArray, List.length_drop, fd_len] at *; omega

theorem fmtB (q : Int) (u : Nat) (hq : q = u) (hu64 : u < 18446744073709551616) (w : World) (htab : Pow w) :
    Calls Tryz.prog 174 #[.int .u64 q, .int .i64 10] w fun e w' => e = .returned (.string ⟨(Lib.decDigits u).toArray⟩) ∧ Below w.heap.size w w' := by
  subst hq
  exact (fmtU u hu64 w htab).mono fun e w' ⟨he, k, os, hw⟩ => ⟨he, by rw [hw]; exact below_grow _ w (Nat.le_refl _) k os⟩
theorem fmt_ip (q : Int) (n : Nat) (hq : q = ((n / 10000 : Nat) : Int)) (hn : n ≤ 9223372036854775807) (w : World) (htab : Pow w) :
    Calls Tryz.prog 174 #[.int .u64 q, .int .i64 10] w fun e w' => e = .returned (.string (ipB n)) ∧ Below w.heap.size w w' := fmtB q (n / 10000) hq (by omega) w htab
theorem fmt_fd (q : Int) (n : Nat) (hq : q = ((10000 + n % 10000 : Nat) : Int)) (w : World) (htab : Pow w) :
    Calls Tryz.prog 174 #[.int .u64 q, .int .i64 10] w fun e w' => e = .returned (.string (fdB n)) ∧ Below w.heap.size w w' := fmtB q (10000 + n % 10000) hq (by omega) w htab
theorem fd_drop (n : Nat) : ((fdB n).extract 1 5).data.toList = (Lib.decDigits (10000 + n % 10000)).drop 1 := by
  have h := fd_len n
  simp only [fdB, ByteArray.data_extract, Array.toList_extract]
  rw [List.extract_eq_take_drop, List.take_of_length_le (by rw [List.length_drop, h]; decide)]
theorem trim_fd (n : Nat) (w : World) :
    Calls Tryz.prog 175 #[.string ((fdB n).extract 1 5), .string ⟨#[48]⟩] w fun e w' => e = .returned (.string (frB n)) ∧ w' = w := by
  refine (Any.strings_TrimRight_one Tryz.lays162 ((fdB n).extract 1 5) 48 (by decide) w ?_).mono ?_
  · have := congrArg List.length (fd_drop n)
    have h2 : ((fdB n).extract 1 5).data.toList.length = ((fdB n).extract 1 5).size := rfl
    rw [h2, List.length_drop, fd_len] at this
    omega
  · rintro e w' ⟨rfl, rfl⟩
    exact ⟨by rw [fd_drop]; rfl, rfl⟩
theorem size_n (n : Nat) (x : Int) (w : World) (h : x = n ∨ x = -(n : Int)) (hn : n ≤ 9223372036854775807) : Calls Tryz.prog 146 #[.int .i64 x] w fun e w' => e = .returned (.int .u64 n) ∧ w' = w := by
  by_cases h0 : x < 0
  · go_enter Tryz.func146, Tryz.ntmps146
    go_wp2
    go_ret
    exact ⟨ret1 (by omega), rfl⟩
  · go_enter Tryz.func146, Tryz.ntmps146
    go_wp2
    go_ret
    exact ⟨ret1 (by omega), rfl⟩
theorem print_pf (x : Int) (n : Nat) (w : World) (hx : x = n) (hr : n % 10000 ≠ 0) (hn : n ≤ 9223372036854775807) (htab : Pow w) :
    Calls Tryz.prog 156 #[.int .i64 x] w fun e w' => e = .returned (.string (ipB n ++ (⟨#[46]⟩ ++ frB n))) ∧ Below w.heap.size w w' := by
  have h1 := ipB_size n hn
  have h2 := fdB_size n
  have h3 := frB_size n
  go_enter Tryz.func156, Tryz.ntmps156
  go_wp2_with (first | (go_at_call 141; refine (may_t _ _ (by omega)).mono ?_; rintro e w' ⟨rfl, rfl⟩) | (go_at_call 146; refine (size_n n _ _ (by omega) hn).mono ?_; rintro e w' ⟨rfl, rfl⟩))
  go_at_call 174
  refine (fmt_ip _ n (by omega) hn _ htab).mono ?_
  rintro e w1 ⟨rfl, hb1⟩
  have htab1 := htab.stays hb1
  go_wp2_with fail
  go_at_call 174
  refine (fmt_fd _ n (by omega) _ htab1).mono ?_
  rintro e w2 ⟨rfl, hb2⟩
  go_wp2_with (go_at_call 175; refine (trim_fd n _).mono ?_; rintro e w3 ⟨rfl, rfl⟩)
  go_ret
  exact ⟨rfl, hb1.trans (hb2.mono hb1.size)⟩
theorem print_nf (x : Int) (n : Nat) (w : World) (hx : x = -(n : Int)) (hx0 : x < 0) (hr : n % 10000 ≠ 0) (hn : n ≤ 9223372036854775807) (htab : Pow w) :
    Calls Tryz.prog 156 #[.int .i64 x] w fun e w' => e = .returned (.string (⟨#[45]⟩ ++ (ipB n ++ (⟨#[46]⟩ ++ frB n)))) ∧ Below w.heap.size w w' := by
  have h1 := ipB_size n hn
  have h2 := fdB_size n
  have h3 := frB_size n
  go_enter Tryz.func156, Tryz.ntmps156
  go_wp2_with (first | (go_at_call 141; refine (may_t _ _ (by omega)).mono ?_; rintro e w' ⟨rfl, rfl⟩) | (go_at_call 146; refine (size_n n _ _ (by omega) hn).mono ?_; rintro e w' ⟨rfl, rfl⟩))
  go_at_call 174
  refine (fmt_ip _ n (by omega) hn _ htab).mono ?_
  rintro e w1 ⟨rfl, hb1⟩
  have htab1 := htab.stays hb1
  go_wp2_with fail
  go_at_call 174
  refine (fmt_fd _ n (by omega) _ htab1).mono ?_
  rintro e w2 ⟨rfl, hb2⟩
  go_wp2_with (go_at_call 175; refine (trim_fd n _).mono ?_; rintro e w3 ⟨rfl, rfl⟩)
  go_ret
  exact ⟨rfl, hb1.trans (hb2.mono hb1.size)⟩
theorem print_pw (x : Int) (n : Nat) (w : World) (hx : x = n) (hr : n % 10000 = 0) (hn : n ≤ 9223372036854775807) (htab : Pow w) :
    Calls Tryz.prog 156 #[.int .i64 x] w fun e w' => e = .returned (.string (ipB n)) ∧ Below w.heap.size w w' := by
  have h1 := ipB_size n hn
  have h2 := fdB_size n
  have h3 := frB_size n
  go_enter Tryz.func156, Tryz.ntmps156
  go_wp2_with (first | (go_at_call 141; refine (may_t _ _ (by omega)).mono ?_; rintro e w' ⟨rfl, rfl⟩) | (go_at_call 146; refine (size_n n _ _ (by omega) hn).mono ?_; rintro e w' ⟨rfl, rfl⟩))
  go_at_call 174
  refine (fmt_ip _ n (by omega) hn _ htab).mono ?_
  rintro e w1 ⟨rfl, hb1⟩
  have htab1 := htab.stays hb1
  go_wp2_with fail
  go_ret
  exact ⟨rfl, hb1⟩
theorem print_nw (x : Int) (n : Nat) (w : World) (hx : x = -(n : Int)) (hx0 : x < 0) (hr : n % 10000 = 0) (hn : n ≤ 9223372036854775807) (htab : Pow w) :
    Calls Tryz.prog 156 #[.int .i64 x] w fun e w' => e = .returned (.string (⟨#[45]⟩ ++ ipB n)) ∧ Below w.heap.size w w' := by
  have h1 := ipB_size n hn
  have h2 := fdB_size n
  have h3 := frB_size n
  go_enter Tryz.func156, Tryz.ntmps156
  go_wp2_with (first | (go_at_call 141; refine (may_t _ _ (by omega)).mono ?_; rintro e w' ⟨rfl, rfl⟩) | (go_at_call 146; refine (size_n n _ _ (by omega) hn).mono ?_; rintro e w' ⟨rfl, rfl⟩))
  go_at_call 174
  refine (fmt_ip _ n (by omega) hn _ htab).mono ?_
  rintro e w1 ⟨rfl, hb1⟩
  have htab1 := htab.stays hb1
  go_wp2_with fail
  go_ret
  exact ⟨rfl, hb1⟩
/-- The text of a number. -/
def numB (n : Nat) : ByteArray := if n % 10000 = 0 then ipB n else ipB n ++ (⟨#[46]⟩ ++ frB n)
def printB (x : Int) : ByteArray := if x = -9223372036854775808 then ⟨#[]⟩ else if x < 0 then ⟨#[45]⟩ ++ numB x.natAbs else numB x.natAbs
theorem print_any (x : Int) (w : World) (hx : I64 x) (htab : Pow w) : Calls Tryz.prog 156 #[.int .i64 x] w fun e w' => e = .returned (.string (printB x)) ∧ Below w.heap.size w w' := by
  obtain ⟨hx1, hx2⟩ := hx
  unfold printB numB
  by_cases hm : x = -9223372036854775808
  · rw [if_pos hm]
    go_enter Tryz.func156, Tryz.ntmps156
    go_wp2_with (go_at_call 141; refine (may_f _ _ (by omega)).mono ?_; rintro e w' ⟨rfl, rfl⟩)
    go_ret
    exact ⟨rfl, Below.refl _ _⟩
  rw [if_neg hm]
  by_cases h0 : x < 0
  · rw [if_pos h0]
    by_cases hr : x.natAbs % 10000 = 0
    · rw [if_pos hr]; exact print_nw x x.natAbs w (by omega) h0 hr (by omega) htab
    · rw [if_neg hr]; exact print_nf x x.natAbs w (by omega) h0 hr (by omega) htab
  · rw [if_neg h0]
    by_cases hr : x.natAbs % 10000 = 0
    · rw [if_pos hr]; exact print_pw x x.natAbs w (by omega) hr (by omega) htab
    · rw [if_neg hr]; exact print_pf x x.natAbs w (by omega) hr (by omega) htab
end Go.Proofs.YtcgcnpcimfaecaaGreatDoor
namespace Go.Proofs.YtcgcnpcimfaecaaGreatDoor
open Go.RowKit
set_option linter.all false
theorem retSI {k : IntKind} {a b : ByteArray} {c d : Int} (h : a = b) (h' : c = d) : Ending.returned (.tuple #[.string a, .int k c]) = .returned (.tuple #[.string b, .int k d]) := by rw [h, h']
theorem retBI {k : IntKind} {a b : Bool} {c d : Int} (h : a = b) (h' : c = d) : Ending.returned (.tuple #[.bool a, .int k c]) = .returned (.tuple #[.bool b, .int k d]) := by rw [h, h']
/-- What a value is taken for as a number, as a text, as a truth; and the code. -/
def asNum (t n : Int) (s : ByteArray) (b : Bool) (c : Int) : Int := if mayB t n s b c = true ∧ ¬ t = 4 then (if t = 1 then n else if t = 3 then partsI b else 0) else 0
def asTxt (t n : Int) (s : ByteArray) (b : Bool) (c : Int) : ByteArray := if mayB t n s b c = true ∧ ¬ t = 4 then (if t = 1 then printB n else if t = 2 then s else if t = 3 then wordB b else ⟨#[]⟩) else ⟨#[]⟩
def asBoo (t n : Int) (s : ByteArray) (b : Bool) (c : Int) : Bool := if mayB t n s b c = true ∧ ¬ t = 4 then (if t = 1 then (n != 0) else if t = 3 then b else false) else false
def asCode (t n : Int) (s : ByteArray) (b : Bool) (c : Int) : Int := if mayB t n s b c = true ∧ ¬ t = 4 then (if t = 2 then 4 else 0) else wrongC t n s b c
def asCodeT (t n : Int) (s : ByteArray) (b : Bool) (c : Int) : Int := if mayB t n s b c = true ∧ ¬ t = 4 then 0 else wrongC t n s b c
def showB (t n : Int) (s : ByteArray) (b : Bool) (c : Int) : ByteArray := if mayB t n s b c = true ∧ t = 4 then nameB c else asTxt t n s b c
theorem Pow.up {w w' : World} (h : Pow w) (hb : Below w.heap.size w w') : Pow w' := h.stays hb
theorem may_b {b : Bool} {t n : Int} {s : ByteArray} {c : Int} (h : mayB t n s b c = true) : True := trivial
theorem AsNumber_w (t n : Int) (s : ByteArray) (b : Bool) (c : Int) (w : World) (hn : I64 n) (hx : (wrongC (t) (n) s b (c) != 0) = true) (hy : (wrongC (t) (n) s b (c) == 0) = false) : Calls Tryz.prog 102 #[(.agg #[.int .i64 (t), .int .i64 (n), .string s, .bool b, .int .i64 (c)])] w fun e w' => e = .returned (.tuple #[.int .i64 (0), .int .i64 (wrongC (t) (n) s b (c))]) ∧ Below w.heap.size w w' := by
  go_enter Tryz.func102, Tryz.ntmps102
  go_wp2_with (go_at_call 139; refine (wrongV _ _ _ _ _ _ (by assumption)).mono ?_; rintro e w1 ⟨rfl, hb⟩; have hB : Below w.heap.size w w1 := bup (by with_reducible (first | assumption | exact Below.drew (by assumption) | exact bal _ _ | exact (bal _ _).alloc (by simp) _ | exact (bal _ _).drew | exact ((bal _ _).alloc (by simp) _).drew | exact Below.refl _ _ | exact (Below.refl _ _).drew)) hb; have o0 : Own w1 (w.heap.size) #[.int .i64 (t), .int .i64 (n), .string s, .bool b, .int .i64 (c)] := Own.keep (by with_reducible (first | assumption | exact Own.drew (by assumption) | exact Own.new _ _ _ | exact Own.new2 _ _ _ _ | exact (Own.new _ _ _).past _ | exact Own.drew (Own.new _ _ _) | exact (Own.new2 _ _ _ _).drew | exact ((Own.new _ _ _).past _).drew)) hb; have c0 := o0.cell; have f0 := o0.fro)
  all_goals go_ret2
  all_goals refine ⟨rfl, ?_⟩
  all_goals repeat' with_reducible first | assumption | refine Below.setCell ?_ (by first | exact Nat.le_refl _ | (simp; done) | (simp; omega)) _ | refine Below.drew ?_
theorem AsNumber_0  (w : World) (hw : wrongC (0) (0) ⟨#[]⟩ false (0) = 0) : Calls Tryz.prog 102 #[(.agg #[.int .i64 (0), .int .i64 (0), .string ⟨#[]⟩, .bool false, .int .i64 (0)])] w fun e w' => e = .returned (.tuple #[.int .i64 (0), .int .i64 (0)]) ∧ Below w.heap.size w w' := by
  have hz : I64 0 := ⟨by decide, by decide⟩
  go_enter Tryz.func102, Tryz.ntmps102
  go_wp2_with (first | (go_at_call 139; refine (wrongV _ _ _ _ _ _ (by assumption)).mono ?_; rintro e w1 ⟨rfl, hb⟩; have hB : Below w.heap.size w w1 := bup (by with_reducible (first | assumption | exact Below.drew (by assumption) | exact bal _ _ | exact (bal _ _).alloc (by simp) _ | exact (bal _ _).drew | exact ((bal _ _).alloc (by simp) _).drew | exact Below.refl _ _ | exact (Below.refl _ _).drew)) hb; have o0 : Own w1 (w.heap.size) #[.int .i64 (0), .int .i64 (0), .string ⟨#[]⟩, .bool false, .int .i64 (0)] := Own.keep (by with_reducible (first | assumption | exact Own.drew (by assumption) | exact Own.new _ _ _ | exact Own.new2 _ _ _ _ | exact (Own.new _ _ _).past _ | exact Own.drew (Own.new _ _ _) | exact (Own.new2 _ _ _ _).drew | exact ((Own.new _ _ _).past _).drew)) hb; have c0 := o0.cell; have f0 := o0.fro) | (go_at_call 140; refine (partsV _ _).mono ?_; rintro e w5 ⟨rfl, rfl⟩) | (go_at_call 157; refine (wordV _ _).mono ?_; rintro e w5 ⟨rfl, rfl⟩))
  all_goals go_ret2
  all_goals refine ⟨rfl, ?_⟩
  all_goals repeat' with_reducible first | assumption | refine Below.setCell ?_ (by first | exact Nat.le_refl _ | (simp; done) | (simp; omega)) _ | refine Below.drew ?_
theorem AsNumber_1 (n : Int) (w : World) (hn : I64 n) (hw : wrongC (1) (n) ⟨#[]⟩ false (0) = 0) : Calls Tryz.prog 102 #[(.agg #[.int .i64 (1), .int .i64 (n), .string ⟨#[]⟩, .bool false, .int .i64 (0)])] w fun e w' => e = .returned (.tuple #[.int .i64 (n), .int .i64 (0)]) ∧ Below w.heap.size w w' := by
  have hz : I64 0 := ⟨by decide, by decide⟩
  go_enter Tryz.func102, Tryz.ntmps102
  go_wp2_with (first | (go_at_call 139; refine (wrongV _ _ _ _ _ _ (by assumption)).mono ?_; rintro e w1 ⟨rfl, hb⟩; have hB : Below w.heap.size w w1 := bup (by with_reducible (first | assumption | exact Below.drew (by assumption) | exact bal _ _ | exact (bal _ _).alloc (by simp) _ | exact (bal _ _).drew | exact ((bal _ _).alloc (by simp) _).drew | exact Below.refl _ _ | exact (Below.refl _ _).drew)) hb; have o0 : Own w1 (w.heap.size) #[.int .i64 (1), .int .i64 (n), .string ⟨#[]⟩, .bool false, .int .i64 (0)] := Own.keep (by with_reducible (first | assumption | exact Own.drew (by assumption) | exact Own.new _ _ _ | exact Own.new2 _ _ _ _ | exact (Own.new _ _ _).past _ | exact Own.drew (Own.new _ _ _) | exact (Own.new2 _ _ _ _).drew | exact ((Own.new _ _ _).past _).drew)) hb; have c0 := o0.cell; have f0 := o0.fro) | (go_at_call 140; refine (partsV _ _).mono ?_; rintro e w5 ⟨rfl, rfl⟩) | (go_at_call 157; refine (wordV _ _).mono ?_; rintro e w5 ⟨rfl, rfl⟩))
  all_goals go_ret2
  all_goals refine ⟨rfl, ?_⟩
  all_goals repeat' with_reducible first | assumption | refine Below.setCell ?_ (by first | exact Nat.le_refl _ | (simp; done) | (simp; omega)) _ | refine Below.drew ?_
theorem AsNumber_2 (s : ByteArray) (w : World) (hw : wrongC (2) (0) s false (0) = 0) : Calls Tryz.prog 102 #[(.agg #[.int .i64 (2), .int .i64 (0), .string s, .bool false, .int .i64 (0)])] w fun e w' => e = .returned (.tuple #[.int .i64 (0), .int .i64 (4)]) ∧ Below w.heap.size w w' := by
  have hz : I64 0 := ⟨by decide, by decide⟩
  go_enter Tryz.func102, Tryz.ntmps102
  go_wp2_with (first | (go_at_call 139; refine (wrongV _ _ _ _ _ _ (by assumption)).mono ?_; rintro e w1 ⟨rfl, hb⟩; have hB : Below w.heap.size w w1 := bup (by with_reducible (first | assumption | exact Below.drew (by assumption) | exact bal _ _ | exact (bal _ _).alloc (by simp) _ | exact (bal _ _).drew | exact ((bal _ _).alloc (by simp) _).drew | exact Below.refl _ _ | exact (Below.refl _ _).drew)) hb; have o0 : Own w1 (w.heap.size) #[.int .i64 (2), .int .i64 (0), .string s, .bool false, .int .i64 (0)] := Own.keep (by with_reducible (first | assumption | exact Own.drew (by assumption) | exact Own.new _ _ _ | exact Own.new2 _ _ _ _ | exact (Own.new _ _ _).past _ | exact Own.drew (Own.new _ _ _) | exact (Own.new2 _ _ _ _).drew | exact ((Own.new _ _ _).past _).drew)) hb; have c0 := o0.cell; have f0 := o0.fro) | (go_at_call 140; refine (partsV _ _).mono ?_; rintro e w5 ⟨rfl, rfl⟩) | (go_at_call 157; refine (wordV _ _).mono ?_; rintro e w5 ⟨rfl, rfl⟩))
  all_goals go_ret2
  all_goals refine ⟨rfl, ?_⟩
  all_goals repeat' with_reducible first | assumption | refine Below.setCell ?_ (by first | exact Nat.le_refl _ | (simp; done) | (simp; omega)) _ | refine Below.drew ?_
theorem AsNumber_3 (b : Bool) (w : World) (hw : wrongC (3) (0) ⟨#[]⟩ b (0) = 0) : Calls Tryz.prog 102 #[(.agg #[.int .i64 (3), .int .i64 (0), .string ⟨#[]⟩, .bool b, .int .i64 (0)])] w fun e w' => e = .returned (.tuple #[.int .i64 (partsI b), .int .i64 (0)]) ∧ Below w.heap.size w w' := by
  have hz : I64 0 := ⟨by decide, by decide⟩
  go_enter Tryz.func102, Tryz.ntmps102
  go_wp2_with (first | (go_at_call 139; refine (wrongV _ _ _ _ _ _ (by assumption)).mono ?_; rintro e w1 ⟨rfl, hb⟩; have hB : Below w.heap.size w w1 := bup (by with_reducible (first | assumption | exact Below.drew (by assumption) | exact bal _ _ | exact (bal _ _).alloc (by simp) _ | exact (bal _ _).drew | exact ((bal _ _).alloc (by simp) _).drew | exact Below.refl _ _ | exact (Below.refl _ _).drew)) hb; have o0 : Own w1 (w.heap.size) #[.int .i64 (3), .int .i64 (0), .string ⟨#[]⟩, .bool b, .int .i64 (0)] := Own.keep (by with_reducible (first | assumption | exact Own.drew (by assumption) | exact Own.new _ _ _ | exact Own.new2 _ _ _ _ | exact (Own.new _ _ _).past _ | exact Own.drew (Own.new _ _ _) | exact (Own.new2 _ _ _ _).drew | exact ((Own.new _ _ _).past _).drew)) hb; have c0 := o0.cell; have f0 := o0.fro) | (go_at_call 140; refine (partsV _ _).mono ?_; rintro e w5 ⟨rfl, rfl⟩) | (go_at_call 157; refine (wordV _ _).mono ?_; rintro e w5 ⟨rfl, rfl⟩))
  all_goals go_ret2
  all_goals refine ⟨rfl, ?_⟩
  all_goals repeat' with_reducible first | assumption | refine Below.setCell ?_ (by first | exact Nat.le_refl _ | (simp; done) | (simp; omega)) _ | refine Below.drew ?_
theorem aNumberV (t n : Int) (s : ByteArray) (b : Bool) (c : Int) (w : World) (hn : I64 n) : Calls Tryz.prog 102 #[(.agg #[.int .i64 (t), .int .i64 (n), .string s, .bool b, .int .i64 (c)])] w fun e w' => e = .returned (.tuple #[.int .i64 (asNum t n s b c), .int .i64 (asCode t n s b c)]) ∧ Below w.heap.size w w' := by
  unfold asNum asCode
  by_cases hm : mayB t n s b c = true ∧ ¬ t = 4
  case neg =>
    rw [if_neg hm, if_neg hm]
    exact AsNumber_w t n s b c w hn (wrong_ne hm) (by have h := wrong_ne hm; simpa using h)
  rw [if_pos hm, if_pos hm]
  have hw := wrong_0 hm.1 hm.2
  rcases may_cases hm.1 hm.2 with ⟨rfl, rfl, rfl, rfl, rfl⟩ | ⟨rfl, rfl, rfl, rfl⟩ | ⟨rfl, rfl, rfl, rfl⟩ | ⟨rfl, rfl, rfl, rfl⟩
  · exact AsNumber_0 w hw
  · exact AsNumber_1 n w hn hw
  · exact AsNumber_2 s w hw
  · exact AsNumber_3 b w hw
theorem AsText_w (t n : Int) (s : ByteArray) (b : Bool) (c : Int) (w : World) (hn : I64 n) (hP : Pow w) (hx : (wrongC (t) (n) s b (c) != 0) = true) (hy : (wrongC (t) (n) s b (c) == 0) = false) : Calls Tryz.prog 133 #[(.agg #[.int .i64 (t), .int .i64 (n), .string s, .bool b, .int .i64 (c)])] w fun e w' => e = .returned (.tuple #[.string (⟨#[]⟩), .int .i64 (wrongC (t) (n) s b (c))]) ∧ Below w.heap.size w w' := by
  go_enter Tryz.func133, Tryz.ntmps133
  go_wp2_with (go_at_call 139; refine (wrongV _ _ _ _ _ _ (by assumption)).mono ?_; rintro e w1 ⟨rfl, hb⟩; have hB : Below w.heap.size w w1 := bup (by with_reducible (first | assumption | exact Below.drew (by assumption) | exact bal _ _ | exact (bal _ _).alloc (by simp) _ | exact (bal _ _).drew | exact ((bal _ _).alloc (by simp) _).drew | exact Below.refl _ _ | exact (Below.refl _ _).drew)) hb; have o0 : Own w1 (w.heap.size) #[.int .i64 (t), .int .i64 (n), .string s, .bool b, .int .i64 (c)] := Own.keep (by with_reducible (first | assumption | exact Own.drew (by assumption) | exact Own.new _ _ _ | exact Own.new2 _ _ _ _ | exact (Own.new _ _ _).past _ | exact Own.drew (Own.new _ _ _) | exact (Own.new2 _ _ _ _).drew | exact ((Own.new _ _ _).past _).drew)) hb; have c0 := o0.cell; have f0 := o0.fro; have hP1 := hP.up hB)
  all_goals go_ret2
  all_goals refine ⟨rfl, ?_⟩
  all_goals repeat' with_reducible first | assumption | refine Below.setCell ?_ (by first | exact Nat.le_refl _ | (simp; done) | (simp; omega)) _ | refine Below.drew ?_
theorem AsText_0  (w : World) (hP : Pow w) (hw : wrongC (0) (0) ⟨#[]⟩ false (0) = 0) : Calls Tryz.prog 133 #[(.agg #[.int .i64 (0), .int .i64 (0), .string ⟨#[]⟩, .bool false, .int .i64 (0)])] w fun e w' => e = .returned (.tuple #[.string (⟨#[]⟩), .int .i64 (0)]) ∧ Below w.heap.size w w' := by
  have hz : I64 0 := ⟨by decide, by decide⟩
  go_enter Tryz.func133, Tryz.ntmps133
  go_wp2_with (first | (go_at_call 139; refine (wrongV _ _ _ _ _ _ (by assumption)).mono ?_; rintro e w1 ⟨rfl, hb⟩; have hB : Below w.heap.size w w1 := bup (by with_reducible (first | assumption | exact Below.drew (by assumption) | exact bal _ _ | exact (bal _ _).alloc (by simp) _ | exact (bal _ _).drew | exact ((bal _ _).alloc (by simp) _).drew | exact Below.refl _ _ | exact (Below.refl _ _).drew)) hb; have o0 : Own w1 (w.heap.size) #[.int .i64 (0), .int .i64 (0), .string ⟨#[]⟩, .bool false, .int .i64 (0)] := Own.keep (by with_reducible (first | assumption | exact Own.drew (by assumption) | exact Own.new _ _ _ | exact Own.new2 _ _ _ _ | exact (Own.new _ _ _).past _ | exact Own.drew (Own.new _ _ _) | exact (Own.new2 _ _ _ _).drew | exact ((Own.new _ _ _).past _).drew)) hb; have c0 := o0.cell; have f0 := o0.fro; have hP1 := hP.up hB) | (go_at_call 140; refine (partsV _ _).mono ?_; rintro e w5 ⟨rfl, rfl⟩) | (go_at_call 157; refine (wordV _ _).mono ?_; rintro e w5 ⟨rfl, rfl⟩) | (go_at_call 156; refine (print_any _ _ (by assumption) (by assumption)).mono ?_; rintro e w5 ⟨rfl, hb⟩; have hB : Below w.heap.size w w5 := bup (by with_reducible (first | assumption | exact Below.drew (by assumption) | exact bal _ _ | exact (bal _ _).alloc (by simp) _ | exact (bal _ _).drew | exact ((bal _ _).alloc (by simp) _).drew | exact Below.refl _ _ | exact (Below.refl _ _).drew)) hb))
  all_goals go_ret2
  all_goals refine ⟨rfl, ?_⟩
  all_goals repeat' with_reducible first | assumption | refine Below.setCell ?_ (by first | exact Nat.le_refl _ | (simp; done) | (simp; omega)) _ | refine Below.drew ?_
theorem AsText_1 (n : Int) (w : World) (hn : I64 n) (hP : Pow w) (hw : wrongC (1) (n) ⟨#[]⟩ false (0) = 0) : Calls Tryz.prog 133 #[(.agg #[.int .i64 (1), .int .i64 (n), .string ⟨#[]⟩, .bool false, .int .i64 (0)])] w fun e w' => e = .returned (.tuple #[.string (printB n), .int .i64 (0)]) ∧ Below w.heap.size w w' := by
  have hz : I64 0 := ⟨by decide, by decide⟩
  go_enter Tryz.func133, Tryz.ntmps133
  go_wp2_with (first | (go_at_call 139; refine (wrongV _ _ _ _ _ _ (by assumption)).mono ?_; rintro e w1 ⟨rfl, hb⟩; have hB : Below w.heap.size w w1 := bup (by with_reducible (first | assumption | exact Below.drew (by assumption) | exact bal _ _ | exact (bal _ _).alloc (by simp) _ | exact (bal _ _).drew | exact ((bal _ _).alloc (by simp) _).drew | exact Below.refl _ _ | exact (Below.refl _ _).drew)) hb; have o0 : Own w1 (w.heap.size) #[.int .i64 (1), .int .i64 (n), .string ⟨#[]⟩, .bool false, .int .i64 (0)] := Own.keep (by with_reducible (first | assumption | exact Own.drew (by assumption) | exact Own.new _ _ _ | exact Own.new2 _ _ _ _ | exact (Own.new _ _ _).past _ | exact Own.drew (Own.new _ _ _) | exact (Own.new2 _ _ _ _).drew | exact ((Own.new _ _ _).past _).drew)) hb; have c0 := o0.cell; have f0 := o0.fro; have hP1 := hP.up hB) | (go_at_call 140; refine (partsV _ _).mono ?_; rintro e w5 ⟨rfl, rfl⟩) | (go_at_call 157; refine (wordV _ _).mono ?_; rintro e w5 ⟨rfl, rfl⟩) | (go_at_call 156; refine (print_any _ _ (by assumption) (by assumption)).mono ?_; rintro e w5 ⟨rfl, hb⟩; have hB : Below w.heap.size w w5 := bup (by with_reducible (first | assumption | exact Below.drew (by assumption) | exact bal _ _ | exact (bal _ _).alloc (by simp) _ | exact (bal _ _).drew | exact ((bal _ _).alloc (by simp) _).drew | exact Below.refl _ _ | exact (Below.refl _ _).drew)) hb))
  all_goals go_ret2
  all_goals refine ⟨rfl, ?_⟩
  all_goals repeat' with_reducible first | assumption | refine Below.setCell ?_ (by first | exact Nat.le_refl _ | (simp; done) | (simp; omega)) _ | refine Below.drew ?_
theorem AsText_2 (s : ByteArray) (w : World) (hP : Pow w) (hw : wrongC (2) (0) s false (0) = 0) : Calls Tryz.prog 133 #[(.agg #[.int .i64 (2), .int .i64 (0), .string s, .bool false, .int .i64 (0)])] w fun e w' => e = .returned (.tuple #[.string (s), .int .i64 (0)]) ∧ Below w.heap.size w w' := by
  have hz : I64 0 := ⟨by decide, by decide⟩
  go_enter Tryz.func133, Tryz.ntmps133
  go_wp2_with (first | (go_at_call 139; refine (wrongV _ _ _ _ _ _ (by assumption)).mono ?_; rintro e w1 ⟨rfl, hb⟩; have hB : Below w.heap.size w w1 := bup (by with_reducible (first | assumption | exact Below.drew (by assumption) | exact bal _ _ | exact (bal _ _).alloc (by simp) _ | exact (bal _ _).drew | exact ((bal _ _).alloc (by simp) _).drew | exact Below.refl _ _ | exact (Below.refl _ _).drew)) hb; have o0 : Own w1 (w.heap.size) #[.int .i64 (2), .int .i64 (0), .string s, .bool false, .int .i64 (0)] := Own.keep (by with_reducible (first | assumption | exact Own.drew (by assumption) | exact Own.new _ _ _ | exact Own.new2 _ _ _ _ | exact (Own.new _ _ _).past _ | exact Own.drew (Own.new _ _ _) | exact (Own.new2 _ _ _ _).drew | exact ((Own.new _ _ _).past _).drew)) hb; have c0 := o0.cell; have f0 := o0.fro; have hP1 := hP.up hB) | (go_at_call 140; refine (partsV _ _).mono ?_; rintro e w5 ⟨rfl, rfl⟩) | (go_at_call 157; refine (wordV _ _).mono ?_; rintro e w5 ⟨rfl, rfl⟩) | (go_at_call 156; refine (print_any _ _ (by assumption) (by assumption)).mono ?_; rintro e w5 ⟨rfl, hb⟩; have hB : Below w.heap.size w w5 := bup (by with_reducible (first | assumption | exact Below.drew (by assumption) | exact bal _ _ | exact (bal _ _).alloc (by simp) _ | exact (bal _ _).drew | exact ((bal _ _).alloc (by simp) _).drew | exact Below.refl _ _ | exact (Below.refl _ _).drew)) hb))
  all_goals go_ret2
  all_goals refine ⟨rfl, ?_⟩
  all_goals repeat' with_reducible first | assumption | refine Below.setCell ?_ (by first | exact Nat.le_refl _ | (simp; done) | (simp; omega)) _ | refine Below.drew ?_
theorem AsText_3 (b : Bool) (w : World) (hP : Pow w) (hw : wrongC (3) (0) ⟨#[]⟩ b (0) = 0) : Calls Tryz.prog 133 #[(.agg #[.int .i64 (3), .int .i64 (0), .string ⟨#[]⟩, .bool b, .int .i64 (0)])] w fun e w' => e = .returned (.tuple #[.string (wordB b), .int .i64 (0)]) ∧ Below w.heap.size w w' := by
  have hz : I64 0 := ⟨by decide, by decide⟩
  go_enter Tryz.func133, Tryz.ntmps133
  go_wp2_with (first | (go_at_call 139; refine (wrongV _ _ _ _ _ _ (by assumption)).mono ?_; rintro e w1 ⟨rfl, hb⟩; have hB : Below w.heap.size w w1 := bup (by with_reducible (first | assumption | exact Below.drew (by assumption) | exact bal _ _ | exact (bal _ _).alloc (by simp) _ | exact (bal _ _).drew | exact ((bal _ _).alloc (by simp) _).drew | exact Below.refl _ _ | exact (Below.refl _ _).drew)) hb; have o0 : Own w1 (w.heap.size) #[.int .i64 (3), .int .i64 (0), .string ⟨#[]⟩, .bool b, .int .i64 (0)] := Own.keep (by with_reducible (first | assumption | exact Own.drew (by assumption) | exact Own.new _ _ _ | exact Own.new2 _ _ _ _ | exact (Own.new _ _ _).past _ | exact Own.drew (Own.new _ _ _) | exact (Own.new2 _ _ _ _).drew | exact ((Own.new _ _ _).past _).drew)) hb; have c0 := o0.cell; have f0 := o0.fro; have hP1 := hP.up hB) | (go_at_call 140; refine (partsV _ _).mono ?_; rintro e w5 ⟨rfl, rfl⟩) | (go_at_call 157; refine (wordV _ _).mono ?_; rintro e w5 ⟨rfl, rfl⟩) | (go_at_call 156; refine (print_any _ _ (by assumption) (by assumption)).mono ?_; rintro e w5 ⟨rfl, hb⟩; have hB : Below w.heap.size w w5 := bup (by with_reducible (first | assumption | exact Below.drew (by assumption) | exact bal _ _ | exact (bal _ _).alloc (by simp) _ | exact (bal _ _).drew | exact ((bal _ _).alloc (by simp) _).drew | exact Below.refl _ _ | exact (Below.refl _ _).drew)) hb))
  all_goals go_ret2
  all_goals refine ⟨rfl, ?_⟩
  all_goals repeat' with_reducible first | assumption | refine Below.setCell ?_ (by first | exact Nat.le_refl _ | (simp; done) | (simp; omega)) _ | refine Below.drew ?_
theorem aTextV (t n : Int) (s : ByteArray) (b : Bool) (c : Int) (w : World) (hn : I64 n) (hP : Pow w) : Calls Tryz.prog 133 #[(.agg #[.int .i64 (t), .int .i64 (n), .string s, .bool b, .int .i64 (c)])] w fun e w' => e = .returned (.tuple #[.string (asTxt t n s b c), .int .i64 (asCodeT t n s b c)]) ∧ Below w.heap.size w w' := by
  unfold asTxt asCodeT
  by_cases hm : mayB t n s b c = true ∧ ¬ t = 4
  case neg =>
    rw [if_neg hm, if_neg hm]
    exact AsText_w t n s b c w hn hP (wrong_ne hm) (by have h := wrong_ne hm; simpa using h)
  rw [if_pos hm, if_pos hm]
  have hw := wrong_0 hm.1 hm.2
  rcases may_cases hm.1 hm.2 with ⟨rfl, rfl, rfl, rfl, rfl⟩ | ⟨rfl, rfl, rfl, rfl⟩ | ⟨rfl, rfl, rfl, rfl⟩ | ⟨rfl, rfl, rfl, rfl⟩
  · exact AsText_0 w hP hw
  · exact AsText_1 n w hn hP hw
  · exact AsText_2 s w hP hw
  · exact AsText_3 b w hP hw
theorem rAsNumber_w (t n : Int) (s : ByteArray) (b : Bool) (c : Int) (w : World) (hn : I64 n) (hx : (wrongC (t) (n) s b (c) != 0) = true) (hy : (wrongC (t) (n) s b (c) == 0) = false) : Calls Tryz.prog 106 #[(.agg #[.int .i64 (t), .int .i64 (n), .string s, .bool b, .int .i64 (c)])] w fun e w' => e = .returned (.tuple #[.int .i64 (0), .int .i64 (wrongC (t) (n) s b (c))]) ∧ Below w.heap.size w w' := by
  go_enter Tryz.func106, Tryz.ntmps106
  go_wp2_with (go_at_call 69; refine (rfaultV _ _ _ _ _ _ (by assumption)).mono ?_; rintro e w1 ⟨rfl, hb⟩; have hB : Below w.heap.size w w1 := bup (by with_reducible (first | assumption | exact Below.drew (by assumption) | exact bal _ _ | exact (bal _ _).alloc (by simp) _ | exact (bal _ _).drew | exact ((bal _ _).alloc (by simp) _).drew | exact Below.refl _ _ | exact (Below.refl _ _).drew)) hb; have o0 : Own w1 (w.heap.size) #[.int .i64 (t), .int .i64 (n), .string s, .bool b, .int .i64 (c)] := Own.keep (by with_reducible (first | assumption | exact Own.drew (by assumption) | exact Own.new _ _ _ | exact Own.new2 _ _ _ _ | exact (Own.new _ _ _).past _ | exact Own.drew (Own.new _ _ _) | exact (Own.new2 _ _ _ _).drew | exact ((Own.new _ _ _).past _).drew)) hb; have c0 := o0.cell; have f0 := o0.fro)
  all_goals go_ret2
  all_goals refine ⟨rfl, ?_⟩
  all_goals repeat' with_reducible first | assumption | refine Below.setCell ?_ (by first | exact Nat.le_refl _ | (simp; done) | (simp; omega)) _ | refine Below.drew ?_
theorem rAsNumber_0  (w : World) (hw : wrongC (0) (0) ⟨#[]⟩ false (0) = 0) : Calls Tryz.prog 106 #[(.agg #[.int .i64 (0), .int .i64 (0), .string ⟨#[]⟩, .bool false, .int .i64 (0)])] w fun e w' => e = .returned (.tuple #[.int .i64 (0), .int .i64 (0)]) ∧ Below w.heap.size w w' := by
  have hz : I64 0 := ⟨by decide, by decide⟩
  go_enter Tryz.func106, Tryz.ntmps106
  go_wp2_with (go_at_call 69; refine (rfaultV _ _ _ _ _ _ (by assumption)).mono ?_; rintro e w1 ⟨rfl, hb⟩; have hB : Below w.heap.size w w1 := bup (by with_reducible (first | assumption | exact Below.drew (by assumption) | exact bal _ _ | exact (bal _ _).alloc (by simp) _ | exact (bal _ _).drew | exact ((bal _ _).alloc (by simp) _).drew | exact Below.refl _ _ | exact (Below.refl _ _).drew)) hb; have o0 : Own w1 (w.heap.size) #[.int .i64 (0), .int .i64 (0), .string ⟨#[]⟩, .bool false, .int .i64 (0)] := Own.keep (by with_reducible (first | assumption | exact Own.drew (by assumption) | exact Own.new _ _ _ | exact Own.new2 _ _ _ _ | exact (Own.new _ _ _).past _ | exact Own.drew (Own.new _ _ _) | exact (Own.new2 _ _ _ _).drew | exact ((Own.new _ _ _).past _).drew)) hb; have c0 := o0.cell; have f0 := o0.fro)
  all_goals go_ret2
  all_goals refine ⟨rfl, ?_⟩
  all_goals repeat' with_reducible first | assumption | refine Below.setCell ?_ (by first | exact Nat.le_refl _ | (simp; done) | (simp; omega)) _ | refine Below.drew ?_
theorem rAsNumber_1 (n : Int) (w : World) (hn : I64 n) (hw : wrongC (1) (n) ⟨#[]⟩ false (0) = 0) : Calls Tryz.prog 106 #[(.agg #[.int .i64 (1), .int .i64 (n), .string ⟨#[]⟩, .bool false, .int .i64 (0)])] w fun e w' => e = .returned (.tuple #[.int .i64 (n), .int .i64 (0)]) ∧ Below w.heap.size w w' := by
  have hz : I64 0 := ⟨by decide, by decide⟩
  go_enter Tryz.func106, Tryz.ntmps106
  go_wp2_with (go_at_call 69; refine (rfaultV _ _ _ _ _ _ (by assumption)).mono ?_; rintro e w1 ⟨rfl, hb⟩; have hB : Below w.heap.size w w1 := bup (by with_reducible (first | assumption | exact Below.drew (by assumption) | exact bal _ _ | exact (bal _ _).alloc (by simp) _ | exact (bal _ _).drew | exact ((bal _ _).alloc (by simp) _).drew | exact Below.refl _ _ | exact (Below.refl _ _).drew)) hb; have o0 : Own w1 (w.heap.size) #[.int .i64 (1), .int .i64 (n), .string ⟨#[]⟩, .bool false, .int .i64 (0)] := Own.keep (by with_reducible (first | assumption | exact Own.drew (by assumption) | exact Own.new _ _ _ | exact Own.new2 _ _ _ _ | exact (Own.new _ _ _).past _ | exact Own.drew (Own.new _ _ _) | exact (Own.new2 _ _ _ _).drew | exact ((Own.new _ _ _).past _).drew)) hb; have c0 := o0.cell; have f0 := o0.fro)
  all_goals go_ret2
  all_goals refine ⟨rfl, ?_⟩
  all_goals repeat' with_reducible first | assumption | refine Below.setCell ?_ (by first | exact Nat.le_refl _ | (simp; done) | (simp; omega)) _ | refine Below.drew ?_
theorem rAsNumber_2 (s : ByteArray) (w : World) (hw : wrongC (2) (0) s false (0) = 0) : Calls Tryz.prog 106 #[(.agg #[.int .i64 (2), .int .i64 (0), .string s, .bool false, .int .i64 (0)])] w fun e w' => e = .returned (.tuple #[.int .i64 (0), .int .i64 (4)]) ∧ Below w.heap.size w w' := by
  have hz : I64 0 := ⟨by decide, by decide⟩
  go_enter Tryz.func106, Tryz.ntmps106
  go_wp2_with (go_at_call 69; refine (rfaultV _ _ _ _ _ _ (by assumption)).mono ?_; rintro e w1 ⟨rfl, hb⟩; have hB : Below w.heap.size w w1 := bup (by with_reducible (first | assumption | exact Below.drew (by assumption) | exact bal _ _ | exact (bal _ _).alloc (by simp) _ | exact (bal _ _).drew | exact ((bal _ _).alloc (by simp) _).drew | exact Below.refl _ _ | exact (Below.refl _ _).drew)) hb; have o0 : Own w1 (w.heap.size) #[.int .i64 (2), .int .i64 (0), .string s, .bool false, .int .i64 (0)] := Own.keep (by with_reducible (first | assumption | exact Own.drew (by assumption) | exact Own.new _ _ _ | exact Own.new2 _ _ _ _ | exact (Own.new _ _ _).past _ | exact Own.drew (Own.new _ _ _) | exact (Own.new2 _ _ _ _).drew | exact ((Own.new _ _ _).past _).drew)) hb; have c0 := o0.cell; have f0 := o0.fro)
  all_goals go_ret2
  all_goals refine ⟨rfl, ?_⟩
  all_goals repeat' with_reducible first | assumption | refine Below.setCell ?_ (by first | exact Nat.le_refl _ | (simp; done) | (simp; omega)) _ | refine Below.drew ?_
theorem rAsNumber_3f (w : World) (hw : wrongC (3) (0) ⟨#[]⟩ false (0) = 0) : Calls Tryz.prog 106 #[(.agg #[.int .i64 (3), .int .i64 (0), .string ⟨#[]⟩, .bool false, .int .i64 (0)])] w fun e w' => e = .returned (.tuple #[.int .i64 (partsI false), .int .i64 (0)]) ∧ Below w.heap.size w w' := by
  have hz : I64 0 := ⟨by decide, by decide⟩
  go_enter Tryz.func106, Tryz.ntmps106
  go_wp2_with (go_at_call 69; refine (rfaultV _ _ _ _ _ _ (by assumption)).mono ?_; rintro e w1 ⟨rfl, hb⟩; have hB : Below w.heap.size w w1 := bup (by with_reducible (first | assumption | exact Below.drew (by assumption) | exact bal _ _ | exact (bal _ _).alloc (by simp) _ | exact (bal _ _).drew | exact ((bal _ _).alloc (by simp) _).drew | exact Below.refl _ _ | exact (Below.refl _ _).drew)) hb; have o0 : Own w1 (w.heap.size) #[.int .i64 (3), .int .i64 (0), .string ⟨#[]⟩, .bool false, .int .i64 (0)] := Own.keep (by with_reducible (first | assumption | exact Own.drew (by assumption) | exact Own.new _ _ _ | exact Own.new2 _ _ _ _ | exact (Own.new _ _ _).past _ | exact Own.drew (Own.new _ _ _) | exact (Own.new2 _ _ _ _).drew | exact ((Own.new _ _ _).past _).drew)) hb; have c0 := o0.cell; have f0 := o0.fro)
  all_goals go_ret2
  all_goals refine ⟨rfl, ?_⟩
  all_goals repeat' with_reducible first | assumption | refine Below.setCell ?_ (by first | exact Nat.le_refl _ | (simp; done) | (simp; omega)) _ | refine Below.drew ?_
theorem rAsNumber_3t (w : World) (hw : wrongC (3) (0) ⟨#[]⟩ true (0) = 0) : Calls Tryz.prog 106 #[(.agg #[.int .i64 (3), .int .i64 (0), .string ⟨#[]⟩, .bool true, .int .i64 (0)])] w fun e w' => e = .returned (.tuple #[.int .i64 (partsI true), .int .i64 (0)]) ∧ Below w.heap.size w w' := by
  have hz : I64 0 := ⟨by decide, by decide⟩
  go_enter Tryz.func106, Tryz.ntmps106
  go_wp2_with (go_at_call 69; refine (rfaultV _ _ _ _ _ _ (by assumption)).mono ?_; rintro e w1 ⟨rfl, hb⟩; have hB : Below w.heap.size w w1 := bup (by with_reducible (first | assumption | exact Below.drew (by assumption) | exact bal _ _ | exact (bal _ _).alloc (by simp) _ | exact (bal _ _).drew | exact ((bal _ _).alloc (by simp) _).drew | exact Below.refl _ _ | exact (Below.refl _ _).drew)) hb; have o0 : Own w1 (w.heap.size) #[.int .i64 (3), .int .i64 (0), .string ⟨#[]⟩, .bool true, .int .i64 (0)] := Own.keep (by with_reducible (first | assumption | exact Own.drew (by assumption) | exact Own.new _ _ _ | exact Own.new2 _ _ _ _ | exact (Own.new _ _ _).past _ | exact Own.drew (Own.new _ _ _) | exact (Own.new2 _ _ _ _).drew | exact ((Own.new _ _ _).past _).drew)) hb; have c0 := o0.cell; have f0 := o0.fro)
  all_goals go_ret2
  all_goals refine ⟨rfl, ?_⟩
  all_goals repeat' with_reducible first | assumption | refine Below.setCell ?_ (by first | exact Nat.le_refl _ | (simp; done) | (simp; omega)) _ | refine Below.drew ?_
theorem rAsNumber_3 (b : Bool) (w : World) (hw : wrongC (3) (0) ⟨#[]⟩ b (0) = 0) : Calls Tryz.prog 106 #[(.agg #[.int .i64 (3), .int .i64 (0), .string ⟨#[]⟩, .bool b, .int .i64 (0)])] w fun e w' => e = .returned (.tuple #[.int .i64 (partsI b), .int .i64 (0)]) ∧ Below w.heap.size w w' := by
  cases b
  · exact rAsNumber_3f w hw
  · exact rAsNumber_3t w hw
theorem raNumberV (t n : Int) (s : ByteArray) (b : Bool) (c : Int) (w : World) (hn : I64 n) : Calls Tryz.prog 106 #[(.agg #[.int .i64 (t), .int .i64 (n), .string s, .bool b, .int .i64 (c)])] w fun e w' => e = .returned (.tuple #[.int .i64 (asNum t n s b c), .int .i64 (asCode t n s b c)]) ∧ Below w.heap.size w w' := by
  unfold asNum asCode
  by_cases hm : mayB t n s b c = true ∧ ¬ t = 4
  case neg =>
    rw [if_neg hm, if_neg hm]
    exact rAsNumber_w t n s b c w hn (wrong_ne hm) (by have h := wrong_ne hm; simpa using h)
  rw [if_pos hm, if_pos hm]
  have hw := wrong_0 hm.1 hm.2
  rcases may_cases hm.1 hm.2 with ⟨rfl, rfl, rfl, rfl, rfl⟩ | ⟨rfl, rfl, rfl, rfl⟩ | ⟨rfl, rfl, rfl, rfl⟩ | ⟨rfl, rfl, rfl, rfl⟩
  · exact rAsNumber_0 w hw
  · exact rAsNumber_1 n w hn hw
  · exact rAsNumber_2 s w hw
  · exact rAsNumber_3 b w hw
theorem asBoo_eq (t n : Int) (s : ByteArray) (b : Bool) (c : Int) : (asNum t n s b c != 0) = asBoo t n s b c := by
  unfold asNum asBoo
  by_cases hm : mayB t n s b c = true ∧ ¬ t = 4
  · rw [if_pos hm, if_pos hm]
    by_cases h1 : t = 1
    · rw [if_pos h1, if_pos h1]
    · rw [if_neg h1, if_neg h1]
      by_cases h3 : t = 3
      · rw [if_pos h3, if_pos h3]; cases b <;> rfl
      · rw [if_neg h3, if_neg h3]; rfl
  · rw [if_neg hm, if_neg hm]; rfl
end Go.Proofs.YtcgcnpcimfaecaaGreatDoor
