/- The contract of dec.Print: for every int64 it returns the text of the number (nothing for the least one); new memory alone is made. The condition: the library's table of powers of ten lies as its initialiser lays it. -/
import Derived.Test.YtdcfnfapdceenaaGreatDoorFmt
import Derived.Test.YtdcfnfapdceenaaGreatDoorSums
import Derived.Lib.AppendIntMem
import Derived.Lib.SmallJoins
import Derived.WalkSpells
import Derived.Outline
namespace Go.Proofs.YtdcfnfapdceenaaGreatDoor
open Go.Shelf Go.RowKit Go.Sort Go.Lib Go.Joins
set_option linter.unusedVariables false
theorem gPow : Tryz.prog.globalNamed "internal/strconv.uint64pow10" = some 3 := by kernel_rfl
/-- The library's table of powers of ten lies as it is laid. -/
abbrev Pow (w : World) : Prop := Lib.TabIs Tryz.prog w "internal/strconv.uint64pow10" .u64 Lib.pow10Tab
theorem Pow.stays {w w' : World} (h : Pow w) (hb : Below w.heap.size w w') : Pow w' := tab_stays gPow h hb (Nat.le_refl _)

/-- The digits ahead of the point; those of 10000 and the rest; the rest's without noughts at the end. -/
def ipB (n : Nat) : ByteArray := ⟨(Lib.decDigits (n / 10000)).toArray⟩
def fdB (n : Nat) : ByteArray := ⟨(Lib.decDigits (10000 + n % 10000)).toArray⟩
def frB (n : Nat) : ByteArray := ⟨(Lib.trimRightB ((Lib.decDigits (10000 + n % 10000)).drop 1) 48).toArray⟩
theorem ipB_size (n : Nat) (h : n ≤ 9223372036854775807) : (ipB n).size ≤ 20 := by
  show (Lib.decDigits (n / 10000)).toArray.size ≤ 20
  simp only [List.size_toArray, Lib.decDigits_length]
  by_cases h0 : n / 10000 = 0
  · rw [h0, Lib.nDigits_small (by decide)]; decide
  · have := Lib.numDigits_eq (n / 10000) (by omega) (by omega); split at this <;> omega
theorem fd_len (n : Nat) : (Lib.decDigits (10000 + n % 10000)).length = 5 := by
  rw [Lib.decDigits_length]; exact Lib.nDigits_unique 4 _ (by omega) (by omega)
theorem fdB_size (n : Nat) : (fdB n).size = 5 := by
  show (Lib.decDigits (10000 + n % 10000)).toArray.size = 5
  simp only [List.size_toArray]; exact fd_len n
theorem dropWhile_len {α : Type} (p : α → Bool) (l : List α) : (l.dropWhile p).length ≤ l.length := by
  induction l with
  | nil => simp
  | cons a l ih => rw [List.dropWhile_cons]; split <;> simp <;> omega
theorem trim_len (l : List UInt8) (c : UInt8) : (Lib.trimRightB l c).length ≤ l.length := by
  unfold Lib.trimRightB; have := dropWhile_len (· == c) l.reverse; simp at this ⊢; omega
theorem frB_size (n : Nat) : (frB n).size ≤ 4 := by
  show (Lib.trimRightB ((Lib.decDigits (10000 + n % 10000)).drop 1) 48).toArray.size ≤ 4
  have h := trim_len ((Lib.decDigits (10000 + n % 10000)).drop 1) 48
  simp only [List.size_toArray, List.length_drop, fd_len] at *; omega

theorem fmtB (q : Int) (u : Nat) (hq : q = u) (hu64 : u < 18446744073709551616) (w : World) (htab : Pow w) :
    Calls Tryz.prog 140 #[.int .u64 q, .int .i64 10] w fun e w' => e = .returned (.string ⟨(Lib.decDigits u).toArray⟩) ∧ Below w.heap.size w w' := by
  subst hq
  exact (fmtU u hu64 w htab).mono fun e w' ⟨he, k, os, hw⟩ => ⟨he, by rw [hw]; exact below_grow _ w (Nat.le_refl _) k os⟩
theorem fmt_ip (q : Int) (n : Nat) (hq : q = ((n / 10000 : Nat) : Int)) (hn : n ≤ 9223372036854775807) (w : World) (htab : Pow w) :
    Calls Tryz.prog 140 #[.int .u64 q, .int .i64 10] w fun e w' => e = .returned (.string (ipB n)) ∧ Below w.heap.size w w' := fmtB q (n / 10000) hq (by omega) w htab
theorem fmt_fd (q : Int) (n : Nat) (hq : q = ((10000 + n % 10000 : Nat) : Int)) (w : World) (htab : Pow w) :
    Calls Tryz.prog 140 #[.int .u64 q, .int .i64 10] w fun e w' => e = .returned (.string (fdB n)) ∧ Below w.heap.size w w' := fmtB q (10000 + n % 10000) hq (by omega) w htab
theorem fd_drop (n : Nat) : ((fdB n).extract 1 5).data.toList = (Lib.decDigits (10000 + n % 10000)).drop 1 := by
  have h := fd_len n
  simp only [fdB, ByteArray.data_extract, Array.toList_extract]
  rw [List.extract_eq_take_drop, List.take_of_length_le (by rw [List.length_drop, h]; decide)]
theorem trim_fd (n : Nat) (w : World) :
    Calls Tryz.prog 141 #[.string ((fdB n).extract 1 5), .string ⟨#[48]⟩] w fun e w' => e = .returned (.string (frB n)) ∧ w' = w := by
  refine (Any.strings_TrimRight_one Tryz.lays162 ((fdB n).extract 1 5) 48 (by decide) w ?_).mono ?_
  · have := congrArg List.length (fd_drop n)
    have h2 : ((fdB n).extract 1 5).data.toList.length = ((fdB n).extract 1 5).size := rfl
    rw [h2, List.length_drop, fd_len] at this
    omega
  · rintro e w' ⟨rfl, rfl⟩
    exact ⟨by rw [fd_drop]; rfl, rfl⟩
theorem size_n (n : Nat) (x : Int) (w : World) (h : x = n ∨ x = -(n : Int)) (hn : n ≤ 9223372036854775807) : Calls Tryz.prog 139 #[.int .i64 x] w fun e w' => e = .returned (.int .u64 n) ∧ w' = w := by
  by_cases h0 : x < 0
  · go_enter Tryz.func139, Tryz.ntmps139
    go_wp2
    go_ret
    exact ⟨ret1 (by omega), rfl⟩
  · go_enter Tryz.func139, Tryz.ntmps139
    go_wp2
    go_ret
    exact ⟨ret1 (by omega), rfl⟩
theorem print_pf (x : Int) (n : Nat) (w : World) (hx : x = n) (hr : n % 10000 ≠ 0) (hn : n ≤ 9223372036854775807) (htab : Pow w) :
    Calls Tryz.prog 108 #[.int .i64 x] w fun e w' => e = .returned (.string (ipB n ++ (⟨#[46]⟩ ++ frB n))) ∧ Below w.heap.size w w' := by
  have h1 := ipB_size n hn
  have h2 := fdB_size n
  have h3 := frB_size n
  go_enter Tryz.func108, Tryz.ntmps108
  go_wp2_with (first | (go_at_call 138; refine (may_t _ _ (by omega)).mono ?_; rintro e w' ⟨rfl, rfl⟩) | (go_at_call 139; refine (size_n n _ _ (by omega) hn).mono ?_; rintro e w' ⟨rfl, rfl⟩))
  go_at_call 140
  refine (fmt_ip _ n (by omega) hn _ htab).mono ?_
  rintro e w1 ⟨rfl, hb1⟩
  have htab1 := htab.stays hb1
  go_wp2_with fail
  go_at_call 140
  refine (fmt_fd _ n (by omega) _ htab1).mono ?_
  rintro e w2 ⟨rfl, hb2⟩
  go_wp2_with (go_at_call 141; refine (trim_fd n _).mono ?_; rintro e w3 ⟨rfl, rfl⟩)
  go_ret
  exact ⟨rfl, hb1.trans (hb2.mono hb1.size)⟩
theorem print_nf (x : Int) (n : Nat) (w : World) (hx : x = -(n : Int)) (hx0 : x < 0) (hr : n % 10000 ≠ 0) (hn : n ≤ 9223372036854775807) (htab : Pow w) :
    Calls Tryz.prog 108 #[.int .i64 x] w fun e w' => e = .returned (.string (⟨#[45]⟩ ++ (ipB n ++ (⟨#[46]⟩ ++ frB n)))) ∧ Below w.heap.size w w' := by
  have h1 := ipB_size n hn
  have h2 := fdB_size n
  have h3 := frB_size n
  go_enter Tryz.func108, Tryz.ntmps108
  go_wp2_with (first | (go_at_call 138; refine (may_t _ _ (by omega)).mono ?_; rintro e w' ⟨rfl, rfl⟩) | (go_at_call 139; refine (size_n n _ _ (by omega) hn).mono ?_; rintro e w' ⟨rfl, rfl⟩))
  go_at_call 140
  refine (fmt_ip _ n (by omega) hn _ htab).mono ?_
  rintro e w1 ⟨rfl, hb1⟩
  have htab1 := htab.stays hb1
  go_wp2_with fail
  go_at_call 140
  refine (fmt_fd _ n (by omega) _ htab1).mono ?_
  rintro e w2 ⟨rfl, hb2⟩
  go_wp2_with (go_at_call 141; refine (trim_fd n _).mono ?_; rintro e w3 ⟨rfl, rfl⟩)
  go_ret
  exact ⟨rfl, hb1.trans (hb2.mono hb1.size)⟩
theorem print_pw (x : Int) (n : Nat) (w : World) (hx : x = n) (hr : n % 10000 = 0) (hn : n ≤ 9223372036854775807) (htab : Pow w) :
    Calls Tryz.prog 108 #[.int .i64 x] w fun e w' => e = .returned (.string (ipB n)) ∧ Below w.heap.size w w' := by
  have h1 := ipB_size n hn
  have h2 := fdB_size n
  have h3 := frB_size n
  go_enter Tryz.func108, Tryz.ntmps108
  go_wp2_with (first | (go_at_call 138; refine (may_t _ _ (by omega)).mono ?_; rintro e w' ⟨rfl, rfl⟩) | (go_at_call 139; refine (size_n n _ _ (by omega) hn).mono ?_; rintro e w' ⟨rfl, rfl⟩))
  go_at_call 140
  refine (fmt_ip _ n (by omega) hn _ htab).mono ?_
  rintro e w1 ⟨rfl, hb1⟩
  have htab1 := htab.stays hb1
  go_wp2_with fail
  go_ret
  exact ⟨rfl, hb1⟩
theorem print_nw (x : Int) (n : Nat) (w : World) (hx : x = -(n : Int)) (hx0 : x < 0) (hr : n % 10000 = 0) (hn : n ≤ 9223372036854775807) (htab : Pow w) :
    Calls Tryz.prog 108 #[.int .i64 x] w fun e w' => e = .returned (.string (⟨#[45]⟩ ++ ipB n)) ∧ Below w.heap.size w w' := by
  have h1 := ipB_size n hn
  have h2 := fdB_size n
  have h3 := frB_size n
  go_enter Tryz.func108, Tryz.ntmps108
  go_wp2_with (first | (go_at_call 138; refine (may_t _ _ (by omega)).mono ?_; rintro e w' ⟨rfl, rfl⟩) | (go_at_call 139; refine (size_n n _ _ (by omega) hn).mono ?_; rintro e w' ⟨rfl, rfl⟩))
  go_at_call 140
  refine (fmt_ip _ n (by omega) hn _ htab).mono ?_
  rintro e w1 ⟨rfl, hb1⟩
  have htab1 := htab.stays hb1
  go_wp2_with fail
  go_ret
  exact ⟨rfl, hb1⟩
/-- The text of a number. -/
def numB (n : Nat) : ByteArray := if n % 10000 = 0 then ipB n else ipB n ++ (⟨#[46]⟩ ++ frB n)
def printB (x : Int) : ByteArray := if x = -9223372036854775808 then ⟨#[]⟩ else if x < 0 then ⟨#[45]⟩ ++ numB x.natAbs else numB x.natAbs
theorem print_any (x : Int) (w : World) (hx : I64 x) (htab : Pow w) : Calls Tryz.prog 108 #[.int .i64 x] w fun e w' => e = .returned (.string (printB x)) ∧ Below w.heap.size w w' := by
  obtain ⟨hx1, hx2⟩ := hx
  unfold printB numB
  by_cases hm : x = -9223372036854775808
  · rw [if_pos hm]
    go_enter Tryz.func108, Tryz.ntmps108
    go_wp2_with (go_at_call 138; refine (may_f _ _ (by omega)).mono ?_; rintro e w' ⟨rfl, rfl⟩)
    go_ret
    exact ⟨rfl, Below.refl _ _⟩
  rw [if_neg hm]
  by_cases h0 : x < 0
  · rw [if_pos h0]
    by_cases hr : x.natAbs % 10000 = 0
    · rw [if_pos hr]; exact print_nw x x.natAbs w (by omega) h0 hr (by omega) htab
    · rw [if_neg hr]; exact print_nf x x.natAbs w (by omega) h0 hr (by omega) htab
  · rw [if_neg h0]
    by_cases hr : x.natAbs % 10000 = 0
    · rw [if_pos hr]; exact print_pw x x.natAbs w (by omega) hr (by omega) htab
    · rw [if_neg hr]; exact print_pf x x.natAbs w (by omega) hr (by omega) htab
end Go.Proofs.YtdcfnfapdceenaaGreatDoor
