/- What the laws of this seat share: numbers, blocks of the caller's own, cells and rectangle -/
import Derived.Test.YtcmjhjnpcogmgaaGreatDoorUAuto
import Derived.Test.YtcmjhjnpcogmgaaGreatDoorRows
import Derived.WalkKit
import Derived.WalkSpells
import Derived.Outline
import Derived.Laws.StructEq
import Derived.Laws.NewBlocks
import Derived.Deep.RegionWith
import Derived.Deep.RegionHeld3
import Derived.ProofKit
import Derived.OpenShut
import Derived.ShutString
import Derived.Deep.QuietTactic
import Derived.BigQuiet
import Derived.Lib.ItoaNum
import Derived.Laws.RangeAny
import Derived.Laws.Cover1
import Derived.LoopTactic
set_option linter.all false
set_option maxRecDepth 100000
set_option maxHeartbeats 4000000
namespace Go.Proofs.YtcmjhjnpcogmgaaGreatDoor
open Go.RowKit Go.ChangeShapes Go.WideShapes Go.ChangeAt
def I64 (x : Int) : Prop := -9223372036854775808 ≤ x ∧ x ≤ 9223372036854775807
theorem i64_of {x : Int} (h : (Lit.int .i64 x).wf = true) : I64 x := by
 have : -9223372036854775808 ≤ x ∧ x ≤ 9223372036854775807 := by simpa [Lit.wf, IntKind.min, IntKind.max, IntKind.signed, IntKind.bits] using h
 exact this
theorem retB {a b : Bool} (h : a = b) : Ending.returned (.bool a) = .returned (.bool b) := by rw [h]
theorem ret1 {k : IntKind} {a b : Int} (h : a = b) : Ending.returned (.int k a) = .returned (.int k b) := by rw [h]
theorem retS {a b : ByteArray} (h : a = b) : Ending.returned (.string a) = .returned (.string b) := by rw [h]
theorem bal (w : World) (o : Obj) : Below w.heap.size w (w.alloc o) := (Below.refl _ _).alloc (Nat.le_refl _) _
theorem bup {w W w1 : World} (h : Below w.heap.size w W) (hb : Below W.heap.size W w1) : Below w.heap.size w w1 := h.trans (hb.mono h.size)
structure Own (w : World) (blk : Nat) (A : Array Value) : Prop where
 lt : blk < w.heap.size
 cell : ∀ o, w.cell? ⟨blk, o, none⟩ = A[o]?
 fro : ∀ o, w.frozen? ⟨blk, o, none⟩ = false
theorem Own.keep {W w1 : World} {blk : Nat} {A : Array Value} (h : Own W blk A) (hb : Below W.heap.size W w1) : Own w1 blk A :=
 ⟨Nat.lt_of_lt_of_le h.lt hb.size, fun o => (hb.cell (p := ⟨blk, o, none⟩) h.lt).trans (h.cell o), fun o => (hb.frozen (p := ⟨blk, o, none⟩) h.lt).trans (h.fro o)⟩
theorem keepZ {W w1 : World} (blk : Nat) (h : Own W blk #[.int .i64 0, .int .i64 0, .int .i64 0, .string ⟨#[]⟩, .int .i64 0, .int .i64 0, .int .i64 0, .int .i64 0, .int .i64 0, .int .i64 0, .int .i64 0]) (hb : Below W.heap.size W w1) : Own w1 blk #[.int .i64 0, .int .i64 0, .int .i64 0, .string ⟨#[]⟩, .int .i64 0, .int .i64 0, .int .i64 0, .int .i64 0, .int .i64 0, .int .i64 0, .int .i64 0] := Own.keep h hb
theorem bux (w : World) {W w1 : World} (h : Below w.heap.size w W) (hb : Below W.heap.size W w1) : Below w.heap.size w w1 := bup h hb
theorem Own.new (w : World) (A : Array Value) (T : TypeId) : Own (w.alloc (.cells A T)) w.heap.size A :=
 ⟨by simp, fun o => World.cell?_alloc_new w A T o, fun o => World.frozen?_alloc_new w A T o⟩
theorem Own.past {w : World} {blk : Nat} {A : Array Value} (h : Own w blk A) (x : Obj) : Own (w.alloc x) blk A := h.keep (bal w x)
theorem Own.drew {w : World} {blk : Nat} {A : Array Value} (h : Own w blk A) : Own w.drew blk A := h.keep (Below.refl _ _).drew
theorem Own.at {w : World} {A : Array Value} {T : TypeId} {n : Nat} (h : n = w.heap.size) : Own (w.alloc (.cells A T)) n A := by subst h; exact Own.new _ _ _
def sameR (a b c d a' b' c' d' : Int) : Bool := decide (a = a' ∧ b = b' ∧ c = c' ∧ d = d')
theorem neR (a b c d a' b' c' d' : Int) (w : World) : (binOp .neq 40 (.agg #[.int .i64 a, .int .i64 b, .int .i64 c, .int .i64 d]) (.agg #[.int .i64 a', .int .i64 b', .int .i64 c', .int .i64 d'])).run Tryz.prog w = .ok (.bool (!sameR a b c d a' b' c' d')) w := by
 rw [run_neq_struct, run_equalIn_agg w 9999 40 _ _ zq14 zq14]
 unfold sameR
 go_simp
 by_cases h1 : a = a'
 ·by_cases h2 : b = b'
  ·by_cases h3 : c = c' <;> by_cases h4 : d = d' <;> simp [h1, h2, h3, h4]
  ·simp [h1, h2]
 ·simp [h1]
theorem own : ownKnob Tryz.prog.godebug = none := by kernel_rfl
end Go.Proofs.YtcmjhjnpcogmgaaGreatDoor
namespace Go.Proofs.YtcmjhjnpcogmgaaGreatDoor
open Go.RowKit
theorem bdrewN {B : Nat} {a w : World} (h : Below B a w) (n : Nat) : Below B a (w.drewN n) := ⟨h.os, h.tape, h.output, h.size, h.block⟩
def mayC (r c : Int) : Bool := decide (1 ≤ r ∧ r ≤ 4096 ∧ 1 ≤ c ∧ c ≤ 256)
theorem mayC_t {r c : Int} (h : 1 ≤ r ∧ r ≤ 4096 ∧ 1 ≤ c ∧ c ≤ 256) : mayC r c = true := by simpa [mayC] using h
theorem mayC_f {r c : Int} (h : ¬ (1 ≤ r ∧ r ≤ 4096 ∧ 1 ≤ c ∧ c ≤ 256)) : mayC r c = false := by simpa [mayC] using h
theorem mayC_is {r c : Int} (h : mayC r c = true) : 1 ≤ r ∧ r ≤ 4096 ∧ 1 ≤ c ∧ c ≤ 256 := by simpa [mayC] using h
theorem may_any (r c : Int) (w : World) : Calls Tryz.prog 62 #[.agg #[.int .i64 r, .int .i64 c]] w fun e w' => e = .returned (.bool (mayC r c)) ∧ Below w.heap.size w w' := by
 go_enter Tryz.func62, Tryz.ntmps62
 go_wp2
 all_goals go_ret
 all_goals refine ⟨retB ?_, bal _ _⟩
 all_goals first | (rw [mayC_t zq17]; done) | (rw [mayC_f zq17]; done) | (rw [Bool.eq_iff_iff]; simp only [mayC, decide_eq_true_eq]; omega)
def witB (n a b : Int) : Bool := decide (a ≤ n ∧ n ≤ b)
theorem within_any (n a b : Int) (w : World) : Calls Tryz.prog 176 #[.int .i64 n, .int .i64 a, .int .i64 b] w fun e w' => e = .returned (.bool (witB n a b)) ∧ w' = w := by
 go_enter Tryz.func176, Tryz.ntmps176
 go_wp2
 all_goals go_ret
 all_goals refine ⟨retB ?_, rfl⟩
 all_goals (unfold witB; simp; try omega)
theorem witB_t {n a b : Int} (h : a ≤ n ∧ n ≤ b) : witB n a b = true := by simpa [witB] using h
theorem witB_f {n a b : Int} (h : ¬ (a ≤ n ∧ n ≤ b)) : witB n a b = false := by simpa [witB] using h
theorem witB_may (r c : Int) : mayC r c = (witB r 1 4096 && witB c 1 256) := by
 by_cases h : 1 ≤ r ∧ r ≤ 4096 ∧ 1 ≤ c ∧ c ≤ 256
 ·rw [mayC_t h, witB_t zq17, witB_t zq17]; rfl
 ·rw [mayC_f h]
  by_cases k : 1 ≤ r ∧ r ≤ 4096
  ·rw [witB_f (n := c) zq17]; simp
  ·rw [witB_f (n := r) zq17]; simp
theorem rmay_any (r c : Int) (w : World) : Calls Tryz.prog 149 #[.agg #[.int .i64 r, .int .i64 c]] w fun e w' => e = .returned (.bool (mayC r c)) ∧ Below w.heap.size w w' := by
 rw [witB_may]
 go_enter Tryz.func149, Tryz.ntmps149
 cases h1 : witB r 1 4096
 all_goals go_wp2_with (go_at_call 176; refine (within_any _ _ _ _).mono ?_; rintro e w5 ⟨rfl, rfl⟩)
 all_goals go_ret
 all_goals refine ⟨retB ?_, bal _ _⟩
 all_goals simp
end Go.Proofs.YtcmjhjnpcogmgaaGreatDoor
namespace Go.Proofs.YtcmjhjnpcogmgaaGreatDoor
open Go.Lib
def colL (c : Nat) : List UInt8 := if c = 0 then [] else if c ≤ 26 then [UInt8.ofNat (64 + c)] else [UInt8.ofNat (64 + (c - 1) / 26), UInt8.ofNat (65 + (c - 1) % 26)]
def rowL (r : Nat) : List UInt8 := if r = 0 then [] else decDigits r
abbrev mayN (r c : Nat) : Prop := 1 ≤ r ∧ r ≤ 4096 ∧ 1 ≤ c ∧ c ≤ 256
def pst : List UInt8 → Nat → Nat → Option (Nat × Nat)
 | [], c, r => if mayN r c then some (r, c) else none
 | x :: l, c, r =>
  if 65 ≤ x.toNat ∧ x.toNat ≤ 90 ∧ r = 0 then (if c * 26 + (x.toNat - 64) ≤ 256 then pst l (c * 26 + (x.toNat - 64)) r else none)
  else if 48 ≤ x.toNat ∧ x.toNat ≤ 57 ∧ ¬ (r = 0 ∧ x.toNat = 48) then (if r * 10 + (x.toNat - 48) ≤ 4096 then pst l c (r * 10 + (x.toNat - 48)) else none)
  else none
theorem pst_nil (c r : Nat) : pst [] c r = if mayN r c then some (r, c) else none := rfl
theorem pst_let (x : UInt8) (l : List UInt8) (c : Nat) (h1 : 65 ≤ x.toNat) (h2 : x.toNat ≤ 90) (h3 : c * 26 + (x.toNat - 64) ≤ 256) : pst (x :: l) c 0 = pst l (c * 26 + (x.toNat - 64)) 0 := by
 rw [pst, if_pos ⟨h1, h2, rfl⟩, if_pos h3]
theorem pst_let_no (x : UInt8) (l : List UInt8) (c : Nat) (h1 : 65 ≤ x.toNat) (h2 : x.toNat ≤ 90) (h3 : 256 < c * 26 + (x.toNat - 64)) : pst (x :: l) c 0 = none := by
 rw [pst, if_pos ⟨h1, h2, rfl⟩, if_neg zq17]
theorem pst_dig (x : UInt8) (l : List UInt8) (c r : Nat) (h1 : 48 ≤ x.toNat) (h2 : x.toNat ≤ 57) (h : r ≠ 0 ∨ x.toNat ≠ 48) (h3 : r * 10 + (x.toNat - 48) ≤ 4096) : pst (x :: l) c r = pst l c (r * 10 + (x.toNat - 48)) := by
 rw [pst, if_neg zq17, if_pos zq17, if_pos h3]
theorem pst_dig_no (x : UInt8) (l : List UInt8) (c r : Nat) (h1 : 48 ≤ x.toNat) (h2 : x.toNat ≤ 57) (h3 : 4096 < r * 10 + (x.toNat - 48)) : pst (x :: l) c r = none := by
 rw [pst, if_neg zq17]
 split
 ·rw [if_neg zq17]
 ·rfl
theorem pst_bad (x : UInt8) (l : List UInt8) (c r : Nat) (h1 : x.toNat < 65 ∨ 90 < x.toNat ∨ r ≠ 0) (h2 : x.toNat < 48 ∨ 57 < x.toNat ∨ (r = 0 ∧ x.toNat = 48)) : pst (x :: l) c r = none := by
 rw [pst, if_neg zq17, if_neg zq17]
theorem ofn {n : Nat} (h : n < 256) : (UInt8.ofNat n).toNat = n := by simp [UInt8.toNat_ofNat']; omega
theorem nfo (x : UInt8) {n : Nat} (h : n = x.toNat) : UInt8.ofNat n = x := by subst h; simp
theorem pst_col (c : Nat) (l : List UInt8) (h1 : 1 ≤ c) (h2 : c ≤ 256) : pst (colL c ++ l) 0 0 = pst l c 0 := by
 unfold colL
 rw [if_neg zq17]
 by_cases h : c ≤ 26
 ·rw [if_pos h]
  have e := ofn (n := 64 + c) zq17
  show pst (UInt8.ofNat (64 + c) :: l) 0 0 = _
  rw [pst_let _ _ _ zq17 zq17 zq17, e]
  congr 1; omega
 ·rw [if_neg h]
  have e1 := ofn (n := 64 + (c - 1) / 26) zq17
  have e2 := ofn (n := 65 + (c - 1) % 26) zq17
  show pst (UInt8.ofNat (64 + (c - 1) / 26) :: UInt8.ofNat (65 + (c - 1) % 26) :: l) 0 0 = _
  rw [pst_let _ _ _ zq17 zq17 zq17, pst_let _ _ _ zq17 zq17 zq17, e1, e2]
  congr 1; omega
theorem pst_row (c : Nat) : ∀ (r : Nat) (l : List UInt8), 1 ≤ r → r ≤ 4096 → pst (decDigits r ++ l) c 0 = pst l c r := by
 intro r
 induction r using Nat.strongRecOn with
 | _ r ih =>
  intro l h1 h2
  by_cases h : r < 10
  ·rw [decDigits_one h]
   have e := ofn (n := 48 + r) zq17
   show pst (UInt8.ofNat (48 + r) :: l) c 0 = _
   rw [pst_dig _ _ _ _ zq17 zq17 zq17 zq17, e]
   congr 1; omega
  ·rw [decDigits, dif_neg h, List.append_assoc, ih (r / 10) zq17 _ zq17 zq17]
   have e := ofn (n := 48 + r % 10) zq17
   show pst (UInt8.ofNat (48 + r % 10) :: l) c (r / 10) = _
   rw [pst_dig _ _ _ _ zq17 zq17 zq17 zq17, e]
   congr 1; omega
theorem rowL_pos {r : Nat} (h : 1 ≤ r) : rowL r = decDigits r := by unfold rowL; rw [if_neg zq17]
theorem pst_name (r c : Nat) (h : mayN r c) : pst (colL c ++ rowL r) 0 0 = some (r, c) := by
 obtain ⟨h1, h2, h3, h4⟩ := h
 rw [pst_col c _ h3 h4, rowL_pos h1, ← List.append_nil (decDigits r), pst_row c r [] h1 h2, pst_nil, if_pos ⟨h1, h2, h3, h4⟩]
theorem col_snoc (c : Nat) (x : UInt8) (h1 : 65 ≤ x.toNat) (h2 : x.toNat ≤ 90) (h3 : c * 26 + (x.toNat - 64) ≤ 256) : colL (c * 26 + (x.toNat - 64)) = colL c ++ [x] := by
 unfold colL
 by_cases h0 : c = 0
 ·rw [if_pos h0, if_neg zq17, if_pos zq17, nfo x zq17]; rfl
 ·have hc : c ≤ 26 := by omega
  rw [if_neg (show ¬ c * 26 + (x.toNat - 64) = 0 by omega), if_neg (show ¬ c * 26 + (x.toNat - 64) ≤ 26 by omega), if_neg h0, if_pos hc, show 64 + (c * 26 + (x.toNat - 64) - 1) / 26 = 64 + c by omega, nfo x (show 65 + (c * 26 + (x.toNat - 64) - 1) % 26 = x.toNat by omega)]; rfl
theorem row_snoc (r : Nat) (x : UInt8) (h1 : 48 ≤ x.toNat) (h2 : x.toNat ≤ 57) (h : r ≠ 0 ∨ x.toNat ≠ 48) : rowL (r * 10 + (x.toNat - 48)) = rowL r ++ [x] := by
 rw [rowL_pos zq17]
 by_cases h0 : r = 0
 ·rw [h0, decDigits_one zq17, nfo x zq17]; rfl
 ·rw [decDigits, dif_neg zq17, rowL_pos zq17, nfo x zq17, show (r * 10 + (x.toNat - 48)) / 10 = r by omega]
theorem pst_back : ∀ (l : List UInt8) (c r c' r' : Nat), pst l c r = some (r', c') → mayN r' c' ∧ colL c' ++ rowL r' = colL c ++ rowL r ++ l := by
 intro l
 induction l with
 | nil =>
  intro c r c' r' h
  rw [pst_nil] at h
  split at h
  ·cases h; exact ⟨zq15, by simp⟩
  ·cases h
 | cons x l ih =>
  intro c r c' r' h
  rw [pst] at h
  split at h
  ·rename_i k
   obtain ⟨k1, k2, k3⟩ := k
   split at h
   ·rename_i k4
    obtain ⟨m, e⟩ := ih _ _ _ _ h
    refine ⟨m, ?_⟩
    rw [e, col_snoc c x k1 k2 k4, k3]
    simp [rowL]
   ·cases h
  ·split at h
   ·rename_i k
    obtain ⟨k1, k2, k3⟩ := k
    split at h
    ·obtain ⟨m, e⟩ := ih _ _ _ _ h
     refine ⟨m, ?_⟩
     rw [e, row_snoc r x k1 k2 zq17]
     simp
    ·cases h
   ·cases h
theorem pst_is (l : List UInt8) (r c : Nat) : pst l 0 0 = some (r, c) ↔ mayN r c ∧ colL c ++ rowL r = l := by
 constructor
 ·intro h
  have := pst_back l 0 0 c r h
  simpa [colL, rowL] using this
 ·rintro ⟨h, rfl⟩
  exact pst_name r c h
theorem dec_len (r : Nat) (h1 : 1 ≤ r) (h2 : r ≤ 4096) : 1 ≤ (decDigits r).length ∧ (decDigits r).length ≤ 4 := by
 rw [decDigits_length]
 refine ⟨nDigits_pos r, ?_⟩
 by_cases a : r < 10
 ·rw [nDigits_small a]; omega
 rw [nDigits_big a]
 by_cases b : r / 10 < 10
 ·rw [nDigits_small b]; omega
 rw [nDigits_big b]
 by_cases c : r / 10 / 10 < 10
 ·rw [nDigits_small c]; omega
 rw [nDigits_big c, nDigits_small zq17]
 omega
end Go.Proofs.YtcmjhjnpcogmgaaGreatDoor
namespace Go.Proofs.YtcmjhjnpcogmgaaGreatDoor
open Go.RowKit
def pO (s : ByteArray) : Option (Nat × Nat) := pst s.data.toList 0 0
def pB (s : ByteArray) : Bool := (pO s).isSome
def pR (s : ByteArray) : Int := match pO s with | some (r, _) => r | none => 0
def pC (s : ByteArray) : Int := match pO s with | some (_, c) => c | none => 0
def ltB (n : Int) : Bool := decide (65 ≤ n ∧ n ≤ 90)
def dgB (n : Int) (b : Bool) : Bool := decide (48 ≤ n ∧ n ≤ 57 ∧ ¬ (b = true ∧ n = 48))
theorem ltB_t {n : Int} (h : 65 ≤ n ∧ n ≤ 90) : ltB n = true := by simpa [ltB] using h
theorem ltB_f {n : Int} (h : ¬ (65 ≤ n ∧ n ≤ 90)) : ltB n = false := by simpa [ltB] using h
def dg2 (n : Int) : Bool := decide (48 ≤ n ∧ n ≤ 57)
theorem dg2_t {n : Int} (h : 48 ≤ n ∧ n ≤ 57) : dg2 n = true := by simpa [dg2] using h
theorem dg2_f {n : Int} (h : ¬ (48 ≤ n ∧ n ≤ 57)) : dg2 n = false := by simpa [dg2] using h
theorem dgB_ne {n : Int} (b : Bool) (h : ¬ n = 48) : dgB n b = dg2 n := by
 unfold dgB dg2
 rw [Bool.eq_iff_iff]
 simp only [decide_eq_true_eq]
 constructor
 ·rintro ⟨a, b, _⟩; exact ⟨a, b⟩
 ·rintro ⟨a, b⟩; exact ⟨a, b, fun k => h k.2⟩
theorem dgB_t {n : Int} {b : Bool} (h : 48 ≤ n ∧ n ≤ 57 ∧ ¬ (b = true ∧ n = 48)) : dgB n b = true := by simp only [dgB, decide_eq_true_eq]; exact h
theorem dgB_f {n : Int} {b : Bool} (h : ¬ (48 ≤ n ∧ n ≤ 57 ∧ ¬ (b = true ∧ n = 48))) : dgB n b = false := by simp only [dgB, decide_eq_false_iff_not]; exact h
theorem letter_any (n : Int) (w : World) : Calls Tryz.prog 189 #[.int .i32 n] w fun e w' => e = .returned (.bool (ltB n)) ∧ w' = w := by
 go_enter Tryz.func189, Tryz.ntmps189
 go_wp2
 all_goals go_ret
 all_goals refine ⟨retB ?_, rfl⟩
 all_goals first | (rw [ltB_t zq17]; done) | (rw [ltB_f zq17]; done) | (rw [Bool.eq_iff_iff]; simp only [ltB, decide_eq_true_eq]; omega)
theorem digit_any (n : Int) (b : Bool) (w : World) : Calls Tryz.prog 190 #[.int .i32 n, .bool b] w fun e w' => e = .returned (.bool (dgB n b)) ∧ w' = w := by
 by_cases h : (n == 48) = true
 ·have h' : n = 48 := by simpa using h
  subst h'
  clear h
  cases b
  all_goals
   go_enter Tryz.func190, Tryz.ntmps190
   go_wp2
   all_goals go_ret
   all_goals exact ⟨retB zq16, rfl⟩
 ·have h' : ¬ n = 48 := by simpa using h
  have h2 : (n == 48) = false := by simpa using h
  clear h
  rw [dgB_ne b h']
  cases b
  all_goals
   go_enter Tryz.func190, Tryz.ntmps190
   go_wp2
   all_goals go_ret
   all_goals refine ⟨retB ?_, rfl⟩
   all_goals first | (rw [dg2_t zq17]; done) | (rw [dg2_f zq17]; done) | (rw [Bool.eq_iff_iff]; simp only [dg2, decide_eq_true_eq]; omega)
end Go.Proofs.YtcmjhjnpcogmgaaGreatDoor
namespace Go.Proofs.YtcmjhjnpcogmgaaGreatDoor
open Go.RowKit
theorem pN {s : ByteArray} (h : pO s = none) : pR s = 0 ∧ pC s = 0 ∧ pB s = false := by simp [pR, pC, pB, h]
theorem pS {s : ByteArray} {r c : Nat} (h : pO s = some (r, c)) : pR s = r ∧ pC s = c ∧ pB s = true := by simp [pR, pC, pB, h]
def pW (w : World) (s : ByteArray) (r c : Int) (pos : Nat) : World := ((w.alloc (.cells #[.int .i64 0, .int .i64 0] 38)).alloc (.cells #[.int .i64 r, .int .i64 c] 38)).iter s pos
theorem pW_own0 (w : World) (s : ByteArray) (r c : Int) (pos : Nat) : Own (pW w s r c pos) w.heap.size #[.int .i64 0, .int .i64 0] := by
 unfold pW World.iter
 exact ((Own.new _ _ _).past _).past _
theorem pW_own1 (w : World) (s : ByteArray) (r c : Int) (pos : Nat) : Own (pW w s r c pos) (w.heap.size + 1) #[.int .i64 r, .int .i64 c] := by
 unfold pW World.iter
 exact (Own.at (by simp)).past _
theorem pW_bel (w : World) (s : ByteArray) (r c : Int) (pos : Nat) : Below w.heap.size w (pW w s r c pos) := by
 unfold pW World.iter
 exact ((bal _ _).alloc (by simp) _).alloc (by simp; omega) _
theorem pW_row (w : World) (s : ByteArray) (r c x : Int) (pos : Nat) : (pW w s r c pos).setCell ⟨w.heap.size + 1, 0, none⟩ (.int .i64 x) = pW w s x c pos := by
 unfold pW World.iter
 rw [World.setCell_alloc_past _ _ _ _ (by simp), World.setCell_alloc_at _ _ _ _ _ (by simp)]; rfl
theorem pW_col (w : World) (s : ByteArray) (r c x : Int) (pos : Nat) : (pW w s r c pos).setCell ⟨w.heap.size + 1, 1, none⟩ (.int .i64 x) = pW w s r x pos := by
 unfold pW World.iter
 rw [World.setCell_alloc_past _ _ _ _ (by simp), World.setCell_alloc_at _ _ _ _ _ (by simp)]; rfl
theorem pW_z0 (w : World) (s : ByteArray) (r c : Int) (pos : Nat) : (pW w s r c pos).setCell ⟨w.heap.size, 0, none⟩ (.int .i64 0) = pW w s r c pos := by
 unfold pW World.iter
 rw [World.setCell_alloc_past _ _ _ _ (by simp; omega), World.setCell_alloc_past _ _ _ _ (by simp), World.setCell_alloc_at _ _ _ _ _ rfl]; rfl
theorem pW_z1 (w : World) (s : ByteArray) (r c : Int) (pos : Nat) : (pW w s r c pos).setCell ⟨w.heap.size, 1, none⟩ (.int .i64 0) = pW w s r c pos := by
 unfold pW World.iter
 rw [World.setCell_alloc_past _ _ _ _ (by simp; omega), World.setCell_alloc_past _ _ _ _ (by simp), World.setCell_alloc_at _ _ _ _ _ rfl]; rfl
theorem pW_eq {w : World} {s : ByteArray} {r c r' c' : Int} {pos : Nat} (h : r = r') (h' : c = c') : pW w s r c pos = pW w s r' c' pos := by rw [h, h']
theorem pW_pos (w : World) (s : ByteArray) (r c : Int) (pos : Nat) : (pW w s r c pos).iterPos (w.heap.size + 1 + 1) = pos := by
 unfold pW
 have h := World.iterPos_iter ((w.alloc (.cells #[.int .i64 0, .int .i64 0] 38)).alloc (.cells #[.int .i64 r, .int .i64 c] 38)) s pos
 simpa using h
theorem pW_next (w : World) (s : ByteArray) (r c : Int) (pos : Nat) (ty : TypeId) (h : pos < s.size) : (Instr.next (.pointer (some ⟨w.heap.size + 1 + 1, 0, none⟩)) true ty).run Tryz.prog (pW w s r c pos) =
   .ok (.tuple #[.bool true, .int .i64 pos, .int .i32 (Utf8.decode s pos).1]) (pW w s r c (pos + (Utf8.decode s pos).2)) := by
 unfold pW
 have k := run_next_any (P := Tryz.prog) ((w.alloc (.cells #[.int .i64 0, .int .i64 0] 38)).alloc (.cells #[.int .i64 r, .int .i64 c] 38)) s pos ty h
 simpa using k
theorem pW_end (w : World) (s : ByteArray) (r c : Int) (pos : Nat) (ty : TypeId) (h : ¬ pos < s.size) : (Instr.next (.pointer (some ⟨w.heap.size + 1 + 1, 0, none⟩)) true ty).run Tryz.prog (pW w s r c pos) =
   .ok (.tuple #[.bool false]) (pW w s r c pos) := by
 unfold pW
 have k := run_next_end (P := Tryz.prog) ((w.alloc (.cells #[.int .i64 0, .int .i64 0] 38)).alloc (.cells #[.int .i64 r, .int .i64 c] 38)) s pos ty h
 simpa using k
theorem drop_at (s : ByteArray) (pos : Nat) (h : pos < s.size) : s.data.toList.drop pos = s[pos] :: s.data.toList.drop (pos + 1) := by
 rw [List.drop_eq_getElem_cons (by simpa using h)]; rfl
theorem parse_any (s : ByteArray) (w : World) : Calls Tryz.prog 172 #[.string s] w fun e w' => e = .returned (.tuple #[.agg #[.int .i64 (pR s), .int .i64 (pC s)], .bool (pB s)]) ∧ Below w.heap.size w w' := by
 go_enter Tryz.func172, Tryz.ntmps172
 go_wp2
 have c0 := fun (r c : Int) (pos : Nat) => (pW_own0 w s r c pos).cell
 have f0 := fun (r c : Int) (pos : Nat) => (pW_own0 w s r c pos).fro
 have c1 := fun (r c : Int) (pos : Nat) => (pW_own1 w s r c pos).cell
 have f1 := fun (r c : Int) (pos : Nat) => (pW_own1 w s r c pos).fro
 have t0 := pW_row w s
 have t1 := pW_col w s
 have t2 := pW_z0 w s
 have t3 := pW_z1 w s
 go_loopw [3] (fun n w' => ∃ pos c r : Nat, w' = pW w s r c pos ∧ n = .bool false ∧ c ≤ 256 ∧ r ≤ 4096 ∧ pst (s.data.toList.drop pos) c r = pO s) (fun _ w' => s.size - w'.iterPos (w.heap.size + 1 + 1))
 case atStart => exact ⟨0, 0, 0, rfl, rfl, zq17, zq17, rfl⟩
 case round =>
  obtain ⟨pos, c, r, rfl, rfl, hc, hr, hO⟩ := hrel
  by_cases hp : pos < s.size
  ·have hnx := fun (r c : Int) ty => pW_next w s r c pos ty hp
   have hd := drop_at s pos hp
   rw [hd] at hO
   by_cases ha : (s[pos]'hp).toNat < 128
   ·rw [decode_ascii s pos hp ha] at hnx
    generalize s[pos]'hp = x at hO hnx ha hd
    clear hd
    by_cases hl : 65 ≤ x.toNat ∧ x.toNat ≤ 90
    ·have q1 : ltB (x.toNat : Int) = true := ltB_t zq17
     by_cases hr0 : r = 0
     ·subst hr0
      by_cases hk : c * 26 + (x.toNat - 64) ≤ 256
      ·rw [pst_let x _ c hl.1 hl.2 hk] at hO
       have hk' : (c : Int) * 26 + ((x.toNat : Int) - 65) + 1 ≤ 256 := by omega
       go_wp2_with (first | (go_at_call 189; refine (letter_any _ _).mono ?_; rintro e w5 ⟨rfl, rfl⟩) | (go_at_call 190; refine (digit_any _ _ _).mono ?_; rintro e w5 ⟨rfl, rfl⟩))
       refine ⟨⟨pos + 1, c * 26 + (x.toNat - 64), 0, pW_eq zq17 zq17, rfl, zq17, zq17, hO⟩, by rw [pW_pos, pW_pos]; omega⟩
      ·rw [pst_let_no x _ c hl.1 hl.2 zq17] at hO
       have hk' : 256 < (c : Int) * 26 + ((x.toNat : Int) - 65) + 1 := by omega
       go_wp2_with (first | (go_at_call 189; refine (letter_any _ _).mono ?_; rintro e w5 ⟨rfl, rfl⟩) | (go_at_call 190; refine (digit_any _ _ _).mono ?_; rintro e w5 ⟨rfl, rfl⟩))
       all_goals exact bodyPost_ret (v := .tuple #[.agg #[.int .i64 0, .int .i64 0], .bool false]) (by simp [results, Tryz.results172, go_sem, c0, f0]) rfl ⟨by rw [(pN hO.symm).1, (pN hO.symm).2.1, (pN hO.symm).2.2], pW_bel _ _ _ _ _⟩
     ·have hr1 : ((r : Int) == 0) = false := by simp; omega
      have q2 : dgB (x.toNat : Int) false = false := dgB_f zq17
      rw [pst_bad x _ c r zq17 zq17] at hO
      go_wp2_with (first | (go_at_call 189; refine (letter_any _ _).mono ?_; rintro e w5 ⟨rfl, rfl⟩) | (go_at_call 190; refine (digit_any _ _ _).mono ?_; rintro e w5 ⟨rfl, rfl⟩))
      all_goals exact bodyPost_ret (v := .tuple #[.agg #[.int .i64 0, .int .i64 0], .bool false]) (by simp [results, Tryz.results172, go_sem, c0, f0]) rfl ⟨by rw [(pN hO.symm).1, (pN hO.symm).2.1, (pN hO.symm).2.2], pW_bel _ _ _ _ _⟩
    ·have q1 : ltB (x.toNat : Int) = false := ltB_f zq17
     by_cases hg : 48 ≤ x.toNat ∧ x.toNat ≤ 57 ∧ ¬ (r = 0 ∧ x.toNat = 48)
     ·by_cases hk : r * 10 + (x.toNat - 48) ≤ 4096
      ·rw [pst_dig x _ c r hg.1 hg.2.1 zq17 hk] at hO
       by_cases hr0 : r = 0
       ·subst hr0
        have q2 : dgB (x.toNat : Int) true = true := dgB_t ⟨zq17, zq17, fun k => by omega⟩
        go_wp2_with (first | (go_at_call 189; refine (letter_any _ _).mono ?_; rintro e w5 ⟨rfl, rfl⟩) | (go_at_call 190; refine (digit_any _ _ _).mono ?_; rintro e w5 ⟨rfl, rfl⟩))
        refine ⟨⟨pos + 1, c, 0 * 10 + (x.toNat - 48), pW_eq zq17 zq17, rfl, zq17, zq17, hO⟩, by rw [pW_pos, pW_pos]; omega⟩
       ·have hr1 : ((r : Int) == 0) = false := by simp; omega
        have q2 : dgB (x.toNat : Int) false = true := dgB_t ⟨zq17, zq17, fun k => by simp at k⟩
        have hk' : (r : Int) * 10 + ((x.toNat : Int) - 48) ≤ 4096 := by omega
        have hc' : (c : Int) ≤ 256 := by omega
        go_wp2_with (first | (go_at_call 189; refine (letter_any _ _).mono ?_; rintro e w5 ⟨rfl, rfl⟩) | (go_at_call 190; refine (digit_any _ _ _).mono ?_; rintro e w5 ⟨rfl, rfl⟩))
        refine ⟨⟨pos + 1, c, r * 10 + (x.toNat - 48), pW_eq zq17 zq17, rfl, zq17, zq17, hO⟩, by rw [pW_pos, pW_pos]; omega⟩
      ·rw [pst_dig_no x _ c r hg.1 hg.2.1 zq17] at hO
       have hr1 : ((r : Int) == 0) = false := by simp; omega
       have q2 : dgB (x.toNat : Int) false = true := dgB_t ⟨zq17, zq17, fun k => by simp at k⟩
       have hk' : 4096 < (r : Int) * 10 + ((x.toNat : Int) - 48) := by omega
       have hc' : (c : Int) ≤ 256 := by omega
       go_wp2_with (first | (go_at_call 189; refine (letter_any _ _).mono ?_; rintro e w5 ⟨rfl, rfl⟩) | (go_at_call 190; refine (digit_any _ _ _).mono ?_; rintro e w5 ⟨rfl, rfl⟩))
       all_goals exact bodyPost_ret (v := .tuple #[.agg #[.int .i64 0, .int .i64 0], .bool false]) (by simp [results, Tryz.results172, go_sem, c0, f0]) rfl ⟨by rw [(pN hO.symm).1, (pN hO.symm).2.1, (pN hO.symm).2.2], pW_bel _ _ _ _ _⟩
     ·rw [pst_bad x _ c r zq17 zq17] at hO
      by_cases hr0 : r = 0
      ·subst hr0
       have q2 : dgB (x.toNat : Int) true = false := dgB_f (by intro k; obtain ⟨k1, k2, k3⟩ := k; apply hg; refine ⟨zq17, zq17, fun h => k3 ⟨rfl, zq17⟩⟩)
       go_wp2_with (first | (go_at_call 189; refine (letter_any _ _).mono ?_; rintro e w5 ⟨rfl, rfl⟩) | (go_at_call 190; refine (digit_any _ _ _).mono ?_; rintro e w5 ⟨rfl, rfl⟩))
       all_goals exact bodyPost_ret (v := .tuple #[.agg #[.int .i64 0, .int .i64 0], .bool false]) (by simp [results, Tryz.results172, go_sem, c0, f0]) rfl ⟨by rw [(pN hO.symm).1, (pN hO.symm).2.1, (pN hO.symm).2.2], pW_bel _ _ _ _ _⟩
      ·have hr1 : ((r : Int) == 0) = false := by simp; omega
       have q2 : dgB (x.toNat : Int) false = false := dgB_f (by intro k; obtain ⟨k1, k2, k3⟩ := k; apply hg; refine ⟨zq17, zq17, fun h => by omega⟩)
       go_wp2_with (first | (go_at_call 189; refine (letter_any _ _).mono ?_; rintro e w5 ⟨rfl, rfl⟩) | (go_at_call 190; refine (digit_any _ _ _).mono ?_; rintro e w5 ⟨rfl, rfl⟩))
       all_goals exact bodyPost_ret (v := .tuple #[.agg #[.int .i64 0, .int .i64 0], .bool false]) (by simp [results, Tryz.results172, go_sem, c0, f0]) rfl ⟨by rw [(pN hO.symm).1, (pN hO.symm).2.1, (pN hO.symm).2.2], pW_bel _ _ _ _ _⟩
   ·have hh := decode_high s pos hp zq17
    generalize (Utf8.decode s pos).1 = n at hnx hh
    generalize (Utf8.decode s pos).2 = m at hnx hh
    have hh' : (128 : Int) ≤ n := by omega
    have q1 : ltB (n : Int) = false := ltB_f zq17
    have q2 : ∀ b, dgB (n : Int) b = false := fun b => dgB_f zq17
    rw [pst_bad _ _ c r zq17 zq17] at hO
    clear hd
    go_wp2_with (first | (go_at_call 189; refine (letter_any _ _).mono ?_; rintro e w5 ⟨rfl, rfl⟩) | (go_at_call 190; refine (digit_any _ _ _).mono ?_; rintro e w5 ⟨rfl, rfl⟩))
    all_goals exact bodyPost_ret (v := .tuple #[.agg #[.int .i64 0, .int .i64 0], .bool false]) (by simp [results, Tryz.results172, go_sem, c0, f0]) rfl ⟨by rw [(pN hO.symm).1, (pN hO.symm).2.1, (pN hO.symm).2.2], pW_bel _ _ _ _ _⟩
  ·have hnx := fun (r c : Int) ty => pW_end w s r c pos ty hp
   rw [List.drop_eq_nil_of_le (by simp; omega), pst_nil] at hO
   by_cases hm : mayN r c
   ·have q : mayC (r : Int) (c : Int) = true := mayC_t (by unfold mayN at hm; omega)
    rw [if_pos hm] at hO
    go_wp2_with (go_at_call 62; refine (may_any _ _ _).mono ?_; rintro e w1 ⟨rfl, hb⟩; have hB : Below w.heap.size w w1 := bup (pW_bel _ _ _ _ _) hb; have p0 := (pW_own0 w s _ _ _).keep hb; have d0 := p0.cell; have g0 := p0.fro; have m0 := p0.lt; have p1 := (pW_own1 w s _ _ _).keep hb; have d1 := p1.cell; have g1 := p1.fro)
    all_goals exact bodyPost_ret (v := .tuple #[.agg #[.int .i64 r, .int .i64 c], .bool true]) (by simp [results, Tryz.results172, go_sem, d0, g0]) rfl ⟨by rw [(pS hO.symm).1, (pS hO.symm).2.1, (pS hO.symm).2.2], zq2⟩
   ·have q : mayC (r : Int) (c : Int) = false := mayC_f (by unfold mayN at hm; omega)
    rw [if_neg hm] at hO
    go_wp2_with (go_at_call 62; refine (may_any _ _ _).mono ?_; rintro e w1 ⟨rfl, hb⟩; have hB : Below w.heap.size w w1 := bup (pW_bel _ _ _ _ _) hb; have p0 := (pW_own0 w s _ _ _).keep hb; have d0 := p0.cell; have g0 := p0.fro; have m0 := p0.lt; have p1 := (pW_own1 w s _ _ _).keep hb; have d1 := p1.cell; have g1 := p1.fro)
    all_goals exact bodyPost_ret (v := .tuple #[.agg #[.int .i64 0, .int .i64 0], .bool false]) (by simp [results, Tryz.results172, go_sem, d0, g0]) rfl ⟨by rw [(pN hO.symm).1, (pN hO.symm).2.1, (pN hO.symm).2.2], zq2⟩
end Go.Proofs.YtcmjhjnpcogmgaaGreatDoor
