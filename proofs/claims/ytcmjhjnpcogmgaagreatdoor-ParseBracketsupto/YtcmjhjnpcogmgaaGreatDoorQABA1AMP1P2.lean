/- What the laws of this seat share: numbers, blocks of the caller's own, cells and rectangles as they come in and read afterwards, equality of cells and rectangles. No function's text is walked here. · The contracts of May (of package addr and of the document's answer): of every cell whether it may be. New memory alone is made. No condition. · Plain facts on names of cells: the letters of a column, the digits of a row, and a reader that goes from sign to sign; what it reads is just what a name names. No program in this text. · The contracts of isLetter, isDigit and Parse of package addr: of every text the cell whose name it is, and whether it is one. New memory alone is made. The condition: the text is no longer than a text may be. · The contract of Parse of package addr: of every text the cell whose name it is, and whether it is one. New memory alone is made. No condition. -/
import Derived.Test.YtcmjhjnpcogmgaaGreatDoorRows
import Derived.WalkKit
import Derived.WalkSpells
import Derived.Outline
import Derived.Laws.StructEq
import Derived.Laws.NewBlocks
import Derived.Deep.RegionWith
import Derived.Deep.RegionHeld3
import Derived.ProofKit
import Derived.OpenShut
import Derived.ShutString
import Derived.Deep.QuietTactic
import Derived.BigQuiet
import Derived.Lib.ItoaNum
import Derived.Laws.RangeAny
import Derived.Laws.Cover1
import Derived.LoopTactic
namespace Go.Proofs.YtcmjhjnpcogmgaaGreatDoor
open Go.RowKit Go.ChangeShapes Go.WideShapes Go.ChangeAt
set_option linter.all false
/-- An int64. -/
def I64 (x : Int) : Prop := -9223372036854775808 ≤ x ∧ x ≤ 9223372036854775807
theorem retB {a b : Bool} (h : a = b) : Ending.returned (.bool a) = .returned (.bool b) := by rw [h]
theorem ret1 {k : IntKind} {a b : Int} (h : a = b) : Ending.returned (.int k a) = .returned (.int k b) := by rw [h]
theorem bal (w : World) (o : Obj) : Below w.heap.size w (w.alloc o) := (Below.refl _ _).alloc (Nat.le_refl _) _
theorem bup {w W w1 : World} (h : Below w.heap.size w W) (hb : Below W.heap.size W w1) : Below w.heap.size w w1 := h.trans (hb.mono h.size)
/-- The block holds these cells, and none of them is frozen. -/
structure Own (w : World) (blk : Nat) (A : Array Value) : Prop where
  lt : blk < w.heap.size
  cell : ∀ o, w.cell? ⟨blk, o, none⟩ = A[o]?
  fro : ∀ o, w.frozen? ⟨blk, o, none⟩ = false
theorem Own.keep {W w1 : World} {blk : Nat} {A : Array Value} (h : Own W blk A) (hb : Below W.heap.size W w1) : Own w1 blk A :=
  ⟨Nat.lt_of_lt_of_le h.lt hb.size, fun o => (hb.cell (p := ⟨blk, o, none⟩) h.lt).trans (h.cell o), fun o => (hb.frozen (p := ⟨blk, o, none⟩) h.lt).trans (h.fro o)⟩
theorem Own.new (w : World) (A : Array Value) (T : TypeId) : Own (w.alloc (.cells A T)) w.heap.size A :=
  ⟨by simp, fun o => World.cell?_alloc_new w A T o, fun o => World.frozen?_alloc_new w A T o⟩
theorem Own.past {w : World} {blk : Nat} {A : Array Value} (h : Own w blk A) (x : Obj) : Own (w.alloc x) blk A := h.keep (bal w x)
theorem Own.drew {w : World} {blk : Nat} {A : Array Value} (h : Own w blk A) : Own w.drew blk A := h.keep (Below.refl _ _).drew
theorem Own.at {w : World} {A : Array Value} {T : TypeId} {n : Nat} (h : n = w.heap.size) : Own (w.alloc (.cells A T)) n A := by subst h; exact Own.new _ _ _
theorem Own.size {w : World} {blk : Nat} {A : Array Value} (h : Own w blk A) : blk < w.heap.size := h.lt
def sameR (a b c d a' b' c' d' : Int) : Bool := decide (a = a' ∧ b = b' ∧ c = c' ∧ d = d')
theorem neR (a b c d a' b' c' d' : Int) (w : World) : (binOp .neq 40 (.agg #[.int .i64 a, .int .i64 b, .int .i64 c, .int .i64 d]) (.agg #[.int .i64 a', .int .i64 b', .int .i64 c', .int .i64 d'])).run Tryz.prog w = .ok (.bool (!sameR a b c d a' b' c' d')) w := by
  rw [run_neq_struct, run_equalIn_agg w 9999 40 _ _ (by kernel_rfl) (by kernel_rfl)]
  unfold sameR
  go_simp
  by_cases h1 : a = a'
  · by_cases h2 : b = b'
    · by_cases h3 : c = c' <;> by_cases h4 : d = d' <;> simp [h1, h2, h3, h4]
    · simp [h1, h2]
  · simp [h1]
theorem own : ownKnob Tryz.prog.godebug = none := by kernel_rfl
end Go.Proofs.YtcmjhjnpcogmgaaGreatDoor
namespace Go.Proofs.YtcmjhjnpcogmgaaGreatDoor
open Go.RowKit
set_option linter.all false
theorem bdrewN {B : Nat} {a w : World} (h : Below B a w) (n : Nat) : Below B a (w.drewN n) := ⟨h.os, h.tape, h.output, h.size, h.block⟩
/-- A cell that may be. -/
def mayC (r c : Int) : Bool := decide (1 ≤ r ∧ r ≤ 4096 ∧ 1 ≤ c ∧ c ≤ 256)
theorem mayC_t {r c : Int} (h : 1 ≤ r ∧ r ≤ 4096 ∧ 1 ≤ c ∧ c ≤ 256) : mayC r c = true := by simpa [mayC] using h
theorem mayC_f {r c : Int} (h : ¬ (1 ≤ r ∧ r ≤ 4096 ∧ 1 ≤ c ∧ c ≤ 256)) : mayC r c = false := by simpa [mayC] using h
theorem mayC_is {r c : Int} (h : mayC r c = true) : 1 ≤ r ∧ r ≤ 4096 ∧ 1 ≤ c ∧ c ≤ 256 := by simpa [mayC] using h
theorem may_any (r c : Int) (w : World) : Calls Tryz.prog 62 #[.agg #[.int .i64 r, .int .i64 c]] w fun e w' => e = .returned (.bool (mayC r c)) ∧ Below w.heap.size w w' := by
  go_enter Tryz.func62, Tryz.ntmps62
  go_wp2
  all_goals go_ret
  all_goals refine ⟨retB ?_, bal _ _⟩
  all_goals first | (rw [mayC_t (by omega)]; done) | (rw [mayC_f (by omega)]; done) | (rw [Bool.eq_iff_iff]; simp only [mayC, decide_eq_true_eq]; omega)
end Go.Proofs.YtcmjhjnpcogmgaaGreatDoor
namespace Go.Proofs.YtcmjhjnpcogmgaaGreatDoor
open Go.Lib
set_option linter.all false
/-- A row and a column that may be. -/
abbrev mayN (r c : Nat) : Prop := 1 ≤ r ∧ r ≤ 4096 ∧ 1 ≤ c ∧ c ≤ 256
/-- From sign to sign, with the column and the row that were read so far. -/
def pst : List UInt8 → Nat → Nat → Option (Nat × Nat)
  | [], c, r => if mayN r c then some (r, c) else none
  | x :: l, c, r =>
    if 65 ≤ x.toNat ∧ x.toNat ≤ 90 ∧ r = 0 then (if c * 26 + (x.toNat - 64) ≤ 256 then pst l (c * 26 + (x.toNat - 64)) r else none)
    else if 48 ≤ x.toNat ∧ x.toNat ≤ 57 ∧ ¬ (r = 0 ∧ x.toNat = 48) then (if r * 10 + (x.toNat - 48) ≤ 4096 then pst l c (r * 10 + (x.toNat - 48)) else none)
    else none
theorem pst_nil (c r : Nat) : pst [] c r = if mayN r c then some (r, c) else none := rfl
theorem pst_let (x : UInt8) (l : List UInt8) (c : Nat) (h1 : 65 ≤ x.toNat) (h2 : x.toNat ≤ 90) (h3 : c * 26 + (x.toNat - 64) ≤ 256) : pst (x :: l) c 0 = pst l (c * 26 + (x.toNat - 64)) 0 := by
  rw [pst, if_pos ⟨h1, h2, rfl⟩, if_pos h3]
theorem pst_let_no (x : UInt8) (l : List UInt8) (c : Nat) (h1 : 65 ≤ x.toNat) (h2 : x.toNat ≤ 90) (h3 : 256 < c * 26 + (x.toNat - 64)) : pst (x :: l) c 0 = none := by
  rw [pst, if_pos ⟨h1, h2, rfl⟩, if_neg (by omega)]
theorem pst_dig (x : UInt8) (l : List UInt8) (c r : Nat) (h1 : 48 ≤ x.toNat) (h2 : x.toNat ≤ 57) (h : r ≠ 0 ∨ x.toNat ≠ 48) (h3 : r * 10 + (x.toNat - 48) ≤ 4096) : pst (x :: l) c r = pst l c (r * 10 + (x.toNat - 48)) := by
  rw [pst, if_neg (by omega), if_pos (by omega), if_pos h3]
theorem pst_dig_no (x : UInt8) (l : List UInt8) (c r : Nat) (h1 : 48 ≤ x.toNat) (h2 : x.toNat ≤ 57) (h3 : 4096 < r * 10 + (x.toNat - 48)) : pst (x :: l) c r = none := by
  rw [pst, if_neg (by omega)]
  split
  · rw [if_neg (by omega)]
  · rfl
theorem pst_bad (x : UInt8) (l : List UInt8) (c r : Nat) (h1 : x.toNat < 65 ∨ 90 < x.toNat ∨ r ≠ 0) (h2 : x.toNat < 48 ∨ 57 < x.toNat ∨ (r = 0 ∧ x.toNat = 48)) : pst (x :: l) c r = none := by
  rw [pst, if_neg (by omega), if_neg (by omega)]
end Go.Proofs.YtcmjhjnpcogmgaaGreatDoor
namespace Go.Proofs.YtcmjhjnpcogmgaaGreatDoor
open Go.RowKit
set_option linter.all false
/-- What is read out of a text: whether it is a name, the row, the column. -/
def pO (s : ByteArray) : Option (Nat × Nat) := pst s.data.toList 0 0
def pB (s : ByteArray) : Bool := (pO s).isSome
def pR (s : ByteArray) : Int := match pO s with | some (r, _) => r | none => 0
def pC (s : ByteArray) : Int := match pO s with | some (_, c) => c | none => 0
def ltB (n : Int) : Bool := decide (65 ≤ n ∧ n ≤ 90)
def dgB (n : Int) (b : Bool) : Bool := decide (48 ≤ n ∧ n ≤ 57 ∧ ¬ (b = true ∧ n = 48))
theorem ltB_t {n : Int} (h : 65 ≤ n ∧ n ≤ 90) : ltB n = true := by simpa [ltB] using h
theorem ltB_f {n : Int} (h : ¬ (65 ≤ n ∧ n ≤ 90)) : ltB n = false := by simpa [ltB] using h
def dg2 (n : Int) : Bool := decide (48 ≤ n ∧ n ≤ 57)
theorem dg2_t {n : Int} (h : 48 ≤ n ∧ n ≤ 57) : dg2 n = true := by simpa [dg2] using h
theorem dg2_f {n : Int} (h : ¬ (48 ≤ n ∧ n ≤ 57)) : dg2 n = false := by simpa [dg2] using h
theorem dgB_ne {n : Int} (b : Bool) (h : ¬ n = 48) : dgB n b = dg2 n := by
  unfold dgB dg2
  rw [Bool.eq_iff_iff]
  simp only [decide_eq_true_eq]
  constructor
  · rintro ⟨a, b, _⟩; exact ⟨a, b⟩
  · rintro ⟨a, b⟩; exact ⟨a, b, fun k => h k.2⟩
theorem dgB_t {n : Int} {b : Bool} (h : 48 ≤ n ∧ n ≤ 57 ∧ ¬ (b = true ∧ n = 48)) : dgB n b = true := by simp only [dgB, decide_eq_true_eq]; exact h
theorem dgB_f {n : Int} {b : Bool} (h : ¬ (48 ≤ n ∧ n ≤ 57 ∧ ¬ (b = true ∧ n = 48))) : dgB n b = false := by simp only [dgB, decide_eq_false_iff_not]; exact h
theorem letter_any (n : Int) (w : World) : Calls Tryz.prog 189 #[.int .i32 n] w fun e w' => e = .returned (.bool (ltB n)) ∧ w' = w := by
  go_enter Tryz.func189, Tryz.ntmps189
  go_wp2
  all_goals go_ret
  all_goals refine ⟨retB ?_, rfl⟩
  all_goals first | (rw [ltB_t (by omega)]; done) | (rw [ltB_f (by omega)]; done) | (rw [Bool.eq_iff_iff]; simp only [ltB, decide_eq_true_eq]; omega)
theorem digit_any (n : Int) (b : Bool) (w : World) : Calls Tryz.prog 190 #[.int .i32 n, .bool b] w fun e w' => e = .returned (.bool (dgB n b)) ∧ w' = w := by
  by_cases h : (n == 48) = true
  · have h' : n = 48 := by simpa using h
    subst h'
    clear h
    cases b
    all_goals
      go_enter Tryz.func190, Tryz.ntmps190
      go_wp2
      all_goals go_ret
      all_goals exact ⟨retB (by decide), rfl⟩
  · have h' : ¬ n = 48 := by simpa using h
    have h2 : (n == 48) = false := by simpa using h
    clear h
    rw [dgB_ne b h']
    cases b
    all_goals
      go_enter Tryz.func190, Tryz.ntmps190
      go_wp2
      all_goals go_ret
      all_goals refine ⟨retB ?_, rfl⟩
      all_goals first | (rw [dg2_t (by omega)]; done) | (rw [dg2_f (by omega)]; done) | (rw [Bool.eq_iff_iff]; simp only [dg2, decide_eq_true_eq]; omega)
end Go.Proofs.YtcmjhjnpcogmgaaGreatDoor
namespace Go.Proofs.YtcmjhjnpcogmgaaGreatDoor
open Go.RowKit
set_option linter.all false
theorem pN {s : ByteArray} (h : pO s = none) : pR s = 0 ∧ pC s = 0 ∧ pB s = false := by simp [pR, pC, pB, h]
theorem pS {s : ByteArray} {r c : Nat} (h : pO s = some (r, c)) : pR s = r ∧ pC s = c ∧ pB s = true := by simp [pR, pC, pB, h]
/-- The world of a round: the result's cell, the cell that is read so far, the place in the text. -/
def pW (w : World) (s : ByteArray) (r c : Int) (pos : Nat) : World := ((w.alloc (.cells #[.int .i64 0, .int .i64 0] 38)).alloc (.cells #[.int .i64 r, .int .i64 c] 38)).iter s pos
theorem pW_own0 (w : World) (s : ByteArray) (r c : Int) (pos : Nat) : Own (pW w s r c pos) w.heap.size #[.int .i64 0, .int .i64 0] := by
  unfold pW World.iter
  exact ((Own.new _ _ _).past _).past _
theorem pW_own1 (w : World) (s : ByteArray) (r c : Int) (pos : Nat) : Own (pW w s r c pos) (w.heap.size + 1) #[.int .i64 r, .int .i64 c] := by
  unfold pW World.iter
  exact (Own.at (by simp)).past _
theorem pW_bel (w : World) (s : ByteArray) (r c : Int) (pos : Nat) : Below w.heap.size w (pW w s r c pos) := by
  unfold pW World.iter
  exact ((bal _ _).alloc (by simp) _).alloc (by simp; omega) _
theorem pW_row (w : World) (s : ByteArray) (r c x : Int) (pos : Nat) : (pW w s r c pos).setCell ⟨w.heap.size + 1, 0, none⟩ (.int .i64 x) = pW w s x c pos := by
  unfold pW World.iter
  rw [World.setCell_alloc_past _ _ _ _ (by simp), World.setCell_alloc_at _ _ _ _ _ (by simp)]; rfl
theorem pW_col (w : World) (s : ByteArray) (r c x : Int) (pos : Nat) : (pW w s r c pos).setCell ⟨w.heap.size + 1, 1, none⟩ (.int .i64 x) = pW w s r x pos := by
  unfold pW World.iter
  rw [World.setCell_alloc_past _ _ _ _ (by simp), World.setCell_alloc_at _ _ _ _ _ (by simp)]; rfl
theorem pW_z0 (w : World) (s : ByteArray) (r c : Int) (pos : Nat) : (pW w s r c pos).setCell ⟨w.heap.size, 0, none⟩ (.int .i64 0) = pW w s r c pos := by
  unfold pW World.iter
  rw [World.setCell_alloc_past _ _ _ _ (by simp; omega), World.setCell_alloc_past _ _ _ _ (by simp), World.setCell_alloc_at _ _ _ _ _ rfl]; rfl
theorem pW_z1 (w : World) (s : ByteArray) (r c : Int) (pos : Nat) : (pW w s r c pos).setCell ⟨w.heap.size, 1, none⟩ (.int .i64 0) = pW w s r c pos := by
  unfold pW World.iter
  rw [World.setCell_alloc_past _ _ _ _ (by simp; omega), World.setCell_alloc_past _ _ _ _ (by simp), World.setCell_alloc_at _ _ _ _ _ rfl]; rfl
theorem pW_eq {w : World} {s : ByteArray} {r c r' c' : Int} {pos : Nat} (h : r = r') (h' : c = c') : pW w s r c pos = pW w s r' c' pos := by rw [h, h']
theorem pW_pos (w : World) (s : ByteArray) (r c : Int) (pos : Nat) : (pW w s r c pos).iterPos (w.heap.size + 1 + 1) = pos := by
  unfold pW
  have h := World.iterPos_iter ((w.alloc (.cells #[.int .i64 0, .int .i64 0] 38)).alloc (.cells #[.int .i64 r, .int .i64 c] 38)) s pos
  simpa using h
theorem pW_next (w : World) (s : ByteArray) (r c : Int) (pos : Nat) (ty : TypeId) (h : pos < s.size) : (Instr.next (.pointer (some ⟨w.heap.size + 1 + 1, 0, none⟩)) true ty).run Tryz.prog (pW w s r c pos) =
      .ok (.tuple #[.bool true, .int .i64 pos, .int .i32 (Utf8.decode s pos).1]) (pW w s r c (pos + (Utf8.decode s pos).2)) := by
  unfold pW
  have k := run_next_any (P := Tryz.prog) ((w.alloc (.cells #[.int .i64 0, .int .i64 0] 38)).alloc (.cells #[.int .i64 r, .int .i64 c] 38)) s pos ty h
  simpa using k
theorem pW_end (w : World) (s : ByteArray) (r c : Int) (pos : Nat) (ty : TypeId) (h : ¬ pos < s.size) : (Instr.next (.pointer (some ⟨w.heap.size + 1 + 1, 0, none⟩)) true ty).run Tryz.prog (pW w s r c pos) =
      .ok (.tuple #[.bool false]) (pW w s r c pos) := by
  unfold pW
  have k := run_next_end (P := Tryz.prog) ((w.alloc (.cells #[.int .i64 0, .int .i64 0] 38)).alloc (.cells #[.int .i64 r, .int .i64 c] 38)) s pos ty h
  simpa using k
theorem drop_at (s : ByteArray) (pos : Nat) (h : pos < s.size) : s.data.toList.drop pos = s[pos] :: s.data.toList.drop (pos + 1) := by
  rw [List.drop_eq_getElem_cons (by simpa using h)]; rfl
set_option maxHeartbeats 4000000 in
set_option maxRecDepth 100000 in
theorem parse_any (s : ByteArray) (w : World) : Calls Tryz.prog 172 #[.string s] w fun e w' => e = .returned (.tuple #[.agg #[.int .i64 (pR s), .int .i64 (pC s)], .bool (pB s)]) ∧ Below w.heap.size w w' := by
  go_enter Tryz.func172, Tryz.ntmps172
  go_wp2
  have c0 := fun (r c : Int) (pos : Nat) => (pW_own0 w s r c pos).cell
  have f0 := fun (r c : Int) (pos : Nat) => (pW_own0 w s r c pos).fro
  have c1 := fun (r c : Int) (pos : Nat) => (pW_own1 w s r c pos).cell
  have f1 := fun (r c : Int) (pos : Nat) => (pW_own1 w s r c pos).fro
  have t0 := pW_row w s
  have t1 := pW_col w s
  have t2 := pW_z0 w s
  have t3 := pW_z1 w s
  go_loopw [3] (fun n w' => ∃ pos c r : Nat, w' = pW w s r c pos ∧ n = .bool false ∧ c ≤ 256 ∧ r ≤ 4096 ∧ pst (s.data.toList.drop pos) c r = pO s) (fun _ w' => s.size - w'.iterPos (w.heap.size + 1 + 1))
  case atStart => exact ⟨0, 0, 0, rfl, rfl, by omega, by omega, rfl⟩
  case round =>
    obtain ⟨pos, c, r, rfl, rfl, hc, hr, hO⟩ := hrel
    by_cases hp : pos < s.size
    · have hnx := fun (r c : Int) ty => pW_next w s r c pos ty hp
      have hd := drop_at s pos hp
      rw [hd] at hO
      by_cases ha : (s[pos]'hp).toNat < 128
      · rw [decode_ascii s pos hp ha] at hnx
        generalize s[pos]'hp = x at hO hnx ha hd
        clear hd
        by_cases hl : 65 ≤ x.toNat ∧ x.toNat ≤ 90
        · have q1 : ltB (x.toNat : Int) = true := ltB_t (by omega)
          by_cases hr0 : r = 0
          · subst hr0
            by_cases hk : c * 26 + (x.toNat - 64) ≤ 256
            · rw [pst_let x _ c hl.1 hl.2 hk] at hO
              have hk' : (c : Int) * 26 + ((x.toNat : Int) - 65) + 1 ≤ 256 := by omega
              go_wp2_with (first | (go_at_call 189; refine (letter_any _ _).mono ?_; rintro e w5 ⟨rfl, rfl⟩) | (go_at_call 190; refine (digit_any _ _ _).mono ?_; rintro e w5 ⟨rfl, rfl⟩))
              refine ⟨⟨pos + 1, c * 26 + (x.toNat - 64), 0, pW_eq (by omega) (by omega), rfl, by omega, by omega, hO⟩, by rw [pW_pos, pW_pos]; omega⟩
            · rw [pst_let_no x _ c hl.1 hl.2 (by omega)] at hO
              have hk' : 256 < (c : Int) * 26 + ((x.toNat : Int) - 65) + 1 := by omega
              go_wp2_with (first | (go_at_call 189; refine (letter_any _ _).mono ?_; rintro e w5 ⟨rfl, rfl⟩) | (go_at_call 190; refine (digit_any _ _ _).mono ?_; rintro e w5 ⟨rfl, rfl⟩))
              all_goals exact bodyPost_ret (v := .tuple #[.agg #[.int .i64 0, .int .i64 0], .bool false]) (by simp [results, Tryz.results172, go_sem, c0, f0]) rfl ⟨by rw [(pN hO.symm).1, (pN hO.symm).2.1, (pN hO.symm).2.2], pW_bel _ _ _ _ _⟩
          · have hr1 : ((r : Int) == 0) = false := by simp; omega
            have q2 : dgB (x.toNat : Int) false = false := dgB_f (by omega)
            rw [pst_bad x _ c r (by omega) (by omega)] at hO
            go_wp2_with (first | (go_at_call 189; refine (letter_any _ _).mono ?_; rintro e w5 ⟨rfl, rfl⟩) | (go_at_call 190; refine (digit_any _ _ _).mono ?_; rintro e w5 ⟨rfl, rfl⟩))
            all_goals exact bodyPost_ret (v := .tuple #[.agg #[.int .i64 0, .int .i64 0], .bool false]) (by simp [results, Tryz.results172, go_sem, c0, f0]) rfl ⟨by rw [(pN hO.symm).1, (pN hO.symm).2.1, (pN hO.symm).2.2], pW_bel _ _ _ _ _⟩
        · have q1 : ltB (x.toNat : Int) = false := ltB_f (by omega)
          by_cases hg : 48 ≤ x.toNat ∧ x.toNat ≤ 57 ∧ ¬ (r = 0 ∧ x.toNat = 48)
          · by_cases hk : r * 10 + (x.toNat - 48) ≤ 4096
            · rw [pst_dig x _ c r hg.1 hg.2.1 (by omega) hk] at hO
              by_cases hr0 : r = 0
              · subst hr0
                have q2 : dgB (x.toNat : Int) true = true := dgB_t ⟨by omega, by omega, fun k => by omega⟩
                go_wp2_with (first | (go_at_call 189; refine (letter_any _ _).mono ?_; rintro e w5 ⟨rfl, rfl⟩) | (go_at_call 190; refine (digit_any _ _ _).mono ?_; rintro e w5 ⟨rfl, rfl⟩))
                refine ⟨⟨pos + 1, c, 0 * 10 + (x.toNat - 48), pW_eq (by omega) (by omega), rfl, by omega, by omega, hO⟩, by rw [pW_pos, pW_pos]; omega⟩
              · have hr1 : ((r : Int) == 0) = false := by simp; omega
                have q2 : dgB (x.toNat : Int) false = true := dgB_t ⟨by omega, by omega, fun k => by simp at k⟩
                have hk' : (r : Int) * 10 + ((x.toNat : Int) - 48) ≤ 4096 := by omega
                have hc' : (c : Int) ≤ 256 := by omega
                go_wp2_with (first | (go_at_call 189; refine (letter_any _ _).mono ?_; rintro e w5 ⟨rfl, rfl⟩) | (go_at_call 190; refine (digit_any _ _ _).mono ?_; rintro e w5 ⟨rfl, rfl⟩))
                refine ⟨⟨pos + 1, c, r * 10 + (x.toNat - 48), pW_eq (by omega) (by omega), rfl, by omega, by omega, hO⟩, by rw [pW_pos, pW_pos]; omega⟩
            · rw [pst_dig_no x _ c r hg.1 hg.2.1 (by omega)] at hO
              have hr1 : ((r : Int) == 0) = false := by simp; omega
              have q2 : dgB (x.toNat : Int) false = true := dgB_t ⟨by omega, by omega, fun k => by simp at k⟩
              have hk' : 4096 < (r : Int) * 10 + ((x.toNat : Int) - 48) := by omega
              have hc' : (c : Int) ≤ 256 := by omega
              go_wp2_with (first | (go_at_call 189; refine (letter_any _ _).mono ?_; rintro e w5 ⟨rfl, rfl⟩) | (go_at_call 190; refine (digit_any _ _ _).mono ?_; rintro e w5 ⟨rfl, rfl⟩))
              all_goals exact bodyPost_ret (v := .tuple #[.agg #[.int .i64 0, .int .i64 0], .bool false]) (by simp [results, Tryz.results172, go_sem, c0, f0]) rfl ⟨by rw [(pN hO.symm).1, (pN hO.symm).2.1, (pN hO.symm).2.2], pW_bel _ _ _ _ _⟩
          · rw [pst_bad x _ c r (by omega) (by omega)] at hO
            by_cases hr0 : r = 0
            · subst hr0
              have q2 : dgB (x.toNat : Int) true = false := dgB_f (by intro k; obtain ⟨k1, k2, k3⟩ := k; apply hg; refine ⟨by omega, by omega, fun h => k3 ⟨rfl, by omega⟩⟩)
              go_wp2_with (first | (go_at_call 189; refine (letter_any _ _).mono ?_; rintro e w5 ⟨rfl, rfl⟩) | (go_at_call 190; refine (digit_any _ _ _).mono ?_; rintro e w5 ⟨rfl, rfl⟩))
              all_goals exact bodyPost_ret (v := .tuple #[.agg #[.int .i64 0, .int .i64 0], .bool false]) (by simp [results, Tryz.results172, go_sem, c0, f0]) rfl ⟨by rw [(pN hO.symm).1, (pN hO.symm).2.1, (pN hO.symm).2.2], pW_bel _ _ _ _ _⟩
            · have hr1 : ((r : Int) == 0) = false := by simp; omega
              have q2 : dgB (x.toNat : Int) false = false := dgB_f (by intro k; obtain ⟨k1, k2, k3⟩ := k; apply hg; refine ⟨by omega, by omega, fun h => by omega⟩)
              go_wp2_with (first | (go_at_call 189; refine (letter_any _ _).mono ?_; rintro e w5 ⟨rfl, rfl⟩) | (go_at_call 190; refine (digit_any _ _ _).mono ?_; rintro e w5 ⟨rfl, rfl⟩))
              all_goals exact bodyPost_ret (v := .tuple #[.agg #[.int .i64 0, .int .i64 0], .bool false]) (by simp [results, Tryz.results172, go_sem, c0, f0]) rfl ⟨by rw [(pN hO.symm).1, (pN hO.symm).2.1, (pN hO.symm).2.2], pW_bel _ _ _ _ _⟩
      · have hh := decode_high s pos hp (by omega)
        generalize (Utf8.decode s pos).1 = n at hnx hh
        generalize (Utf8.decode s pos).2 = m at hnx hh
        have hh' : (128 : Int) ≤ n := by omega
        have q1 : ltB (n : Int) = false := ltB_f (by omega)
        have q2 : ∀ b, dgB (n : Int) b = false := fun b => dgB_f (by omega)
        rw [pst_bad _ _ c r (by omega) (by omega)] at hO
        clear hd
        go_wp2_with (first | (go_at_call 189; refine (letter_any _ _).mono ?_; rintro e w5 ⟨rfl, rfl⟩) | (go_at_call 190; refine (digit_any _ _ _).mono ?_; rintro e w5 ⟨rfl, rfl⟩))
        all_goals exact bodyPost_ret (v := .tuple #[.agg #[.int .i64 0, .int .i64 0], .bool false]) (by simp [results, Tryz.results172, go_sem, c0, f0]) rfl ⟨by rw [(pN hO.symm).1, (pN hO.symm).2.1, (pN hO.symm).2.2], pW_bel _ _ _ _ _⟩
    · have hnx := fun (r c : Int) ty => pW_end w s r c pos ty hp
      rw [List.drop_eq_nil_of_le (by simp; omega), pst_nil] at hO
      by_cases hm : mayN r c
      · have q : mayC (r : Int) (c : Int) = true := mayC_t (by unfold mayN at hm; omega)
        rw [if_pos hm] at hO
        go_wp2_with (go_at_call 62; refine (may_any _ _ _).mono ?_; rintro e w1 ⟨rfl, hb⟩; have hB : Below w.heap.size w w1 := bup (pW_bel _ _ _ _ _) hb; have p0 := (pW_own0 w s _ _ _).keep hb; have d0 := p0.cell; have g0 := p0.fro; have m0 := p0.lt; have p1 := (pW_own1 w s _ _ _).keep hb; have d1 := p1.cell; have g1 := p1.fro)
        all_goals exact bodyPost_ret (v := .tuple #[.agg #[.int .i64 r, .int .i64 c], .bool true]) (by simp [results, Tryz.results172, go_sem, d0, g0]) rfl ⟨by rw [(pS hO.symm).1, (pS hO.symm).2.1, (pS hO.symm).2.2], by with_reducible (repeat' first | assumption | exact Below.refl _ _ | refine Below.drew ?_ | refine Below.setCell ?_ (by first | exact Nat.le_refl _ | (simp; done) | (simp; omega) | omega) _ | refine Below.alloc ?_ (by first | exact Nat.le_refl _ | (simp; done) | (simp; omega) | omega) _)⟩
      · have q : mayC (r : Int) (c : Int) = false := mayC_f (by unfold mayN at hm; omega)
        rw [if_neg hm] at hO
        go_wp2_with (go_at_call 62; refine (may_any _ _ _).mono ?_; rintro e w1 ⟨rfl, hb⟩; have hB : Below w.heap.size w w1 := bup (pW_bel _ _ _ _ _) hb; have p0 := (pW_own0 w s _ _ _).keep hb; have d0 := p0.cell; have g0 := p0.fro; have m0 := p0.lt; have p1 := (pW_own1 w s _ _ _).keep hb; have d1 := p1.cell; have g1 := p1.fro)
        all_goals exact bodyPost_ret (v := .tuple #[.agg #[.int .i64 0, .int .i64 0], .bool false]) (by simp [results, Tryz.results172, go_sem, d0, g0]) rfl ⟨by rw [(pN hO.symm).1, (pN hO.symm).2.1, (pN hO.symm).2.2], by with_reducible (repeat' first | assumption | exact Below.refl _ _ | refine Below.drew ?_ | refine Below.setCell ?_ (by first | exact Nat.le_refl _ | (simp; done) | (simp; omega) | omega) _ | refine Below.alloc ?_ (by first | exact Nat.le_refl _ | (simp; done) | (simp; omega) | omega) _)⟩
end Go.Proofs.YtcmjhjnpcogmgaaGreatDoor
