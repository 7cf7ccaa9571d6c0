/- Contracts of dec.May and of the document's May: of every int64 whether it may be. No condition but that the argument is an int64. · Contracts of Num, Txt, Truth, Err, May (of package value and of the document's answer): of every argument the same value; new memory alone is made. No condition but that the integers are int64. · The names of the codes: what the row's list of tables gives to the walks; the contracts of Name (of package value and of the document's answer): of every code the same name. The condition: the program's own table of names lies as its initialiser lays it. -/
import Derived.Test.YtaamphdihmghhaaGreatDoorRows
import Derived.WalkKit
import Derived.WalkSpells
import Derived.Outline
import Derived.Laws.StructEq
import Derived.Laws.NewBlocks
import Derived.Deep.RegionWith
import Derived.Lib.LaidTab
import Derived.Lib.SmallJoins
import Derived.WalkSmall
namespace Go.Proofs.YtaamphdihmghhaaGreatDoor.Vv
open Go.RowKit
set_option linter.all false

/-- An int64. -/
def I64 (x : Int) : Prop := -9223372036854775808 ≤ x ∧ x ≤ 9223372036854775807
theorem wrapU (n : Int) : IntKind.u64.wrap n = n % 18446744073709551616 := by simp [IntKind.wrap, IntKind.bits, IntKind.signed]
theorem ret2 {k k' : IntKind} {a b c d : Int} (h : a = b) (h' : c = d) : Ending.returned (.tuple #[.int k a, .int k' c]) = .returned (.tuple #[.int k b, .int k' d]) := by rw [h, h']
theorem ret1 {k : IntKind} {a b : Int} (h : a = b) : Ending.returned (.int k a) = .returned (.int k b) := by rw [h]
def mayOk (x : Int) : Bool := decide (x ≠ -9223372036854775808)
theorem mayOk_t {x : Int} (h : -9223372036854775807 ≤ x) : mayOk x = true := by simp [mayOk]; omega
theorem mayOk_f {x : Int} (h : x = -9223372036854775808) : mayOk x = false := by simp [mayOk, h]
end Go.Proofs.YtaamphdihmghhaaGreatDoor.Vv
namespace Go.Proofs.YtaamphdihmghhaaGreatDoor.Vv
open Go.RowKit
set_option linter.all false
theorem bcell {W w1 : World} (hb : Below W.heap.size W w1) : (∀ b o, b < W.heap.size → w1.cell? ⟨b, o, none⟩ = W.cell? ⟨b, o, none⟩) := fun b o h => hb.cell (p := ⟨b, o, none⟩) h
theorem bal (w : World) (o : Obj) : Below w.heap.size w (w.alloc o) := (Below.refl _ _).alloc (Nat.le_refl _) _
theorem bup {w W w1 : World} (h : Below w.heap.size w W) (hb : Below W.heap.size W w1) : Below w.heap.size w w1 := h.trans (hb.mono h.size)
/-- Whether two values are the same in all fields. -/
def sameB (t n : Int) (s : ByteArray) (b : Bool) (c : Int) (t' n' : Int) (s' : ByteArray) (b' : Bool) (c' : Int) : Bool := decide (t = t' ∧ n = n' ∧ s = s' ∧ b = b' ∧ c = c')
theorem toList_inj {s s' : ByteArray} (h : s.toList = s'.toList) : s = s' := by
  rw [ByteArray.toList_eq, ByteArray.toList_eq] at h
  obtain ⟨⟨x⟩⟩ := s
  obtain ⟨⟨y⟩⟩ := s'
  simp at h
  rw [h]
/-- A value that may be. -/
def mayB (t n : Int) (s : ByteArray) (b : Bool) (c : Int) : Bool := decide ((t ≠ 1 → n = 0) ∧ (t ≠ 2 → s = ⟨#[]⟩) ∧ (t ≠ 3 → b = false) ∧ (t ≠ 4 → c = 0) ∧ 0 ≤ t ∧ t ≤ 4 ∧ (t = 1 → n ≠ (-9223372036854775808)) ∧ (t = 4 → 1 ≤ c ∧ c ≤ 8))
/-- The code of a Fault that is asked for with a code. -/
def errC (c : Int) : Int := if 1 ≤ c ∧ c ≤ 8 then c else 8
theorem errC_ok {c : Int} (h1 : 1 ≤ c) (h2 : c ≤ 8) : errC c = c := if_pos ⟨h1, h2⟩
theorem errC_no {c : Int} (h : c < 1 ∨ 8 < c) : errC c = 8 := if_neg (by omega)
end Go.Proofs.YtaamphdihmghhaaGreatDoor.Vv
namespace Go.Proofs.YtaamphdihmghhaaGreatDoor.Vv
open Go.RowKit
set_option linter.all false
/-- An array of strings that reads as a list of texts holds these texts, cell for cell. -/
theorem cells_of_strs {H : Type} {enc : TypeId × Value → H} {P : Program} {w : World} {base : Nat} {sp : Nat → Bool} {held : Bool} {fuel : Nat} {t e : TypeId} {n : Nat} {cs : List Value} {zs : List (List UInt8)} {p : List MemPlace}
    (ht : P.underlying t = some (.array n e)) (he : P.underlying e = some .string) (hce : P.cellsOf e = 1) (hct : P.cellsOf t = n)
    (h : DataW.trod enc P w base sp held fuel t cs = some (.agg (zs.map fun z => .lit (.string z)), p)) : cs = zs.map fun z => Value.string ⟨z.toArray⟩ := by
  cases fuel with
  | zero => simp [DataW.trod] at h
  | succ fuel =>
    simp only [DataW.trod, ht, hce, hct, Nat.mul_one] at h
    split at h
    · rename_i hl
      obtain ⟨xs, hm, hx⟩ := Option.map_eq_some_iff.1 h
      have hxs : xs.map (·.1) = zs.map fun z => (DataW.lit (.string z) : DataW H) := by
        have := congrArg Prod.fst hx
        simpa using this
      have hxl : xs.length = n := by simpa using Lib.mapM_length hm
      have hzl : zs.length = n := by
        have := congrArg List.length hxs
        simp at this
        omega
      apply List.ext_getElem?
      intro i
      by_cases hi : i < n
      · obtain ⟨y, hy, hf⟩ := Lib.mapM_at hm i i (by simp [hi])
        obtain ⟨z, hc, rfl, _⟩ := DataW.trod_string he hf
        have h1 : cs[i]? = some (.string z) := by
          have := congrArg (·[0]?) hc
          simpa [List.getElem?_take, List.getElem?_drop] using this
        have h2 : (xs.map (·.1))[i]? = some (DataW.lit (.string z.data.toList) : DataW H) := by simp [hy]
        rw [hxs] at h2
        simp only [List.getElem?_map, Option.map_eq_some_iff, DataW.lit.injEq, Lit.string.injEq] at h2
        obtain ⟨z', hz', hz2⟩ := h2
        rw [h1, List.getElem?_map, hz', hz2]
        rfl
      · rw [List.getElem?_eq_none (by omega), List.getElem?_eq_none (by simp; omega)]
    · cases h
def namesL : List (List UInt8) := [[], [35, 67, 89, 67, 76, 69, 33], [35, 78, 85, 77, 33], [35, 68, 73, 86, 33], [35, 84, 89, 80, 69, 33], [35, 82, 65, 78, 71, 69, 33], [35, 77, 73, 83, 83, 33], [35, 76, 79, 78, 71, 33], [35, 65, 82, 71, 33]]
theorem gNam : Tryz.prog.globalNamed "oriel/value.names" = some 1 := by kernel_rfl
theorem gNamType : (Tryz.prog.globals[1]?).map (·.type) = some 101 := by kernel_rfl
theorem cellsNam : Tryz.prog.cellsOf 101 = 9 := by kernel_rfl
theorem cellsStr : Tryz.prog.cellsOf 9 = 1 := by kernel_rfl
/-- The program's table of names lies as it is laid. -/
abbrev Nam (w : World) : Prop := w.var? Tryz.prog "oriel/value.names" = some (namesL.map fun z => Value.string ⟨z.toArray⟩).toArray
theorem Nam.stays {w w' : World} (h : Nam w) (hb : Below w.heap.size w w') : Nam w' := by
  refine var?_below hb gNam ?_ h
  have h0 := World.var?_cell gNam h 0
  apply Nat.lt_of_not_le
  intro hge
  have hn : w.cell? ⟨1, 0, none⟩ = none := by
    simp [World.cell?, World.cells?, Array.getElem?_eq_none hge]
  rw [hn] at h0
  simp [namesL] at h0
theorem nam_of_head {W : World} {rest : List (String × DataW Unit)} (h : laidMet Tryz.prog (("oriel/value.names", .agg (namesL.map fun z => .lit (.string z))) :: rest) W) : Nam W := by
  obtain ⟨ps, ⟨g', t', cs, fuel, p, q, hg', ht', hvar, hd, _, _⟩, _⟩ := h
  obtain rfl := Option.some.inj (gNam.symm.trans hg')
  obtain rfl := Option.some.inj (gNamType.symm.trans ht')
  unfold Nam
  rw [hvar, ← cells_of_strs Tryz.underlying101 Tryz.underlying9 cellsStr cellsNam hd]
/-- A code's name. -/
def nameB (c : Int) : ByteArray := if c = 1 then ⟨#[35, 67, 89, 67, 76, 69, 33]⟩ else if c = 2 then ⟨#[35, 78, 85, 77, 33]⟩ else if c = 3 then ⟨#[35, 68, 73, 86, 33]⟩ else if c = 4 then ⟨#[35, 84, 89, 80, 69, 33]⟩ else if c = 5 then ⟨#[35, 82, 65, 78, 71, 69, 33]⟩ else if c = 6 then ⟨#[35, 77, 73, 83, 83, 33]⟩ else if c = 7 then ⟨#[35, 76, 79, 78, 71, 33]⟩ else if c = 8 then ⟨#[35, 65, 82, 71, 33]⟩ else ⟨#[]⟩
theorem Nam.cell {w : World} (h : Nam w) (i : Nat) : w.cell? ⟨1, i, none⟩ = (namesL.map fun z => Value.string ⟨z.toArray⟩)[i]? := by
  have := World.var?_cell gNam h i
  simpa using this
theorem name1 (w : World) (h : Nam w) : Calls Tryz.prog 75 #[.int .i64 1] w fun e w' => e = .returned (.string ⟨#[35, 67, 89, 67, 76, 69, 33]⟩) ∧ w' = w := by
  have hc : w.cell? ⟨1, 1, none⟩ = some (.string ⟨#[35, 67, 89, 67, 76, 69, 33]⟩) := h.cell 1
  go_enter Tryz.func75, Tryz.ntmps75
  go_wp2
  go_ret
  exact ⟨rfl, rfl⟩
theorem name2 (w : World) (h : Nam w) : Calls Tryz.prog 75 #[.int .i64 2] w fun e w' => e = .returned (.string ⟨#[35, 78, 85, 77, 33]⟩) ∧ w' = w := by
  have hc : w.cell? ⟨1, 2, none⟩ = some (.string ⟨#[35, 78, 85, 77, 33]⟩) := h.cell 2
  go_enter Tryz.func75, Tryz.ntmps75
  go_wp2
  go_ret
  exact ⟨rfl, rfl⟩
theorem name3 (w : World) (h : Nam w) : Calls Tryz.prog 75 #[.int .i64 3] w fun e w' => e = .returned (.string ⟨#[35, 68, 73, 86, 33]⟩) ∧ w' = w := by
  have hc : w.cell? ⟨1, 3, none⟩ = some (.string ⟨#[35, 68, 73, 86, 33]⟩) := h.cell 3
  go_enter Tryz.func75, Tryz.ntmps75
  go_wp2
  go_ret
  exact ⟨rfl, rfl⟩
theorem name4 (w : World) (h : Nam w) : Calls Tryz.prog 75 #[.int .i64 4] w fun e w' => e = .returned (.string ⟨#[35, 84, 89, 80, 69, 33]⟩) ∧ w' = w := by
  have hc : w.cell? ⟨1, 4, none⟩ = some (.string ⟨#[35, 84, 89, 80, 69, 33]⟩) := h.cell 4
  go_enter Tryz.func75, Tryz.ntmps75
  go_wp2
  go_ret
  exact ⟨rfl, rfl⟩
theorem name5 (w : World) (h : Nam w) : Calls Tryz.prog 75 #[.int .i64 5] w fun e w' => e = .returned (.string ⟨#[35, 82, 65, 78, 71, 69, 33]⟩) ∧ w' = w := by
  have hc : w.cell? ⟨1, 5, none⟩ = some (.string ⟨#[35, 82, 65, 78, 71, 69, 33]⟩) := h.cell 5
  go_enter Tryz.func75, Tryz.ntmps75
  go_wp2
  go_ret
  exact ⟨rfl, rfl⟩
theorem name6 (w : World) (h : Nam w) : Calls Tryz.prog 75 #[.int .i64 6] w fun e w' => e = .returned (.string ⟨#[35, 77, 73, 83, 83, 33]⟩) ∧ w' = w := by
  have hc : w.cell? ⟨1, 6, none⟩ = some (.string ⟨#[35, 77, 73, 83, 83, 33]⟩) := h.cell 6
  go_enter Tryz.func75, Tryz.ntmps75
  go_wp2
  go_ret
  exact ⟨rfl, rfl⟩
theorem name7 (w : World) (h : Nam w) : Calls Tryz.prog 75 #[.int .i64 7] w fun e w' => e = .returned (.string ⟨#[35, 76, 79, 78, 71, 33]⟩) ∧ w' = w := by
  have hc : w.cell? ⟨1, 7, none⟩ = some (.string ⟨#[35, 76, 79, 78, 71, 33]⟩) := h.cell 7
  go_enter Tryz.func75, Tryz.ntmps75
  go_wp2
  go_ret
  exact ⟨rfl, rfl⟩
theorem name8 (w : World) (h : Nam w) : Calls Tryz.prog 75 #[.int .i64 8] w fun e w' => e = .returned (.string ⟨#[35, 65, 82, 71, 33]⟩) ∧ w' = w := by
  have hc : w.cell? ⟨1, 8, none⟩ = some (.string ⟨#[35, 65, 82, 71, 33]⟩) := h.cell 8
  go_enter Tryz.func75, Tryz.ntmps75
  go_wp2
  go_ret
  exact ⟨rfl, rfl⟩
end Go.Proofs.YtaamphdihmghhaaGreatDoor.Vv
