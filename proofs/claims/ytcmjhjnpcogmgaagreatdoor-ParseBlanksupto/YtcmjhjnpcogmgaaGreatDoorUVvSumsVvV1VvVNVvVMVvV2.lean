/- Contracts of dec.May and of the document's May: of every int64 whether it may be -/
import Derived.Test.YtcmjhjnpcogmgaaGreatDoorUAuto
import Derived.Test.YtcmjhjnpcogmgaaGreatDoorRows
import Derived.WalkKit
import Derived.WalkSpells
import Derived.Outline
import Derived.Laws.StructEq
import Derived.Laws.NewBlocks
import Derived.Deep.RegionWith
import Derived.Lib.LaidTab
import Derived.Lib.SmallJoins
import Derived.WalkSmall
import Derived.Lib.Walk
import Derived.Lib.ItoaMem
import Derived.Deep.Light
set_option linter.all false
set_option maxRecDepth 100000
set_option maxHeartbeats 4000000
namespace Go.Proofs.YtcmjhjnpcogmgaaGreatDoor.Vv
open Go.RowKit
def I64 (x : Int) : Prop := -9223372036854775808 ≤ x ∧ x ≤ 9223372036854775807
theorem ret1 {k : IntKind} {a b : Int} (h : a = b) : Ending.returned (.int k a) = .returned (.int k b) := by rw [h]
theorem may_t (x : Int) (w : World) (h : -9223372036854775807 ≤ x) : Calls Tryz.prog 174 #[.int .i64 x] w fun e w' => e = .returned (.bool true) ∧ w' = w := by
 have hx : (x != -9223372036854775808) = true := by simp; omega
 go_enter Tryz.func174, Tryz.ntmps174
 go_wp2
 go_ret
 exact ⟨rfl, rfl⟩
theorem may_f (x : Int) (w : World) (h : x = -9223372036854775808) : Calls Tryz.prog 174 #[.int .i64 x] w fun e w' => e = .returned (.bool false) ∧ w' = w := by
 subst h
 go_enter Tryz.func174, Tryz.ntmps174
 go_wp2
 go_ret
 exact ⟨rfl, rfl⟩
def mayOk (x : Int) : Bool := decide (x ≠ -9223372036854775808)
theorem mayOk_t {x : Int} (h : -9223372036854775807 ≤ x) : mayOk x = true := by simp [mayOk]; omega
theorem mayOk_f {x : Int} (h : x = -9223372036854775808) : mayOk x = false := by simp [mayOk, h]
theorem mayAny (x : Int) (w : World) (hx : I64 x) : Calls Tryz.prog 174 #[.int .i64 x] w fun e w' => e = .returned (.bool (mayOk x)) ∧ w' = w := by
 obtain ⟨hx1, hx2⟩ := hx
 by_cases hB : x = -9223372036854775808
 ·rw [mayOk_f hB]; exact may_f x w hB
 ·rw [mayOk_t zq17]; exact may_t x w zq17
end Go.Proofs.YtcmjhjnpcogmgaaGreatDoor.Vv
namespace Go.Proofs.YtcmjhjnpcogmgaaGreatDoor.Vv
open Go.RowKit
theorem bcell {W w1 : World} (hb : Below W.heap.size W w1) : (∀ b o, b < W.heap.size → w1.cell? ⟨b, o, none⟩ = W.cell? ⟨b, o, none⟩) := fun b o h => hb.cell (p := ⟨b, o, none⟩) h
theorem bal (w : World) (o : Obj) : Below w.heap.size w (w.alloc o) := (Below.refl _ _).alloc (Nat.le_refl _) _
theorem bup {w W w1 : World} (h : Below w.heap.size w W) (hb : Below W.heap.size W w1) : Below w.heap.size w w1 := h.trans (hb.mono h.size)
def sameB (t n : Int) (s : ByteArray) (b : Bool) (c : Int) (t' n' : Int) (s' : ByteArray) (b' : Bool) (c' : Int) : Bool := decide (t = t' ∧ n = n' ∧ s = s' ∧ b = b' ∧ c = c')
theorem toList_inj {s s' : ByteArray} (h : s.toList = s'.toList) : s = s' := by
 rw [ByteArray.toList_eq, ByteArray.toList_eq] at h
 obtain ⟨⟨x⟩⟩ := s
 obtain ⟨⟨y⟩⟩ := s'
 simp at h
 rw [h]
theorem eqv (t n : Int) (s : ByteArray) (b : Bool) (c : Int) (t' n' : Int) (s' : ByteArray) (b' : Bool) (c' : Int) (w : World) : (binOp .eql 63 (.agg #[.int .i64 (t), .int .i64 (n), .string s, .bool b, .int .i64 (c)]) (.agg #[.int .i64 (t'), .int .i64 (n'), .string s', .bool b', .int .i64 (c')])).run Tryz.prog w = .ok (.bool (sameB t n s b c t' n' s' b' c')) w := by
 rw [run_eql_struct, run_equalIn_agg w 9999 63 _ _ zq14 zq14]
 unfold sameB
 go_simp
 by_cases h1 : t = t'
 ·by_cases h2 : n = n'
  ·by_cases h3 : s = s'
   ·by_cases h4 : b = b'
    ·by_cases h5 : c = c' <;> simp [h1, h2, h3, h4, h5]
    ·simp [h1, h2, h3, h4]
   ·have h3' : ¬ s.toList = s'.toList := fun h => h3 (toList_inj h)
    simp [h1, h2, h3, h3']
  ·simp [h1, h2]
 ·simp [h1]
def mayB (t n : Int) (s : ByteArray) (b : Bool) (c : Int) : Bool := decide ((t ≠ 1 → n = 0) ∧ (t ≠ 2 → s = ⟨#[]⟩) ∧ (t ≠ 3 → b = false) ∧ (t ≠ 4 → c = 0) ∧ 0 ≤ t ∧ t ≤ 4 ∧ (t = 1 → n ≠ (-9223372036854775808)) ∧ (t = 4 → 1 ≤ c ∧ c ≤ 8))
theorem txt (s : ByteArray) (w : World) : Calls Tryz.prog 145 #[.string s] w fun e w' => e = .returned (.agg #[.int .i64 (2), .int .i64 0, .string s, .bool false, .int .i64 0]) ∧ Below w.heap.size w w' := by
 go_enter Tryz.func145, Tryz.ntmps145
 go_wp2
 exact bodyPost_ret (v := (.agg #[.int .i64 (2), .int .i64 0, .string s, .bool false, .int .i64 0])) (by simp [results, Tryz.results145, go_sem]) rfl ⟨rfl, bal _ _⟩
theorem truth (b : Bool) (w : World) : Calls Tryz.prog 146 #[.bool b] w fun e w' => e = .returned (.agg #[.int .i64 (3), .int .i64 0, .string ⟨#[]⟩, .bool b, .int .i64 0]) ∧ Below w.heap.size w w' := by
 go_enter Tryz.func146, Tryz.ntmps146
 go_wp2
 exact bodyPost_ret (v := (.agg #[.int .i64 (3), .int .i64 0, .string ⟨#[]⟩, .bool b, .int .i64 0])) (by simp [results, Tryz.results146, go_sem]) rfl ⟨rfl, bal _ _⟩
theorem err_ok (c : Int) (w : World) (h1 : 1 ≤ c) (h2 : c ≤ 8) : Calls Tryz.prog 147 #[.int .i64 c] w fun e w' => e = .returned (.agg #[.int .i64 (4), .int .i64 0, .string ⟨#[]⟩, .bool false, .int .i64 (c)]) ∧ Below w.heap.size w w' := by
 go_enter Tryz.func147, Tryz.ntmps147
 go_wp2
 exact bodyPost_ret (v := (.agg #[.int .i64 (4), .int .i64 0, .string ⟨#[]⟩, .bool false, .int .i64 (c)])) (by simp [results, Tryz.results147, go_sem]) rfl ⟨rfl, bal _ _⟩
theorem err_okx (c : Int) (w : World) (h1 : 1 ≤ c) (h2 : c ≤ 8) : Calls Tryz.prog 147 #[.int .i64 c] w fun e w' => e = .returned (.agg #[.int .i64 (4), .int .i64 0, .string ⟨#[]⟩, .bool false, .int .i64 (c)]) ∧ w' = w.alloc (.cells #[.int .i64 4, .int .i64 0, .string ⟨#[]⟩, .bool false, .int .i64 c] 63) := by
 go_enter Tryz.func147, Tryz.ntmps147
 go_wp2
 exact bodyPost_ret (v := (.agg #[.int .i64 (4), .int .i64 0, .string ⟨#[]⟩, .bool false, .int .i64 (c)])) (by simp [results, Tryz.results147, go_sem]) rfl ⟨rfl, rfl⟩
theorem err_low (c : Int) (w : World) (h1 : c < 1) : Calls Tryz.prog 147 #[.int .i64 c] w fun e w' => e = .returned (.agg #[.int .i64 (4), .int .i64 0, .string ⟨#[]⟩, .bool false, .int .i64 (8)]) ∧ Below w.heap.size w w' := by
 go_enter Tryz.func147, Tryz.ntmps147
 go_wp2
 exact bodyPost_ret (v := (.agg #[.int .i64 (4), .int .i64 0, .string ⟨#[]⟩, .bool false, .int .i64 (8)])) (by simp [results, Tryz.results147, go_sem]) rfl ⟨rfl, bal _ _⟩
theorem err_high (c : Int) (w : World) (h1 : 8 < c) : Calls Tryz.prog 147 #[.int .i64 c] w fun e w' => e = .returned (.agg #[.int .i64 (4), .int .i64 0, .string ⟨#[]⟩, .bool false, .int .i64 (8)]) ∧ Below w.heap.size w w' := by
 have hd : decide (c ≤ 8) = false := by simp; omega
 go_enter Tryz.func147, Tryz.ntmps147
 go_wp2
 exact bodyPost_ret (v := (.agg #[.int .i64 (4), .int .i64 0, .string ⟨#[]⟩, .bool false, .int .i64 (8)])) (by simp [results, Tryz.results147, go_sem]) rfl ⟨rfl, bal _ _⟩
def errC (c : Int) : Int := if 1 ≤ c ∧ c ≤ 8 then c else 8
theorem errC_ok {c : Int} (h1 : 1 ≤ c) (h2 : c ≤ 8) : errC c = c := if_pos ⟨h1, h2⟩
theorem errC_no {c : Int} (h : c < 1 ∨ 8 < c) : errC c = 8 := if_neg zq17
theorem err_any (c : Int) (w : World) : Calls Tryz.prog 147 #[.int .i64 c] w fun e w' => e = .returned (.agg #[.int .i64 (4), .int .i64 0, .string ⟨#[]⟩, .bool false, .int .i64 (errC c)]) ∧ Below w.heap.size w w' := by
 by_cases h1 : c < 1
 ·rw [errC_no (.inl h1)]; exact err_low c w h1
 by_cases h2 : 8 < c
 ·rw [errC_no (.inr h2)]; exact err_high c w h2
 rw [errC_ok zq17 zq17]; exact err_ok c w zq17 zq17
theorem num_t (n : Int) (w : World) (hn : I64 n) (h : n ≠ (-9223372036854775808)) : Calls Tryz.prog 144 #[.int .i64 n] w fun e w' => e = .returned (.agg #[.int .i64 (1), .int .i64 (n), .string ⟨#[]⟩, .bool false, .int .i64 0]) ∧ Below w.heap.size w w' := by
 have hk : mayOk n = true := mayOk_t (by have := hn.1; omega)
 go_enter Tryz.func144, Tryz.ntmps144
 go_wp2_with (go_at_call 174; refine (mayAny _ _ hn).mono ?_; rw [hk]; rintro e w1 ⟨rfl, rfl⟩)
 exact bodyPost_ret (v := (.agg #[.int .i64 (1), .int .i64 (n), .string ⟨#[]⟩, .bool false, .int .i64 0])) (by simp [results, Tryz.results144, go_sem]) rfl ⟨rfl, bal _ _⟩
theorem num_f (n : Int) (w : World) (h : n = (-9223372036854775808)) : Calls Tryz.prog 144 #[.int .i64 n] w fun e w' => e = .returned (.agg #[.int .i64 (4), .int .i64 0, .string ⟨#[]⟩, .bool false, .int .i64 (2)]) ∧ Below w.heap.size w w' := by
 have hn : I64 n := by subst h; exact ⟨zq16, zq16⟩
 have hk : mayOk n = false := mayOk_f h
 clear h
 go_enter Tryz.func144, Tryz.ntmps144
 go_wp2_with (first | (go_at_call 174; refine (mayAny _ _ hn).mono ?_; rw [hk]; rintro e w1 ⟨rfl, rfl⟩) | (go_at_call 147; refine (err_okx 2 _ zq16 zq16).mono ?_; rintro e w1 ⟨rfl, rfl⟩))
 exact bodyPost_ret (v := (.agg #[.int .i64 (4), .int .i64 0, .string ⟨#[]⟩, .bool false, .int .i64 (2)])) (by simp [results, Tryz.results144, go_sem]) rfl ⟨rfl, (bal _ _).alloc (by simp) _⟩
end Go.Proofs.YtcmjhjnpcogmgaaGreatDoor.Vv
namespace Go.Proofs.YtcmjhjnpcogmgaaGreatDoor.Vv
open Go.RowKit
theorem cells_of_strs {H : Type} {enc : TypeId × Value → H} {P : Program} {w : World} {base : Nat} {sp : Nat → Bool} {held : Bool} {fuel : Nat} {t e : TypeId} {n : Nat} {cs : List Value} {zs : List (List UInt8)} {p : List MemPlace}
  (ht : P.underlying t = some (.array n e)) (he : P.underlying e = some .string) (hce : P.cellsOf e = 1) (hct : P.cellsOf t = n)
  (h : DataW.trod enc P w base sp held fuel t cs = some (.agg (zs.map fun z => .lit (.string z)), p)) : cs = zs.map fun z => Value.string ⟨z.toArray⟩ := by
 cases fuel with
 | zero => simp [DataW.trod] at h
 | succ fuel =>
  simp only [DataW.trod, ht, hce, hct, Nat.mul_one] at h
  split at h
  ·rename_i hl
   obtain ⟨xs, hm, hx⟩ := Option.map_eq_some_iff.1 h
   have hxs : xs.map (·.1) = zs.map fun z => (DataW.lit (.string z) : DataW H) := by
    have := congrArg Prod.fst hx
    simpa using this
   have hxl : xs.length = n := by simpa using Lib.mapM_length hm
   have hzl : zs.length = n := by
    have := congrArg List.length hxs
    simp at this
    omega
   apply List.ext_getElem?
   intro i
   by_cases hi : i < n
   ·obtain ⟨y, hy, hf⟩ := Lib.mapM_at hm i i (by simp [hi])
    obtain ⟨z, hc, rfl, _⟩ := DataW.trod_string he hf
    have h1 : cs[i]? = some (.string z) := by
     have := congrArg (·[0]?) hc
     simpa [List.getElem?_take, List.getElem?_drop] using this
    have h2 : (xs.map (·.1))[i]? = some (DataW.lit (.string z.data.toList) : DataW H) := by simp [hy]
    rw [hxs] at h2
    simp only [List.getElem?_map, Option.map_eq_some_iff, DataW.lit.injEq, Lit.string.injEq] at h2
    obtain ⟨z', hz', hz2⟩ := h2
    rw [h1, List.getElem?_map, hz', hz2]
    rfl
   ·rw [List.getElem?_eq_none zq17, List.getElem?_eq_none (by simp; omega)]
  ·cases h
def namesL : List (List UInt8) := [[], [35, 67, 89, 67, 76, 69, 33], [35, 78, 85, 77, 33], [35, 68, 73, 86, 33], [35, 84, 89, 80, 69, 33], [35, 82, 65, 78, 71, 69, 33], [35, 77, 73, 83, 83, 33], [35, 76, 79, 78, 71, 33], [35, 65, 82, 71, 33]]
theorem gNam : Tryz.prog.globalNamed "oriel/value.names" = some 2 := by kernel_rfl
theorem gNamType : (Tryz.prog.globals[2]?).map (·.type) = some 211 := by kernel_rfl
theorem cellsNam : Tryz.prog.cellsOf 211 = 9 := by kernel_rfl
theorem cellsStr : Tryz.prog.cellsOf 9 = 1 := by kernel_rfl
abbrev Nam (w : World) : Prop := w.var? Tryz.prog "oriel/value.names" = some (namesL.map fun z => Value.string ⟨z.toArray⟩).toArray
theorem Nam.stays {w w' : World} (h : Nam w) (hb : Below w.heap.size w w') : Nam w' := by
 refine var?_below hb gNam ?_ h
 have h0 := World.var?_cell gNam h 0
 apply Nat.lt_of_not_le
 intro hge
 have hn : w.cell? ⟨2, 0, none⟩ = none := by
  simp [World.cell?, World.cells?, Array.getElem?_eq_none hge]
 rw [hn] at h0
 simp [namesL] at h0
theorem nam_of_head {W : World} {rest : List (String × DataW Unit)} (h : laidMet Tryz.prog (("oriel/value.names", .agg (namesL.map fun z => .lit (.string z))) :: rest) W) : Nam W := by
 obtain ⟨ps, ⟨g', t', cs, fuel, p, q, hg', ht', hvar, hd, _, _⟩, _⟩ := h
 obtain rfl := Option.some.inj (gNam.symm.trans hg')
 obtain rfl := Option.some.inj (gNamType.symm.trans ht')
 unfold Nam
 rw [hvar, ← cells_of_strs Tryz.underlying211 Tryz.underlying9 cellsStr cellsNam hd]
def nameB (c : Int) : ByteArray := if c = 1 then ⟨#[35, 67, 89, 67, 76, 69, 33]⟩ else if c = 2 then ⟨#[35, 78, 85, 77, 33]⟩ else if c = 3 then ⟨#[35, 68, 73, 86, 33]⟩ else if c = 4 then ⟨#[35, 84, 89, 80, 69, 33]⟩ else if c = 5 then ⟨#[35, 82, 65, 78, 71, 69, 33]⟩ else if c = 6 then ⟨#[35, 77, 73, 83, 83, 33]⟩ else if c = 7 then ⟨#[35, 76, 79, 78, 71, 33]⟩ else if c = 8 then ⟨#[35, 65, 82, 71, 33]⟩ else ⟨#[]⟩
theorem Nam.cell {w : World} (h : Nam w) (i : Nat) : w.cell? ⟨2, i, none⟩ = (namesL.map fun z => Value.string ⟨z.toArray⟩)[i]? := by
 have := World.var?_cell gNam h i
 simpa using this
theorem name1 (w : World) (h : Nam w) : Calls Tryz.prog 170 #[.int .i64 1] w fun e w' => e = .returned (.string ⟨#[35, 67, 89, 67, 76, 69, 33]⟩) ∧ w' = w := by
 have hc : w.cell? ⟨2, 1, none⟩ = some (.string ⟨#[35, 67, 89, 67, 76, 69, 33]⟩) := h.cell 1
 go_enter Tryz.func170, Tryz.ntmps170
 go_wp2
 go_ret
 exact ⟨rfl, rfl⟩
theorem name2 (w : World) (h : Nam w) : Calls Tryz.prog 170 #[.int .i64 2] w fun e w' => e = .returned (.string ⟨#[35, 78, 85, 77, 33]⟩) ∧ w' = w := by
 have hc : w.cell? ⟨2, 2, none⟩ = some (.string ⟨#[35, 78, 85, 77, 33]⟩) := h.cell 2
 go_enter Tryz.func170, Tryz.ntmps170
 go_wp2
 go_ret
 exact ⟨rfl, rfl⟩
theorem name3 (w : World) (h : Nam w) : Calls Tryz.prog 170 #[.int .i64 3] w fun e w' => e = .returned (.string ⟨#[35, 68, 73, 86, 33]⟩) ∧ w' = w := by
 have hc : w.cell? ⟨2, 3, none⟩ = some (.string ⟨#[35, 68, 73, 86, 33]⟩) := h.cell 3
 go_enter Tryz.func170, Tryz.ntmps170
 go_wp2
 go_ret
 exact ⟨rfl, rfl⟩
theorem name4 (w : World) (h : Nam w) : Calls Tryz.prog 170 #[.int .i64 4] w fun e w' => e = .returned (.string ⟨#[35, 84, 89, 80, 69, 33]⟩) ∧ w' = w := by
 have hc : w.cell? ⟨2, 4, none⟩ = some (.string ⟨#[35, 84, 89, 80, 69, 33]⟩) := h.cell 4
 go_enter Tryz.func170, Tryz.ntmps170
 go_wp2
 go_ret
 exact ⟨rfl, rfl⟩
theorem name5 (w : World) (h : Nam w) : Calls Tryz.prog 170 #[.int .i64 5] w fun e w' => e = .returned (.string ⟨#[35, 82, 65, 78, 71, 69, 33]⟩) ∧ w' = w := by
 have hc : w.cell? ⟨2, 5, none⟩ = some (.string ⟨#[35, 82, 65, 78, 71, 69, 33]⟩) := h.cell 5
 go_enter Tryz.func170, Tryz.ntmps170
 go_wp2
 go_ret
 exact ⟨rfl, rfl⟩
theorem name6 (w : World) (h : Nam w) : Calls Tryz.prog 170 #[.int .i64 6] w fun e w' => e = .returned (.string ⟨#[35, 77, 73, 83, 83, 33]⟩) ∧ w' = w := by
 have hc : w.cell? ⟨2, 6, none⟩ = some (.string ⟨#[35, 77, 73, 83, 83, 33]⟩) := h.cell 6
 go_enter Tryz.func170, Tryz.ntmps170
 go_wp2
 go_ret
 exact ⟨rfl, rfl⟩
theorem name7 (w : World) (h : Nam w) : Calls Tryz.prog 170 #[.int .i64 7] w fun e w' => e = .returned (.string ⟨#[35, 76, 79, 78, 71, 33]⟩) ∧ w' = w := by
 have hc : w.cell? ⟨2, 7, none⟩ = some (.string ⟨#[35, 76, 79, 78, 71, 33]⟩) := h.cell 7
 go_enter Tryz.func170, Tryz.ntmps170
 go_wp2
 go_ret
 exact ⟨rfl, rfl⟩
theorem name8 (w : World) (h : Nam w) : Calls Tryz.prog 170 #[.int .i64 8] w fun e w' => e = .returned (.string ⟨#[35, 65, 82, 71, 33]⟩) ∧ w' = w := by
 have hc : w.cell? ⟨2, 8, none⟩ = some (.string ⟨#[35, 65, 82, 71, 33]⟩) := h.cell 8
 go_enter Tryz.func170, Tryz.ntmps170
 go_wp2
 go_ret
 exact ⟨rfl, rfl⟩
end Go.Proofs.YtcmjhjnpcogmgaaGreatDoor.Vv
namespace Go.Proofs.YtcmjhjnpcogmgaaGreatDoor.Vv
open Go.RowKit
theorem nameAny (c : Int) (w : World) (h : Nam w) : Calls Tryz.prog 170 #[.int .i64 c] w fun e w' => e = .returned (.string (nameB c)) ∧ w' = w := by
 by_cases h1 : c < 1
 ·have hr : nameB c = ⟨#[]⟩ := by
   unfold nameB; simp only [if_neg (show ¬ c = 1 by omega), if_neg (show ¬ c = 2 by omega), if_neg (show ¬ c = 3 by omega), if_neg (show ¬ c = 4 by omega), if_neg (show ¬ c = 5 by omega), if_neg (show ¬ c = 6 by omega), if_neg (show ¬ c = 7 by omega), if_neg (show ¬ c = 8 by omega)]
  rw [hr]
  go_enter Tryz.func170, Tryz.ntmps170
  go_wp2
  go_ret
  exact ⟨rfl, rfl⟩
 by_cases h2 : 8 < c
 ·have hd : decide (c ≤ 8) = false := by simp; omega
  have hr : nameB c = ⟨#[]⟩ := by
   unfold nameB; simp only [if_neg (show ¬ c = 1 by omega), if_neg (show ¬ c = 2 by omega), if_neg (show ¬ c = 3 by omega), if_neg (show ¬ c = 4 by omega), if_neg (show ¬ c = 5 by omega), if_neg (show ¬ c = 6 by omega), if_neg (show ¬ c = 7 by omega), if_neg (show ¬ c = 8 by omega)]
  rw [hr]
  go_enter Tryz.func170, Tryz.ntmps170
  go_wp2
  go_ret
  exact ⟨rfl, rfl⟩
 obtain rfl | rfl | rfl | rfl | rfl | rfl | rfl | rfl : c = 1 ∨ c = 2 ∨ c = 3 ∨ c = 4 ∨ c = 5 ∨ c = 6 ∨ c = 7 ∨ c = 8 := by omega
 ·exact name1 w h
 ·exact name2 w h
 ·exact name3 w h
 ·exact name4 w h
 ·exact name5 w h
 ·exact name6 w h
 ·exact name7 w h
 ·exact name8 w h
def namedC (s : ByteArray) : Int := if nameB 1 = s then 1 else if nameB 2 = s then 2 else if nameB 3 = s then 3 else if nameB 4 = s then 4 else if nameB 5 = s then 5 else if nameB 6 = s then 6 else if nameB 7 = s then 7 else if nameB 8 = s then 8 else 0
def namedOk (s : ByteArray) : Bool := decide (namedC s ≠ 0)
def notUpto (s : ByteArray) (k : Nat) : Prop := ∀ j : Nat, j < k → ¬ nameB ((j : Int) + 1) = s
theorem named_hit (s : ByteArray) (k : Nat) (hk : k < 8) (hn : notUpto s k) (h : nameB ((k : Int) + 1) = s) : namedC s = (k : Int) + 1 := by
 obtain rfl | rfl | rfl | rfl | rfl | rfl | rfl | rfl : k = 0 ∨ k = 1 ∨ k = 2 ∨ k = 3 ∨ k = 4 ∨ k = 5 ∨ k = 6 ∨ k = 7 := by omega
 ·unfold namedC; rw [if_pos (show nameB 1 = s from h)]; rfl
 ·unfold namedC; rw [if_neg (show ¬ nameB 1 = s from hn 0 zq16), if_pos (show nameB 2 = s from h)]; rfl
 ·unfold namedC; rw [if_neg (show ¬ nameB 1 = s from hn 0 zq16), if_neg (show ¬ nameB 2 = s from hn 1 zq16), if_pos (show nameB 3 = s from h)]; rfl
 ·unfold namedC; rw [if_neg (show ¬ nameB 1 = s from hn 0 zq16), if_neg (show ¬ nameB 2 = s from hn 1 zq16), if_neg (show ¬ nameB 3 = s from hn 2 zq16), if_pos (show nameB 4 = s from h)]; rfl
 ·unfold namedC; rw [if_neg (show ¬ nameB 1 = s from hn 0 zq16), if_neg (show ¬ nameB 2 = s from hn 1 zq16), if_neg (show ¬ nameB 3 = s from hn 2 zq16), if_neg (show ¬ nameB 4 = s from hn 3 zq16), if_pos (show nameB 5 = s from h)]; rfl
 ·unfold namedC; rw [if_neg (show ¬ nameB 1 = s from hn 0 zq16), if_neg (show ¬ nameB 2 = s from hn 1 zq16), if_neg (show ¬ nameB 3 = s from hn 2 zq16), if_neg (show ¬ nameB 4 = s from hn 3 zq16), if_neg (show ¬ nameB 5 = s from hn 4 zq16), if_pos (show nameB 6 = s from h)]; rfl
 ·unfold namedC; rw [if_neg (show ¬ nameB 1 = s from hn 0 zq16), if_neg (show ¬ nameB 2 = s from hn 1 zq16), if_neg (show ¬ nameB 3 = s from hn 2 zq16), if_neg (show ¬ nameB 4 = s from hn 3 zq16), if_neg (show ¬ nameB 5 = s from hn 4 zq16), if_neg (show ¬ nameB 6 = s from hn 5 zq16), if_pos (show nameB 7 = s from h)]; rfl
 ·unfold namedC; rw [if_neg (show ¬ nameB 1 = s from hn 0 zq16), if_neg (show ¬ nameB 2 = s from hn 1 zq16), if_neg (show ¬ nameB 3 = s from hn 2 zq16), if_neg (show ¬ nameB 4 = s from hn 3 zq16), if_neg (show ¬ nameB 5 = s from hn 4 zq16), if_neg (show ¬ nameB 6 = s from hn 5 zq16), if_neg (show ¬ nameB 7 = s from hn 6 zq16), if_pos (show nameB 8 = s from h)]; rfl
theorem named_miss (s : ByteArray) (hn : notUpto s 8) : namedC s = 0 := by
 unfold namedC; rw [if_neg (show ¬ nameB 1 = s from hn 0 zq16), if_neg (show ¬ nameB 2 = s from hn 1 zq16), if_neg (show ¬ nameB 3 = s from hn 2 zq16), if_neg (show ¬ nameB 4 = s from hn 3 zq16), if_neg (show ¬ nameB 5 = s from hn 4 zq16), if_neg (show ¬ nameB 6 = s from hn 5 zq16), if_neg (show ¬ nameB 7 = s from hn 6 zq16), if_neg (show ¬ nameB 8 = s from hn 7 zq16)]
theorem named_ok (s : ByteArray) (k : Nat) (h : namedC s = (k : Int) + 1) : namedOk s = true := by unfold namedOk; rw [h]; simp; omega
theorem named_no (s : ByteArray) (h : namedC s = 0) : namedOk s = false := by unfold namedOk; rw [h]; rfl
theorem toL_t {a s : ByteArray} (h : a = s) : (a.toList == s.toList) = true := by rw [h]; simp
theorem toL_inj {s s' : ByteArray} (h : s.toList = s'.toList) : s = s' := by
 rw [ByteArray.toList_eq, ByteArray.toList_eq] at h
 obtain ⟨⟨x⟩⟩ := s
 obtain ⟨⟨y⟩⟩ := s'
 simp at h
 rw [h]
theorem toL_f {a s : ByteArray} (h : ¬ a = s) : (a.toList == s.toList) = false := by simp; exact fun k => h (toL_inj k)
theorem retIB {k : IntKind} {a b : Int} {x y : Bool} (h : a = b) (h' : x = y) : Ending.returned (.tuple #[.int k a, .bool x]) = .returned (.tuple #[.int k b, .bool y]) := by rw [h, h']
theorem namedAny (s : ByteArray) (w : World) (h : Nam w) : Calls Tryz.prog 129 #[.string s] w fun e w' => e = .returned (.tuple #[.int .i64 (namedC s), .bool (namedOk s)]) ∧ w' = w := by
 go_enter Tryz.func129, Tryz.ntmps129
 go_wp2
 go_loop [4] (fun x => ∃ k : Nat, k ≤ 8 ∧ x = .int .i64 ((k : Int) + 1) ∧ notUpto s k) (fun x => 9 - (intOf x).toNat)
 case atStart => exact ⟨0, zq17, rfl, fun j hj => absurd hj zq17⟩
 case round =>
  obtain ⟨k, hk, rfl, hall⟩ := hrel
  have HA := Lib.hid hall
  clear hall
  by_cases hlt : k < 8
  ·have hlt' : (k : Int) + 1 ≤ 8 := by omega
   by_cases hq : nameB ((k : Int) + 1) = s
   ·have hq1 := toL_t hq
    have HQ := Lib.hid hq
    clear hq
    go_wp2_with (go_at_call 170; refine (nameAny _ _ h).mono ?_; rintro e w' ⟨rfl, rfl⟩)
    go_ret2
    have hc := named_hit s k hlt HA.out HQ.out
    exact ⟨retIB hc.symm (named_ok s k hc).symm, rfl⟩
   ·have hq1 := toL_f hq
    have HQ := Lib.hid hq
    clear hq
    go_wp2_with (go_at_call 170; refine (nameAny _ _ h).mono ?_; rintro e w' ⟨rfl, rfl⟩)
    go_round
    case rel => exact ⟨k + 1, zq17, by go_num, fun j hj => by
     by_cases hjk : j < k
     ·exact HA.out j hjk
     ·obtain rfl : j = k := by omega
      exact HQ.out⟩
    case measure => simp [intOf]; omega
  ·have hlt' : ¬ (k : Int) + 1 ≤ 8 := by omega
   obtain rfl : k = 8 := by omega
   go_wp2
   go_ret2
   have hc := named_miss s HA.out
   exact ⟨retIB hc.symm (named_no s hc).symm, rfl⟩
def rn : Array Value := #[.string (nameB 1), .string (nameB 2), .string (nameB 3), .string (nameB 4), .string (nameB 5), .string (nameB 6), .string (nameB 7), .string (nameB 8)]
theorem rn_eq : (#[.string ⟨#[35, 67, 89, 67, 76, 69, 33]⟩, .string ⟨#[35, 78, 85, 77, 33]⟩, .string ⟨#[35, 68, 73, 86, 33]⟩, .string ⟨#[35, 84, 89, 80, 69, 33]⟩, .string ⟨#[35, 82, 65, 78, 71, 69, 33]⟩, .string ⟨#[35, 77, 73, 83, 83, 33]⟩, .string ⟨#[35, 76, 79, 78, 71, 33]⟩, .string ⟨#[35, 65, 82, 71, 33]⟩] : Array Value) = rn := by
 unfold rn nameB; simp
theorem rnames (w : World) : Calls Tryz.prog 106 #[] w fun e w' => e = .returned (.slice (some ⟨w.heap.size, 0, none⟩) 8 8) ∧ w' = w.alloc (.cells rn 9) := by
 go_enter Tryz.func106, Tryz.ntmps106
 go_wp2
 go_ret
 exact ⟨rfl, by rw [← rn_eq]⟩
theorem rn_at (k : Nat) (h : k < 8) : rn[k]? = some (.string (nameB ((k : Int) + 1))) := by
 obtain rfl | rfl | rfl | rfl | rfl | rfl | rfl | rfl : k = 0 ∨ k = 1 ∨ k = 2 ∨ k = 3 ∨ k = 4 ∨ k = 5 ∨ k = 6 ∨ k = 7 := by omega
 ·rfl
 ·rfl
 ·rfl
 ·rfl
 ·rfl
 ·rfl
 ·rfl
 ·rfl
theorem rnamedAny (s : ByteArray) (w : World) : Calls Tryz.prog 70 #[.string s] w fun e w' => e = .returned (.tuple #[.int .i64 (namedC s), .bool (namedOk s)]) ∧ Below w.heap.size w w' := by
 go_enter Tryz.func70, Tryz.ntmps70
 go_wp2_with (go_at_call 106; refine (rnames _).mono ?_; rintro e w' ⟨rfl, rfl⟩)
 go_loop [5] (fun x => ∃ k : Nat, k ≤ 8 ∧ x = .int .i64 (k : Int) ∧ notUpto s k) (fun x => 8 - (intOf x).toNat)
 case atStart => exact ⟨0, zq17, rfl, fun j hj => absurd hj zq17⟩
 case round =>
  obtain ⟨k, hk, rfl, hall⟩ := hrel
  have HA := Lib.hid hall
  clear hall
  by_cases hlt : k < 8
  ·have hlt' : (k : Int) < 8 := by omega
   have hrn := rn_at k hlt
   by_cases hq : nameB ((k : Int) + 1) = s
   ·have hq1 := toL_t hq
    have HQ := Lib.hid hq
    clear hq
    go_wp2
    go_ret2
    have hc := named_hit s k hlt HA.out HQ.out
    exact ⟨retIB hc.symm (named_ok s k hc).symm, bal _ _⟩
   ·have hq1 := toL_f hq
    have HQ := Lib.hid hq
    clear hq
    go_wp2
    go_round
    case rel => exact ⟨k + 1, zq17, by go_num, fun j hj => by
     by_cases hjk : j < k
     ·exact HA.out j hjk
     ·obtain rfl : j = k := by omega
      exact HQ.out⟩
    case measure => simp [intOf]; omega
  ·have hlt' : ¬ (k : Int) < 8 := by omega
   obtain rfl : k = 8 := by omega
   go_wp2
   go_ret2
   have hc := named_miss s HA.out
   exact ⟨retIB hc.symm (named_no s hc).symm, bal _ _⟩
end Go.Proofs.YtcmjhjnpcogmgaaGreatDoor.Vv
namespace Go.Proofs.YtcmjhjnpcogmgaaGreatDoor.Vv
open Go.RowKit
theorem may0 (n : Int) (s : ByteArray) (b : Bool) (c : Int) (w : World) : Calls Tryz.prog 102 #[(.agg #[.int .i64 0, .int .i64 (n), .string s, .bool b, .int .i64 (c)])] w fun e w' => e = .returned (.bool (mayB (0) n s b c)) ∧ Below w.heap.size w w' := by
 have heq : ∀ w, (binOp .eql 63 (.agg #[.int .i64 0, .int .i64 (n), .string s, .bool b, .int .i64 (c)]) (.agg #[.int .i64 0, .int .i64 0, .string ⟨#[]⟩, .bool false, .int .i64 0])).run Tryz.prog w = .ok (.bool (mayB (0) n s b c)) w := fun w => by rw [eqv]; exact congrArg (fun x => Result.ok (Value.bool x) w) (by simp [sameB, mayB])
 go_enter Tryz.func102, Tryz.ntmps102
 go_wp2
 all_goals go_ret
 all_goals first | exact ⟨rfl, bal _ _⟩ | exact ⟨rfl, (bal _ _).drew⟩ | exact ⟨rfl, bup (bal _ _) hb⟩ | exact ⟨rfl, bup (bal _ _) hb.drew⟩ | exact ⟨rfl, (bup (bal _ _) hb).drew⟩ | exact ⟨rfl, bup (bal _ _).drew hb⟩
theorem may1t (n : Int) (s : ByteArray) (b : Bool) (c : Int) (w : World) (hn : I64 n) (h : n ≠ (-9223372036854775808)) : Calls Tryz.prog 102 #[(.agg #[.int .i64 (1), .int .i64 (n), .string s, .bool b, .int .i64 (c)])] w fun e w' => e = .returned (.bool (mayB (1) n s b c)) ∧ Below w.heap.size w w' := by
 have heq : ∀ w, (binOp .eql 63 (.agg #[.int .i64 (1), .int .i64 (n), .string s, .bool b, .int .i64 (c)]) (.agg #[.int .i64 (1), .int .i64 (n), .string ⟨#[]⟩, .bool false, .int .i64 0])).run Tryz.prog w = .ok (.bool (mayB (1) n s b c)) w := fun w => by rw [eqv]; exact congrArg (fun x => Result.ok (Value.bool x) w) (by simp [sameB, mayB, h])
 go_enter Tryz.func102, Tryz.ntmps102
 go_wp2_with fail
 go_region_with (go_at_call 144; refine (num_t _ _ hn h).mono ?_; rintro e w1 ⟨rfl, hb⟩; have hcc := bcell hb)
 all_goals go_wp2
 all_goals go_ret
 all_goals first | exact ⟨rfl, bal _ _⟩ | exact ⟨rfl, (bal _ _).drew⟩ | exact ⟨rfl, bup (bal _ _) hb⟩ | exact ⟨rfl, bup (bal _ _) hb.drew⟩ | exact ⟨rfl, (bup (bal _ _) hb).drew⟩ | exact ⟨rfl, bup (bal _ _).drew hb⟩
theorem may1f (s : ByteArray) (b : Bool) (c : Int) (w : World) : Calls Tryz.prog 102 #[(.agg #[.int .i64 (1), .int .i64 ((-9223372036854775808)), .string s, .bool b, .int .i64 (c)])] w fun e w' => e = .returned (.bool (mayB 1 (-9223372036854775808) s b c)) ∧ Below w.heap.size w w' := by
 have heq : ∀ w, (binOp .eql 63 (.agg #[.int .i64 (1), .int .i64 ((-9223372036854775808)), .string s, .bool b, .int .i64 (c)]) (.agg #[.int .i64 (4), .int .i64 0, .string ⟨#[]⟩, .bool false, .int .i64 (2)])).run Tryz.prog w = .ok (.bool (mayB 1 (-9223372036854775808) s b c)) w := fun w => by rw [eqv]; exact congrArg (fun x => Result.ok (Value.bool x) w) (by simp [sameB, mayB])
 go_enter Tryz.func102, Tryz.ntmps102
 go_wp2_with fail
 go_region_with (go_at_call 144; refine (num_f _ _ rfl).mono ?_; rintro e w1 ⟨rfl, hb⟩; have hcc := bcell hb)
 all_goals go_wp2
 all_goals go_ret
 all_goals first | exact ⟨rfl, bal _ _⟩ | exact ⟨rfl, (bal _ _).drew⟩ | exact ⟨rfl, bup (bal _ _) hb⟩ | exact ⟨rfl, bup (bal _ _) hb.drew⟩ | exact ⟨rfl, (bup (bal _ _) hb).drew⟩ | exact ⟨rfl, bup (bal _ _).drew hb⟩
theorem may2 (n : Int) (s : ByteArray) (b : Bool) (c : Int) (w : World) : Calls Tryz.prog 102 #[(.agg #[.int .i64 (2), .int .i64 (n), .string s, .bool b, .int .i64 (c)])] w fun e w' => e = .returned (.bool (mayB (2) n s b c)) ∧ Below w.heap.size w w' := by
 have heq : ∀ w, (binOp .eql 63 (.agg #[.int .i64 (2), .int .i64 (n), .string s, .bool b, .int .i64 (c)]) (.agg #[.int .i64 (2), .int .i64 0, .string s, .bool false, .int .i64 0])).run Tryz.prog w = .ok (.bool (mayB (2) n s b c)) w := fun w => by rw [eqv]; exact congrArg (fun x => Result.ok (Value.bool x) w) (by simp [sameB, mayB])
 go_enter Tryz.func102, Tryz.ntmps102
 go_wp2_with fail
 go_region_with (go_at_call 145; refine (txt _ _).mono ?_; rintro e w1 ⟨rfl, hb⟩; have hcc := bcell hb)
 all_goals go_wp2
 all_goals go_ret
 all_goals first | exact ⟨rfl, bal _ _⟩ | exact ⟨rfl, (bal _ _).drew⟩ | exact ⟨rfl, bup (bal _ _) hb⟩ | exact ⟨rfl, bup (bal _ _) hb.drew⟩ | exact ⟨rfl, (bup (bal _ _) hb).drew⟩ | exact ⟨rfl, bup (bal _ _).drew hb⟩
theorem may3 (n : Int) (s : ByteArray) (b : Bool) (c : Int) (w : World) : Calls Tryz.prog 102 #[(.agg #[.int .i64 (3), .int .i64 (n), .string s, .bool b, .int .i64 (c)])] w fun e w' => e = .returned (.bool (mayB (3) n s b c)) ∧ Below w.heap.size w w' := by
 have heq : ∀ w, (binOp .eql 63 (.agg #[.int .i64 (3), .int .i64 (n), .string s, .bool b, .int .i64 (c)]) (.agg #[.int .i64 (3), .int .i64 0, .string ⟨#[]⟩, .bool b, .int .i64 0])).run Tryz.prog w = .ok (.bool (mayB (3) n s b c)) w := fun w => by rw [eqv]; exact congrArg (fun x => Result.ok (Value.bool x) w) (by simp [sameB, mayB])
 go_enter Tryz.func102, Tryz.ntmps102
 go_wp2_with fail
 go_region_with (go_at_call 146; refine (truth _ _).mono ?_; rintro e w1 ⟨rfl, hb⟩; have hcc := bcell hb)
 all_goals go_wp2
 all_goals go_ret
 all_goals first | exact ⟨rfl, bal _ _⟩ | exact ⟨rfl, (bal _ _).drew⟩ | exact ⟨rfl, bup (bal _ _) hb⟩ | exact ⟨rfl, bup (bal _ _) hb.drew⟩ | exact ⟨rfl, (bup (bal _ _) hb).drew⟩ | exact ⟨rfl, bup (bal _ _).drew hb⟩
theorem may4 (n : Int) (s : ByteArray) (b : Bool) (c : Int) (w : World) : Calls Tryz.prog 102 #[(.agg #[.int .i64 (4), .int .i64 (n), .string s, .bool b, .int .i64 (c)])] w fun e w' => e = .returned (.bool (mayB (4) n s b c)) ∧ Below w.heap.size w w' := by
 have heq : ∀ w, (binOp .eql 63 (.agg #[.int .i64 (4), .int .i64 (n), .string s, .bool b, .int .i64 (c)]) (.agg #[.int .i64 (4), .int .i64 0, .string ⟨#[]⟩, .bool false, .int .i64 (errC c)])).run Tryz.prog w = .ok (.bool (mayB (4) n s b c)) w := fun w => by rw [eqv]; exact congrArg (fun x => Result.ok (Value.bool x) w) (by unfold errC; by_cases h : 1 ≤ c ∧ c ≤ 8 <;> simp [sameB, mayB, h]; omega)
 go_enter Tryz.func102, Tryz.ntmps102
 go_wp2_with fail
 go_region_with (go_at_call 147; refine (err_any _ _).mono ?_; rintro e w1 ⟨rfl, hb⟩; have hcc := bcell hb)
 all_goals go_wp2
 all_goals go_ret
 all_goals first | exact ⟨rfl, bal _ _⟩ | exact ⟨rfl, (bal _ _).drew⟩ | exact ⟨rfl, bup (bal _ _) hb⟩ | exact ⟨rfl, bup (bal _ _) hb.drew⟩ | exact ⟨rfl, (bup (bal _ _) hb).drew⟩ | exact ⟨rfl, bup (bal _ _).drew hb⟩
theorem mayN (t n : Int) (s : ByteArray) (b : Bool) (c : Int) (w : World) (h : t < 0 ∨ 4 < t) : Calls Tryz.prog 102 #[(.agg #[.int .i64 (t), .int .i64 (n), .string s, .bool b, .int .i64 (c)])] w fun e w' => e = .returned (.bool (mayB t n s b c)) ∧ Below w.heap.size w w' := by
 have hr : mayB t n s b c = false := by simp [mayB]; omega
 have h0 : (t == 0) = false := by simp; omega
 have h1 : (t == 1) = false := by simp; omega
 have h2 : (t == 2) = false := by simp; omega
 have h3 : (t == 3) = false := by simp; omega
 have h4 : (t == 4) = false := by simp; omega
 rw [hr]
 clear hr h
 go_enter Tryz.func102, Tryz.ntmps102
 go_wp2
 go_ret
 exact ⟨rfl, bal _ _⟩
theorem mayV (t n : Int) (s : ByteArray) (b : Bool) (c : Int) (w : World) (hn : I64 n) : Calls Tryz.prog 102 #[(.agg #[.int .i64 (t), .int .i64 (n), .string s, .bool b, .int .i64 (c)])] w fun e w' => e = .returned (.bool (mayB t n s b c)) ∧ Below w.heap.size w w' := by
 by_cases h : t < 0 ∨ 4 < t
 ·exact mayN t n s b c w h
 obtain rfl | rfl | rfl | rfl | rfl : t = 0 ∨ t = 1 ∨ t = 2 ∨ t = 3 ∨ t = 4 := by omega
 ·exact may0 n s b c w
 ·by_cases hm : n = (-9223372036854775808)
  ·subst hm; exact may1f s b c w
  ·exact may1t n s b c w hn hm
 ·exact may2 n s b c w
 ·exact may3 n s b c w
 ·exact may4 n s b c w
theorem retB {x y : Bool} (h : x = y) : Ending.returned (.bool x) = .returned (.bool y) := by rw [h]
end Go.Proofs.YtcmjhjnpcogmgaaGreatDoor.Vv
