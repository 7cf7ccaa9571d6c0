/- Contracts of dec.May and of the document's May: of every int64 whether it may be. No condition but that the argument is an int64. Contracts of Num, Txt, Truth, Err, May (of package value and of the document's answer): of every argument the same value; new memory alone is made. No condition but that the integers are int64. -/
import Derived.Test.YtcgcnpcimfaecaaGreatDoorRows
import Derived.WalkKit
import Derived.WalkSpells
import Derived.Outline
import Derived.Laws.StructEq
import Derived.Laws.NewBlocks
import Derived.Deep.RegionWith
namespace Go.Proofs.YtcgcnpcimfaecaaGreatDoor
open Go.RowKit
set_option linter.all false

/-- An int64. -/
def I64 (x : Int) : Prop := -9223372036854775808 ≤ x ∧ x ≤ 9223372036854775807
theorem wrapU (n : Int) : IntKind.u64.wrap n = n % 18446744073709551616 := by simp [IntKind.wrap, IntKind.bits, IntKind.signed]
theorem ret2 {k k' : IntKind} {a b c d : Int} (h : a = b) (h' : c = d) : Ending.returned (.tuple #[.int k a, .int k' c]) = .returned (.tuple #[.int k b, .int k' d]) := by rw [h, h']
theorem ret1 {k : IntKind} {a b : Int} (h : a = b) : Ending.returned (.int k a) = .returned (.int k b) := by rw [h]
theorem may_t (x : Int) (w : World) (h : -9223372036854775807 ≤ x) : Calls Tryz.prog 141 #[.int .i64 x] w fun e w' => e = .returned (.bool true) ∧ w' = w := by
  have hx : (x != -9223372036854775808) = true := by simp; omega
  go_enter Tryz.func141, Tryz.ntmps141
  go_wp2
  go_ret
  exact ⟨rfl, rfl⟩
theorem may_f (x : Int) (w : World) (h : x = -9223372036854775808) : Calls Tryz.prog 141 #[.int .i64 x] w fun e w' => e = .returned (.bool false) ∧ w' = w := by
  subst h
  go_enter Tryz.func141, Tryz.ntmps141
  go_wp2
  go_ret
  exact ⟨rfl, rfl⟩
def mayOk (x : Int) : Bool := decide (x ≠ -9223372036854775808)
theorem mayOk_t {x : Int} (h : -9223372036854775807 ≤ x) : mayOk x = true := by simp [mayOk]; omega
theorem mayOk_f {x : Int} (h : x = -9223372036854775808) : mayOk x = false := by simp [mayOk, h]
theorem mayAny (x : Int) (w : World) (hx : I64 x) : Calls Tryz.prog 141 #[.int .i64 x] w fun e w' => e = .returned (.bool (mayOk x)) ∧ w' = w := by
  obtain ⟨hx1, hx2⟩ := hx
  by_cases hB : x = -9223372036854775808
  · rw [mayOk_f hB]; exact may_f x w hB
  · rw [mayOk_t (by omega)]; exact may_t x w (by omega)
theorem rmayAny (x : Int) (w : World) (hx : I64 x) : Calls Tryz.prog 74 #[.int .i64 x] w fun e w' => e = .returned (.bool (mayOk x)) ∧ w' = w := by
  obtain ⟨hx1, hx2⟩ := hx
  by_cases hB : x = -9223372036854775808
  · rw [mayOk_f hB]
    go_enter Tryz.func74, Tryz.ntmps74
    go_wp2
    go_ret
    exact ⟨rfl, rfl⟩
  · have hb3 : -9223372036854775807 ≤ x := by omega
    rw [mayOk_t hb3]
    go_enter Tryz.func74, Tryz.ntmps74
    go_wp2
    go_ret
    exact ⟨rfl, rfl⟩
end Go.Proofs.YtcgcnpcimfaecaaGreatDoor
namespace Go.Proofs.YtcgcnpcimfaecaaGreatDoor
open Go.RowKit
set_option linter.all false
theorem bcell {W w1 : World} (hb : Below W.heap.size W w1) : (∀ b o, b < W.heap.size → w1.cell? ⟨b, o, none⟩ = W.cell? ⟨b, o, none⟩) := fun b o h => hb.cell (p := ⟨b, o, none⟩) h
theorem bal (w : World) (o : Obj) : Below w.heap.size w (w.alloc o) := (Below.refl _ _).alloc (Nat.le_refl _) _
theorem bup {w W w1 : World} (h : Below w.heap.size w W) (hb : Below W.heap.size W w1) : Below w.heap.size w w1 := h.trans (hb.mono h.size)
/-- Whether two values are the same in all fields. -/
def sameB (t n : Int) (s : ByteArray) (b : Bool) (c : Int) (t' n' : Int) (s' : ByteArray) (b' : Bool) (c' : Int) : Bool := decide (t = t' ∧ n = n' ∧ s = s' ∧ b = b' ∧ c = c')
theorem toList_inj {s s' : ByteArray} (h : s.toList = s'.toList) : s = s' := by
  rw [ByteArray.toList_eq, ByteArray.toList_eq] at h
  obtain ⟨⟨x⟩⟩ := s
  obtain ⟨⟨y⟩⟩ := s'
  simp at h
  rw [h]
theorem eqv (t n : Int) (s : ByteArray) (b : Bool) (c : Int) (t' n' : Int) (s' : ByteArray) (b' : Bool) (c' : Int) (w : World) : (binOp .eql 26 (.agg #[.int .i64 (t), .int .i64 (n), .string s, .bool b, .int .i64 (c)]) (.agg #[.int .i64 (t'), .int .i64 (n'), .string s', .bool b', .int .i64 (c')])).run Tryz.prog w = .ok (.bool (sameB t n s b c t' n' s' b' c')) w := by
  rw [run_eql_struct, run_equalIn_agg w 9999 26 _ _ (by kernel_rfl) (by kernel_rfl)]
  unfold sameB
  go_simp
  by_cases h1 : t = t'
  · by_cases h2 : n = n'
    · by_cases h3 : s = s'
      · by_cases h4 : b = b'
        · by_cases h5 : c = c' <;> simp [h1, h2, h3, h4, h5]
        · simp [h1, h2, h3, h4]
      · have h3' : ¬ s.toList = s'.toList := fun h => h3 (toList_inj h)
        simp [h1, h2, h3, h3']
    · simp [h1, h2]
  · simp [h1]
/-- A value that may be. -/
def mayB (t n : Int) (s : ByteArray) (b : Bool) (c : Int) : Bool := decide ((t ≠ 1 → n = 0) ∧ (t ≠ 2 → s = ⟨#[]⟩) ∧ (t ≠ 3 → b = false) ∧ (t ≠ 4 → c = 0) ∧ 0 ≤ t ∧ t ≤ 4 ∧ (t = 1 → n ≠ (-9223372036854775808)) ∧ (t = 4 → 1 ≤ c ∧ c ≤ 8))
theorem txt (s : ByteArray) (w : World) : Calls Tryz.prog 136 #[.string s] w fun e w' => e = .returned (.agg #[.int .i64 (2), .int .i64 (0), .string s, .bool false, .int .i64 (0)]) ∧ Below w.heap.size w w' := by
  go_enter Tryz.func136, Tryz.ntmps136
  go_wp2
  exact bodyPost_ret (v := (.agg #[.int .i64 (2), .int .i64 (0), .string s, .bool false, .int .i64 (0)])) (by simp [results, Tryz.results136, go_sem]) rfl ⟨rfl, bal _ _⟩
theorem truth (b : Bool) (w : World) : Calls Tryz.prog 138 #[.bool b] w fun e w' => e = .returned (.agg #[.int .i64 (3), .int .i64 (0), .string ⟨#[]⟩, .bool b, .int .i64 (0)]) ∧ Below w.heap.size w w' := by
  go_enter Tryz.func138, Tryz.ntmps138
  go_wp2
  exact bodyPost_ret (v := (.agg #[.int .i64 (3), .int .i64 (0), .string ⟨#[]⟩, .bool b, .int .i64 (0)])) (by simp [results, Tryz.results138, go_sem]) rfl ⟨rfl, bal _ _⟩
theorem err_ok (c : Int) (w : World) (h1 : 1 ≤ c) (h2 : c ≤ 8) : Calls Tryz.prog 27 #[.int .i64 c] w fun e w' => e = .returned (.agg #[.int .i64 (4), .int .i64 (0), .string ⟨#[]⟩, .bool false, .int .i64 (c)]) ∧ Below w.heap.size w w' := by
  go_enter Tryz.func27, Tryz.ntmps27
  go_wp2
  exact bodyPost_ret (v := (.agg #[.int .i64 (4), .int .i64 (0), .string ⟨#[]⟩, .bool false, .int .i64 (c)])) (by simp [results, Tryz.results27, go_sem]) rfl ⟨rfl, bal _ _⟩
theorem err_okx (c : Int) (w : World) (h1 : 1 ≤ c) (h2 : c ≤ 8) : Calls Tryz.prog 27 #[.int .i64 c] w fun e w' => e = .returned (.agg #[.int .i64 (4), .int .i64 (0), .string ⟨#[]⟩, .bool false, .int .i64 (c)]) ∧ w' = w.alloc (.cells #[.int .i64 4, .int .i64 0, .string ⟨#[]⟩, .bool false, .int .i64 c] 26) := by
  go_enter Tryz.func27, Tryz.ntmps27
  go_wp2
  exact bodyPost_ret (v := (.agg #[.int .i64 (4), .int .i64 (0), .string ⟨#[]⟩, .bool false, .int .i64 (c)])) (by simp [results, Tryz.results27, go_sem]) rfl ⟨rfl, rfl⟩
theorem err_low (c : Int) (w : World) (h1 : c < 1) : Calls Tryz.prog 27 #[.int .i64 c] w fun e w' => e = .returned (.agg #[.int .i64 (4), .int .i64 (0), .string ⟨#[]⟩, .bool false, .int .i64 (8)]) ∧ Below w.heap.size w w' := by
  go_enter Tryz.func27, Tryz.ntmps27
  go_wp2
  exact bodyPost_ret (v := (.agg #[.int .i64 (4), .int .i64 (0), .string ⟨#[]⟩, .bool false, .int .i64 (8)])) (by simp [results, Tryz.results27, go_sem]) rfl ⟨rfl, bal _ _⟩
theorem err_high (c : Int) (w : World) (h1 : 8 < c) : Calls Tryz.prog 27 #[.int .i64 c] w fun e w' => e = .returned (.agg #[.int .i64 (4), .int .i64 (0), .string ⟨#[]⟩, .bool false, .int .i64 (8)]) ∧ Below w.heap.size w w' := by
  have hd : decide (c ≤ 8) = false := by simp; omega
  go_enter Tryz.func27, Tryz.ntmps27
  go_wp2
  exact bodyPost_ret (v := (.agg #[.int .i64 (4), .int .i64 (0), .string ⟨#[]⟩, .bool false, .int .i64 (8)])) (by simp [results, Tryz.results27, go_sem]) rfl ⟨rfl, bal _ _⟩
/-- The code of a Fault that is asked for with a code. -/
def errC (c : Int) : Int := if 1 ≤ c ∧ c ≤ 8 then c else 8
theorem errC_ok {c : Int} (h1 : 1 ≤ c) (h2 : c ≤ 8) : errC c = c := if_pos ⟨h1, h2⟩
theorem errC_no {c : Int} (h : c < 1 ∨ 8 < c) : errC c = 8 := if_neg (by omega)
theorem err_any (c : Int) (w : World) : Calls Tryz.prog 27 #[.int .i64 c] w fun e w' => e = .returned (.agg #[.int .i64 (4), .int .i64 (0), .string ⟨#[]⟩, .bool false, .int .i64 (errC c)]) ∧ Below w.heap.size w w' := by
  by_cases h1 : c < 1
  · rw [errC_no (.inl h1)]; exact err_low c w h1
  by_cases h2 : 8 < c
  · rw [errC_no (.inr h2)]; exact err_high c w h2
  rw [errC_ok (by omega) (by omega)]; exact err_ok c w (by omega) (by omega)
theorem num_t (n : Int) (w : World) (hn : I64 n) (h : n ≠ (-9223372036854775808)) : Calls Tryz.prog 115 #[.int .i64 n] w fun e w' => e = .returned (.agg #[.int .i64 (1), .int .i64 (n), .string ⟨#[]⟩, .bool false, .int .i64 (0)]) ∧ Below w.heap.size w w' := by
  have hk : mayOk n = true := mayOk_t (by have := hn.1; omega)
  go_enter Tryz.func115, Tryz.ntmps115
  go_wp2_with (go_at_call 141; refine (mayAny _ _ hn).mono ?_; rw [hk]; rintro e w1 ⟨rfl, rfl⟩)
  exact bodyPost_ret (v := (.agg #[.int .i64 (1), .int .i64 (n), .string ⟨#[]⟩, .bool false, .int .i64 (0)])) (by simp [results, Tryz.results115, go_sem]) rfl ⟨rfl, bal _ _⟩
theorem num_f (n : Int) (w : World) (h : n = (-9223372036854775808)) : Calls Tryz.prog 115 #[.int .i64 n] w fun e w' => e = .returned (.agg #[.int .i64 (4), .int .i64 (0), .string ⟨#[]⟩, .bool false, .int .i64 (2)]) ∧ Below w.heap.size w w' := by
  have hn : I64 n := by subst h; exact ⟨by decide, by decide⟩
  have hk : mayOk n = false := mayOk_f h
  clear h
  go_enter Tryz.func115, Tryz.ntmps115
  go_wp2_with (first | (go_at_call 141; refine (mayAny _ _ hn).mono ?_; rw [hk]; rintro e w1 ⟨rfl, rfl⟩) | (go_at_call 27; refine (err_okx 2 _ (by decide) (by decide)).mono ?_; rintro e w1 ⟨rfl, rfl⟩))
  exact bodyPost_ret (v := (.agg #[.int .i64 (4), .int .i64 (0), .string ⟨#[]⟩, .bool false, .int .i64 (2)])) (by simp [results, Tryz.results115, go_sem]) rfl ⟨rfl, (bal _ _).alloc (by simp) _⟩
theorem rtxt (s : ByteArray) (w : World) : Calls Tryz.prog 71 #[.string s] w fun e w' => e = .returned (.agg #[.int .i64 (2), .int .i64 (0), .string s, .bool false, .int .i64 (0)]) ∧ Below w.heap.size w w' := by
  go_enter Tryz.func71, Tryz.ntmps71
  go_wp2
  exact bodyPost_ret (v := (.agg #[.int .i64 (2), .int .i64 (0), .string s, .bool false, .int .i64 (0)])) (by simp [results, Tryz.results71, go_sem]) rfl ⟨rfl, bal _ _⟩
theorem rerr_ok (c : Int) (w : World) (h1 : 1 ≤ c) (h2 : c ≤ 8) : Calls Tryz.prog 31 #[.int .i64 c] w fun e w' => e = .returned (.agg #[.int .i64 (4), .int .i64 (0), .string ⟨#[]⟩, .bool false, .int .i64 (c)]) ∧ Below w.heap.size w w' := by
  go_enter Tryz.func31, Tryz.ntmps31
  go_wp2
  exact bodyPost_ret (v := (.agg #[.int .i64 (4), .int .i64 (0), .string ⟨#[]⟩, .bool false, .int .i64 (c)])) (by simp [results, Tryz.results31, go_sem]) rfl ⟨rfl, bal _ _⟩
theorem rerr_low (c : Int) (w : World) (h1 : c < 1) : Calls Tryz.prog 31 #[.int .i64 c] w fun e w' => e = .returned (.agg #[.int .i64 (4), .int .i64 (0), .string ⟨#[]⟩, .bool false, .int .i64 (8)]) ∧ Below w.heap.size w w' := by
  go_enter Tryz.func31, Tryz.ntmps31
  go_wp2
  exact bodyPost_ret (v := (.agg #[.int .i64 (4), .int .i64 (0), .string ⟨#[]⟩, .bool false, .int .i64 (8)])) (by simp [results, Tryz.results31, go_sem]) rfl ⟨rfl, bal _ _⟩
theorem rerr_high (c : Int) (w : World) (h1 : 8 < c) : Calls Tryz.prog 31 #[.int .i64 c] w fun e w' => e = .returned (.agg #[.int .i64 (4), .int .i64 (0), .string ⟨#[]⟩, .bool false, .int .i64 (8)]) ∧ Below w.heap.size w w' := by
  have hd : decide (c ≤ 8) = false := by simp; omega
  go_enter Tryz.func31, Tryz.ntmps31
  go_wp2
  exact bodyPost_ret (v := (.agg #[.int .i64 (4), .int .i64 (0), .string ⟨#[]⟩, .bool false, .int .i64 (8)])) (by simp [results, Tryz.results31, go_sem]) rfl ⟨rfl, bal _ _⟩
theorem rerr_any (c : Int) (w : World) : Calls Tryz.prog 31 #[.int .i64 c] w fun e w' => e = .returned (.agg #[.int .i64 (4), .int .i64 (0), .string ⟨#[]⟩, .bool false, .int .i64 (errC c)]) ∧ Below w.heap.size w w' := by
  by_cases h1 : c < 1
  · rw [errC_no (.inl h1)]; exact rerr_low c w h1
  by_cases h2 : 8 < c
  · rw [errC_no (.inr h2)]; exact rerr_high c w h2
  rw [errC_ok (by omega) (by omega)]; exact rerr_ok c w (by omega) (by omega)
theorem rnum_t (n : Int) (w : World) (hn : I64 n) (h : n ≠ (-9223372036854775808)) : Calls Tryz.prog 62 #[.int .i64 n] w fun e w' => e = .returned (.agg #[.int .i64 (1), .int .i64 (n), .string ⟨#[]⟩, .bool false, .int .i64 (0)]) ∧ Below w.heap.size w w' := by
  have hk : mayOk n = true := mayOk_t (by have := hn.1; omega)
  go_enter Tryz.func62, Tryz.ntmps62
  go_wp2_with (go_at_call 74; refine (rmayAny _ _ hn).mono ?_; rw [hk]; rintro e w1 ⟨rfl, rfl⟩)
  exact bodyPost_ret (v := (.agg #[.int .i64 (1), .int .i64 (n), .string ⟨#[]⟩, .bool false, .int .i64 (0)])) (by simp [results, Tryz.results62, go_sem]) rfl ⟨rfl, bal _ _⟩
theorem rnum_f (n : Int) (w : World) (h : n = (-9223372036854775808)) : Calls Tryz.prog 62 #[.int .i64 n] w fun e w' => e = .returned (.agg #[.int .i64 (4), .int .i64 (0), .string ⟨#[]⟩, .bool false, .int .i64 (2)]) ∧ Below w.heap.size w w' := by
  have hn : I64 n := by subst h; exact ⟨by decide, by decide⟩
  have hk : mayOk n = false := mayOk_f h
  clear h
  go_enter Tryz.func62, Tryz.ntmps62
  go_wp2_with (go_at_call 74; refine (rmayAny _ _ hn).mono ?_; rw [hk]; rintro e w1 ⟨rfl, rfl⟩)
  exact bodyPost_ret (v := (.agg #[.int .i64 (4), .int .i64 (0), .string ⟨#[]⟩, .bool false, .int .i64 (2)])) (by simp [results, Tryz.results62, go_sem]) rfl ⟨rfl, bal _ _⟩
end Go.Proofs.YtcgcnpcimfaecaaGreatDoor
