/- Contracts of the document's answers May, Neg, Add, Sub (package orielref01) in the same words as those of package dec. The arguments are int64. · Contracts of Num, Txt, Truth, Err, May (of package value and of the document's answer): of every argument the same value; new memory alone is made. No condition but that the integers are int64. -/
import Derived.Test.YtfpbcokfianjaaaGreatQShelfASums
import Derived.Laws.StructEq
import Derived.Laws.NewBlocks
import Derived.Deep.RegionWith
namespace Go.Proofs.YtfpbcokfianjaaaGreat
open Go.RowKit Go.Shelf
set_option linter.unusedVariables false
theorem rmayAny (x : Int) (w : World) (hx : I64 x) : Calls Tryz.prog 37 #[.int .i64 x] w fun e w' => e = .returned (.bool (mayOk x)) ∧ w' = w := by
  obtain ⟨hx1, hx2⟩ := hx
  by_cases hB : x = -9223372036854775808
  · rw [mayOk_f hB]
    go_enter Tryz.func37, Tryz.ntmps37
    go_wp2
    go_ret
    exact ⟨rfl, rfl⟩
  · have hb3 : -9223372036854775807 ≤ x := by omega
    rw [mayOk_t hb3]
    go_enter Tryz.func37, Tryz.ntmps37
    go_wp2
    go_ret
    exact ⟨rfl, rfl⟩
theorem radd_aMin (a b : Int) (w : World) (ha : a = -9223372036854775808) : Calls Tryz.prog 105 #[.int .i64 a, .int .i64 b] w fun e w' => e = .returned (.tuple #[.int .i64 0, .int .i64 2]) ∧ w' = w := by
  go_enter Tryz.func105, Tryz.ntmps105
  go_wp2
  go_ret2
  exact ⟨ret2 (by omega) rfl, rfl⟩
theorem radd_bMin (a b : Int) (w : World) (ha : -9223372036854775807 ≤ a) (hb : b = -9223372036854775808) : Calls Tryz.prog 105 #[.int .i64 a, .int .i64 b] w fun e w' => e = .returned (.tuple #[.int .i64 0, .int .i64 2]) ∧ w' = w := by
  go_enter Tryz.func105, Tryz.ntmps105
  go_wp2
  go_ret2
  exact ⟨ret2 (by omega) rfl, rfl⟩
theorem radd_pp (a b : Int) (w : World) (ha1 : -9223372036854775807 ≤ a) (ha2 : a ≤ 9223372036854775807) (hb1 : -9223372036854775807 ≤ b) (hb2 : b ≤ 9223372036854775807)(ha0 : 0 ≤ a) (hb0 : 0 ≤ b)(hs : a + b ≤ 9223372036854775807) : Calls Tryz.prog 105 #[.int .i64 a, .int .i64 b] w fun e w' => e = .returned (.tuple #[.int .i64 (a + b), .int .i64 0]) ∧ w' = w := by
  go_enter Tryz.func105, Tryz.ntmps105
  go_wp2
  go_ret2
  exact ⟨ret2 (by omega) rfl, rfl⟩
theorem radd_pp_bad (a b : Int) (w : World) (ha1 : -9223372036854775807 ≤ a) (ha2 : a ≤ 9223372036854775807) (hb1 : -9223372036854775807 ≤ b) (hb2 : b ≤ 9223372036854775807)(ha0 : 0 ≤ a) (hb0 : 0 ≤ b)(hs : 9223372036854775807 < a + b) : Calls Tryz.prog 105 #[.int .i64 a, .int .i64 b] w fun e w' => e = .returned (.tuple #[.int .i64 0, .int .i64 2]) ∧ w' = w := by
  go_enter Tryz.func105, Tryz.ntmps105
  go_wp2
  go_ret2
  exact ⟨ret2 (by omega) rfl, rfl⟩
theorem radd_nn (a b : Int) (w : World) (ha1 : -9223372036854775807 ≤ a) (ha2 : a ≤ 9223372036854775807) (hb1 : -9223372036854775807 ≤ b) (hb2 : b ≤ 9223372036854775807)(ha0 : a < 0) (hb0 : b < 0)(hs : -9223372036854775807 ≤ a + b) : Calls Tryz.prog 105 #[.int .i64 a, .int .i64 b] w fun e w' => e = .returned (.tuple #[.int .i64 (a + b), .int .i64 0]) ∧ w' = w := by
  go_enter Tryz.func105, Tryz.ntmps105
  go_wp2
  go_ret2
  exact ⟨ret2 (by omega) rfl, rfl⟩
theorem radd_nn_bad (a b : Int) (w : World) (ha1 : -9223372036854775807 ≤ a) (ha2 : a ≤ 9223372036854775807) (hb1 : -9223372036854775807 ≤ b) (hb2 : b ≤ 9223372036854775807)(ha0 : a < 0) (hb0 : b < 0)(hs : a + b < -9223372036854775807) : Calls Tryz.prog 105 #[.int .i64 a, .int .i64 b] w fun e w' => e = .returned (.tuple #[.int .i64 0, .int .i64 2]) ∧ w' = w := by
  go_enter Tryz.func105, Tryz.ntmps105
  go_wp2
  go_ret2
  exact ⟨ret2 (by omega) rfl, rfl⟩
theorem radd_np0 (a b : Int) (w : World) (ha1 : -9223372036854775807 ≤ a) (ha2 : a ≤ 9223372036854775807) (hb1 : -9223372036854775807 ≤ b) (hb2 : b ≤ 9223372036854775807)(ha0 : a < 0) (hb0 : 0 ≤ b)(hs : a + b ≤ 0) : Calls Tryz.prog 105 #[.int .i64 a, .int .i64 b] w fun e w' => e = .returned (.tuple #[.int .i64 (a + b), .int .i64 0]) ∧ w' = w := by
  go_enter Tryz.func105, Tryz.ntmps105
  go_wp2
  go_ret2
  exact ⟨ret2 (by omega) rfl, rfl⟩
theorem radd_np1 (a b : Int) (w : World) (ha1 : -9223372036854775807 ≤ a) (ha2 : a ≤ 9223372036854775807) (hb1 : -9223372036854775807 ≤ b) (hb2 : b ≤ 9223372036854775807)(ha0 : a < 0) (hb0 : 0 ≤ b)(hs : 0 < a + b) : Calls Tryz.prog 105 #[.int .i64 a, .int .i64 b] w fun e w' => e = .returned (.tuple #[.int .i64 (a + b), .int .i64 0]) ∧ w' = w := by
  go_enter Tryz.func105, Tryz.ntmps105
  go_wp2
  go_ret2
  exact ⟨ret2 (by omega) rfl, rfl⟩
theorem radd_pn0 (a b : Int) (w : World) (ha1 : -9223372036854775807 ≤ a) (ha2 : a ≤ 9223372036854775807) (hb1 : -9223372036854775807 ≤ b) (hb2 : b ≤ 9223372036854775807)(ha0 : 0 ≤ a) (hb0 : b < 0)(hs : a + b < 0) : Calls Tryz.prog 105 #[.int .i64 a, .int .i64 b] w fun e w' => e = .returned (.tuple #[.int .i64 (a + b), .int .i64 0]) ∧ w' = w := by
  go_enter Tryz.func105, Tryz.ntmps105
  go_wp2
  go_ret2
  exact ⟨ret2 (by omega) rfl, rfl⟩
theorem radd_pn1 (a b : Int) (w : World) (ha1 : -9223372036854775807 ≤ a) (ha2 : a ≤ 9223372036854775807) (hb1 : -9223372036854775807 ≤ b) (hb2 : b ≤ 9223372036854775807)(ha0 : 0 ≤ a) (hb0 : b < 0)(hs : 0 ≤ a + b) : Calls Tryz.prog 105 #[.int .i64 a, .int .i64 b] w fun e w' => e = .returned (.tuple #[.int .i64 (a + b), .int .i64 0]) ∧ w' = w := by
  go_enter Tryz.func105, Tryz.ntmps105
  go_wp2
  go_ret2
  exact ⟨ret2 (by omega) rfl, rfl⟩
/-- The document's Add, of any two int64. -/
theorem radd_any (a b : Int) (w : World) (ha : I64 a) (hb : I64 b) : Calls Tryz.prog 105 #[.int .i64 a, .int .i64 b] w fun e w' => e = .returned (.tuple #[.int .i64 (okV (addOk a b) (a + b)), .int .i64 (okC (addOk a b))]) ∧ w' = w := by
  obtain ⟨ha1, ha2⟩ := ha
  obtain ⟨hb1, hb2⟩ := hb
  by_cases hbad : a = -9223372036854775808 ∨ b = -9223372036854775808 ∨ a + b < -9223372036854775807 ∨ 9223372036854775807 < a + b
  · rw [okV_f (addOk_f hbad), okC_f (addOk_f hbad)]
    by_cases hA : a = -9223372036854775808
    · exact radd_aMin a b w hA
    by_cases hB : b = -9223372036854775808
    · exact radd_bMin a b w (by omega) hB
    by_cases hs : 9223372036854775807 < a + b
    · exact radd_pp_bad a b w (by omega) ha2 (by omega) hb2 (by omega) (by omega) hs
    · exact radd_nn_bad a b w (by omega) ha2 (by omega) hb2 (by omega) (by omega) (by omega)
  · have hok := addOk_t (a := a) (b := b) (by omega) (by omega) (by omega) (by omega)
    rw [okV_t hok, okC_t hok]
    by_cases hA : a < 0
    · by_cases hB : b < 0
      · exact radd_nn a b w (by omega) ha2 (by omega) hb2 hA hB (by omega)
      by_cases hs : a + b ≤ 0
      · exact radd_np0 a b w (by omega) ha2 (by omega) hb2 hA (by omega) hs
      · exact radd_np1 a b w (by omega) ha2 (by omega) hb2 hA (by omega) (by omega)
    · by_cases hB : b < 0
      · by_cases hs : a + b < 0
        · exact radd_pn0 a b w (by omega) ha2 (by omega) hb2 (by omega) hB hs
        · exact radd_pn1 a b w (by omega) ha2 (by omega) hb2 (by omega) hB (by omega)
      · exact radd_pp a b w (by omega) ha2 (by omega) hb2 (by omega) (by omega) (by omega)
theorem rsub_any (a b : Int) (w : World) (ha : I64 a) (hb : I64 b) : Calls Tryz.prog 73 #[.int .i64 a, .int .i64 b] w fun e w' => e = .returned (.tuple #[.int .i64 (okV (subOk a b) (a - b)), .int .i64 (okC (subOk a b))]) ∧ w' = w := by
  obtain ⟨ha1, ha2⟩ := ha
  obtain ⟨hb1, hb2⟩ := hb
  by_cases hA : a = -9223372036854775808
  · rw [okV_f (subOk_f (.inl hA)), okC_f (subOk_f (.inl hA))]
    go_enter Tryz.func73, Tryz.ntmps73
    go_wp2
    go_ret2
    exact ⟨rfl, rfl⟩
  have ha3 : -9223372036854775807 ≤ a := by omega
  by_cases hB : b = -9223372036854775808
  · rw [okV_f (subOk_f (.inr (.inl hB))), okC_f (subOk_f (.inr (.inl hB)))]
    go_enter Tryz.func73, Tryz.ntmps73
    go_wp2
    go_ret2
    exact ⟨rfl, rfl⟩
  · have hb3 : -9223372036854775807 ≤ b := by omega
    go_enter Tryz.func73, Tryz.ntmps73
    go_wp2_with (first | (go_at_call 37; refine (rmayAny _ _ ⟨by omega, by omega⟩).mono ?_; rintro e w' ⟨rfl, rfl⟩; rw [mayOk_t (by omega)]) | (go_at_call 105; refine (radd_any a (-b) _ ⟨ha1, ha2⟩ ⟨by omega, by omega⟩).mono ?_; rintro e w' ⟨rfl, rfl⟩))
    go_ret2
    exact ⟨ret2 (by rw [subOk_add ha1 hb3 hb2, Int.sub_eq_add_neg]) (by rw [subOk_add ha1 hb3 hb2]), rfl⟩
end Go.Proofs.YtfpbcokfianjaaaGreat
namespace Go.Proofs.YtfpbcokfianjaaaGreat
open Go.RowKit
set_option linter.all false
theorem bcell {W w1 : World} (hb : Below W.heap.size W w1) : (∀ b o, b < W.heap.size → w1.cell? ⟨b, o, none⟩ = W.cell? ⟨b, o, none⟩) := fun b o h => hb.cell (p := ⟨b, o, none⟩) h
theorem bal (w : World) (o : Obj) : Below w.heap.size w (w.alloc o) := (Below.refl _ _).alloc (Nat.le_refl _) _
theorem bup {w W w1 : World} (h : Below w.heap.size w W) (hb : Below W.heap.size W w1) : Below w.heap.size w w1 := h.trans (hb.mono h.size)
/-- Whether two values are the same in all fields. -/
def sameB (t n : Int) (s : ByteArray) (b : Bool) (c : Int) (t' n' : Int) (s' : ByteArray) (b' : Bool) (c' : Int) : Bool := decide (t = t' ∧ n = n' ∧ s = s' ∧ b = b' ∧ c = c')
theorem toList_inj {s s' : ByteArray} (h : s.toList = s'.toList) : s = s' := by
  rw [ByteArray.toList_eq, ByteArray.toList_eq] at h
  obtain ⟨⟨x⟩⟩ := s
  obtain ⟨⟨y⟩⟩ := s'
  simp at h
  rw [h]
theorem eqv (t n : Int) (s : ByteArray) (b : Bool) (c : Int) (t' n' : Int) (s' : ByteArray) (b' : Bool) (c' : Int) (w : World) : (binOp .eql 26 (.agg #[.int .i64 (t), .int .i64 (n), .string s, .bool b, .int .i64 (c)]) (.agg #[.int .i64 (t'), .int .i64 (n'), .string s', .bool b', .int .i64 (c')])).run Tryz.prog w = .ok (.bool (sameB t n s b c t' n' s' b' c')) w := by
  rw [run_eql_struct, run_equalIn_agg w 9999 26 _ _ (by kernel_rfl) (by kernel_rfl)]
  unfold sameB
  go_simp
  by_cases h1 : t = t'
  · by_cases h2 : n = n'
    · by_cases h3 : s = s'
      · by_cases h4 : b = b'
        · by_cases h5 : c = c' <;> simp [h1, h2, h3, h4, h5]
        · simp [h1, h2, h3, h4]
      · have h3' : ¬ s.toList = s'.toList := fun h => h3 (toList_inj h)
        simp [h1, h2, h3, h3']
    · simp [h1, h2]
  · simp [h1]
/-- A value that may be. -/
def mayB (t n : Int) (s : ByteArray) (b : Bool) (c : Int) : Bool := decide ((t ≠ 1 → n = 0) ∧ (t ≠ 2 → s = ⟨#[]⟩) ∧ (t ≠ 3 → b = false) ∧ (t ≠ 4 → c = 0) ∧ 0 ≤ t ∧ t ≤ 4 ∧ (t = 1 → n ≠ (-9223372036854775808)) ∧ (t = 4 → 1 ≤ c ∧ c ≤ 8))
theorem txt (s : ByteArray) (w : World) : Calls Tryz.prog 119 #[.string s] w fun e w' => e = .returned (.agg #[.int .i64 (2), .int .i64 (0), .string s, .bool false, .int .i64 (0)]) ∧ Below w.heap.size w w' := by
  go_enter Tryz.func119, Tryz.ntmps119
  go_wp2
  exact bodyPost_ret (v := (.agg #[.int .i64 (2), .int .i64 (0), .string s, .bool false, .int .i64 (0)])) (by simp [results, Tryz.results119, go_sem]) rfl ⟨rfl, bal _ _⟩
theorem truth (b : Bool) (w : World) : Calls Tryz.prog 101 #[.bool b] w fun e w' => e = .returned (.agg #[.int .i64 (3), .int .i64 (0), .string ⟨#[]⟩, .bool b, .int .i64 (0)]) ∧ Below w.heap.size w w' := by
  go_enter Tryz.func101, Tryz.ntmps101
  go_wp2
  exact bodyPost_ret (v := (.agg #[.int .i64 (3), .int .i64 (0), .string ⟨#[]⟩, .bool b, .int .i64 (0)])) (by simp [results, Tryz.results101, go_sem]) rfl ⟨rfl, bal _ _⟩
theorem err_ok (c : Int) (w : World) (h1 : 1 ≤ c) (h2 : c ≤ 8) : Calls Tryz.prog 9 #[.int .i64 c] w fun e w' => e = .returned (.agg #[.int .i64 (4), .int .i64 (0), .string ⟨#[]⟩, .bool false, .int .i64 (c)]) ∧ Below w.heap.size w w' := by
  go_enter Tryz.func9, Tryz.ntmps9
  go_wp2
  exact bodyPost_ret (v := (.agg #[.int .i64 (4), .int .i64 (0), .string ⟨#[]⟩, .bool false, .int .i64 (c)])) (by simp [results, Tryz.results9, go_sem]) rfl ⟨rfl, bal _ _⟩
theorem err_okx (c : Int) (w : World) (h1 : 1 ≤ c) (h2 : c ≤ 8) : Calls Tryz.prog 9 #[.int .i64 c] w fun e w' => e = .returned (.agg #[.int .i64 (4), .int .i64 (0), .string ⟨#[]⟩, .bool false, .int .i64 (c)]) ∧ w' = w.alloc (.cells #[.int .i64 4, .int .i64 0, .string ⟨#[]⟩, .bool false, .int .i64 c] 26) := by
  go_enter Tryz.func9, Tryz.ntmps9
  go_wp2
  exact bodyPost_ret (v := (.agg #[.int .i64 (4), .int .i64 (0), .string ⟨#[]⟩, .bool false, .int .i64 (c)])) (by simp [results, Tryz.results9, go_sem]) rfl ⟨rfl, rfl⟩
theorem err_low (c : Int) (w : World) (h1 : c < 1) : Calls Tryz.prog 9 #[.int .i64 c] w fun e w' => e = .returned (.agg #[.int .i64 (4), .int .i64 (0), .string ⟨#[]⟩, .bool false, .int .i64 (8)]) ∧ Below w.heap.size w w' := by
  go_enter Tryz.func9, Tryz.ntmps9
  go_wp2
  exact bodyPost_ret (v := (.agg #[.int .i64 (4), .int .i64 (0), .string ⟨#[]⟩, .bool false, .int .i64 (8)])) (by simp [results, Tryz.results9, go_sem]) rfl ⟨rfl, bal _ _⟩
theorem err_high (c : Int) (w : World) (h1 : 8 < c) : Calls Tryz.prog 9 #[.int .i64 c] w fun e w' => e = .returned (.agg #[.int .i64 (4), .int .i64 (0), .string ⟨#[]⟩, .bool false, .int .i64 (8)]) ∧ Below w.heap.size w w' := by
  have hd : decide (c ≤ 8) = false := by simp; omega
  go_enter Tryz.func9, Tryz.ntmps9
  go_wp2
  exact bodyPost_ret (v := (.agg #[.int .i64 (4), .int .i64 (0), .string ⟨#[]⟩, .bool false, .int .i64 (8)])) (by simp [results, Tryz.results9, go_sem]) rfl ⟨rfl, bal _ _⟩
/-- The code of a Fault that is asked for with a code. -/
def errC (c : Int) : Int := if 1 ≤ c ∧ c ≤ 8 then c else 8
theorem errC_ok {c : Int} (h1 : 1 ≤ c) (h2 : c ≤ 8) : errC c = c := if_pos ⟨h1, h2⟩
theorem errC_no {c : Int} (h : c < 1 ∨ 8 < c) : errC c = 8 := if_neg (by omega)
theorem err_any (c : Int) (w : World) : Calls Tryz.prog 9 #[.int .i64 c] w fun e w' => e = .returned (.agg #[.int .i64 (4), .int .i64 (0), .string ⟨#[]⟩, .bool false, .int .i64 (errC c)]) ∧ Below w.heap.size w w' := by
  by_cases h1 : c < 1
  · rw [errC_no (.inl h1)]; exact err_low c w h1
  by_cases h2 : 8 < c
  · rw [errC_no (.inr h2)]; exact err_high c w h2
  rw [errC_ok (by omega) (by omega)]; exact err_ok c w (by omega) (by omega)
theorem num_t (n : Int) (w : World) (hn : I64 n) (h : n ≠ (-9223372036854775808)) : Calls Tryz.prog 83 #[.int .i64 n] w fun e w' => e = .returned (.agg #[.int .i64 (1), .int .i64 (n), .string ⟨#[]⟩, .bool false, .int .i64 (0)]) ∧ Below w.heap.size w w' := by
  have hk : mayOk n = true := mayOk_t (by have := hn.1; omega)
  go_enter Tryz.func83, Tryz.ntmps83
  go_wp2_with (go_at_call 109; refine (mayAny _ _ hn).mono ?_; rw [hk]; rintro e w1 ⟨rfl, rfl⟩)
  exact bodyPost_ret (v := (.agg #[.int .i64 (1), .int .i64 (n), .string ⟨#[]⟩, .bool false, .int .i64 (0)])) (by simp [results, Tryz.results83, go_sem]) rfl ⟨rfl, bal _ _⟩
theorem num_f (n : Int) (w : World) (h : n = (-9223372036854775808)) : Calls Tryz.prog 83 #[.int .i64 n] w fun e w' => e = .returned (.agg #[.int .i64 (4), .int .i64 (0), .string ⟨#[]⟩, .bool false, .int .i64 (2)]) ∧ Below w.heap.size w w' := by
  have hn : I64 n := by subst h; exact ⟨by decide, by decide⟩
  have hk : mayOk n = false := mayOk_f h
  clear h
  go_enter Tryz.func83, Tryz.ntmps83
  go_wp2_with (first | (go_at_call 109; refine (mayAny _ _ hn).mono ?_; rw [hk]; rintro e w1 ⟨rfl, rfl⟩) | (go_at_call 9; refine (err_okx 2 _ (by decide) (by decide)).mono ?_; rintro e w1 ⟨rfl, rfl⟩))
  exact bodyPost_ret (v := (.agg #[.int .i64 (4), .int .i64 (0), .string ⟨#[]⟩, .bool false, .int .i64 (2)])) (by simp [results, Tryz.results83, go_sem]) rfl ⟨rfl, (bal _ _).alloc (by simp) _⟩
theorem rerr_ok (c : Int) (w : World) (h1 : 1 ≤ c) (h2 : c ≤ 8) : Calls Tryz.prog 14 #[.int .i64 c] w fun e w' => e = .returned (.agg #[.int .i64 (4), .int .i64 (0), .string ⟨#[]⟩, .bool false, .int .i64 (c)]) ∧ Below w.heap.size w w' := by
  go_enter Tryz.func14, Tryz.ntmps14
  go_wp2
  exact bodyPost_ret (v := (.agg #[.int .i64 (4), .int .i64 (0), .string ⟨#[]⟩, .bool false, .int .i64 (c)])) (by simp [results, Tryz.results14, go_sem]) rfl ⟨rfl, bal _ _⟩
theorem rerr_low (c : Int) (w : World) (h1 : c < 1) : Calls Tryz.prog 14 #[.int .i64 c] w fun e w' => e = .returned (.agg #[.int .i64 (4), .int .i64 (0), .string ⟨#[]⟩, .bool false, .int .i64 (8)]) ∧ Below w.heap.size w w' := by
  go_enter Tryz.func14, Tryz.ntmps14
  go_wp2
  exact bodyPost_ret (v := (.agg #[.int .i64 (4), .int .i64 (0), .string ⟨#[]⟩, .bool false, .int .i64 (8)])) (by simp [results, Tryz.results14, go_sem]) rfl ⟨rfl, bal _ _⟩
theorem rerr_high (c : Int) (w : World) (h1 : 8 < c) : Calls Tryz.prog 14 #[.int .i64 c] w fun e w' => e = .returned (.agg #[.int .i64 (4), .int .i64 (0), .string ⟨#[]⟩, .bool false, .int .i64 (8)]) ∧ Below w.heap.size w w' := by
  have hd : decide (c ≤ 8) = false := by simp; omega
  go_enter Tryz.func14, Tryz.ntmps14
  go_wp2
  exact bodyPost_ret (v := (.agg #[.int .i64 (4), .int .i64 (0), .string ⟨#[]⟩, .bool false, .int .i64 (8)])) (by simp [results, Tryz.results14, go_sem]) rfl ⟨rfl, bal _ _⟩
theorem rerr_any (c : Int) (w : World) : Calls Tryz.prog 14 #[.int .i64 c] w fun e w' => e = .returned (.agg #[.int .i64 (4), .int .i64 (0), .string ⟨#[]⟩, .bool false, .int .i64 (errC c)]) ∧ Below w.heap.size w w' := by
  by_cases h1 : c < 1
  · rw [errC_no (.inl h1)]; exact rerr_low c w h1
  by_cases h2 : 8 < c
  · rw [errC_no (.inr h2)]; exact rerr_high c w h2
  rw [errC_ok (by omega) (by omega)]; exact rerr_ok c w (by omega) (by omega)
end Go.Proofs.YtfpbcokfianjaaaGreat
