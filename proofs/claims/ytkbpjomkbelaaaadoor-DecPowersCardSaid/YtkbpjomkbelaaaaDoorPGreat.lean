/- The contract of the document's great: a number in words of four digits. New memory alone is made. -/
import Derived.Test.YtkbpjomkbelaaaaDoorPMem
import Derived.OwnWalk
namespace Go.Proofs.YtkbpjomkbelaaaaDoor
open Go.Shelf Go.RowKit
set_option linter.all false
theorem infoInt : (Tryd.prog.info? 3).map (fun i => (i.zero, i.size, i.bytes)) = some (some (.int .i64 0), 1, 8) := by kernel_rfl
theorem ints_snoc (l : List Nat) (x : Nat) : ints l ++ [.int .i64 (x : Int)] = ints (l ++ [x]) := by unfold ints; simp
theorem pow_len {N m k : Nat} (h : 10000 ^ k * m ≤ N) (hm : 1 ≤ m) (hN : N < 18446744073709551616) : k ≤ 4 := by
  apply Nat.le_of_not_lt
  intro hk
  have h1 : 10000 ^ 5 ≤ 10000 ^ k := Nat.pow_le_pow_right (by decide) hk
  have h2 : 10000 ^ k * 1 ≤ 10000 ^ k * m := Nat.mul_le_mul_left _ hm
  have h3 : (10000 : Nat) ^ 5 = 100000000000000000000 := by decide
  omega
theorem wv_snoc (l : List Nat) (m : Nat) : wv (l ++ [m % 10000]) + 10000 ^ (l ++ [m % 10000]).length * (m / 10000) = wv l + 10000 ^ l.length * m := by
  rw [wv_append, List.length_append, List.length_singleton, Nat.pow_succ]
  simp only [wv, Nat.mul_zero, Nat.add_zero]
  have h : 10000 ^ l.length * m = 10000 ^ l.length * (m % 10000) + 10000 ^ l.length * 10000 * (m / 10000) := by
    rw [Nat.mul_assoc, ← Nat.mul_add, Nat.mod_add_div]
  omega
theorem IsW.of_own {w : World} {B : Nat} {v : Value} {l : List Nat} (h : w.ownsRow B 3 1 v l.length (ints l)) : IsW w v l := by
  refine ⟨h.1, ?_⟩
  rcases h.2 with h | ⟨g, cap, cur, a, b, c⟩
  · exact .inl h
  · exact .inr ⟨g, cap, cur, a, Nat.zero_le _, c⟩
theorem app_c1 (wr : World) (x : Value) (T : TypeId) : ∀ (j : Nat) (u : Value), [x][j]? = some u → (wr.alloc (.cells #[x] T)).cell? ((⟨wr.heap.size, 0, none⟩ : Addr).add j) = some u := by
  intro j u hj
  match j, hj with
  | 0, hj => simp at hj; subst hj; simp [Addr.add]
theorem app_c2 (x : Int) : ∀ u, u ∈ [Value.int .i64 x] → u.oneCell' = true := by
  intro u hu; simp at hu; subst hu; rfl
/-- What an append of one word leaves. -/
theorem app_rel {w wr w1 : World} {v v' : Value} {l : List Nat} {x : Nat} {o : Obj} (hB : Below w.heap.size w wr) (ho : wr.ownsRow w.heap.size 3 1 v l.length (ints l)) (ho' : w1.ownsRow w.heap.size 3 1 v' (l.length + 1) (ints l ++ [.int .i64 (x : Int)])) (hg : (wr.alloc o).grownBy w1 v.ownBlock) :
    w1.ownsRow w.heap.size 3 1 v' (l ++ [x]).length (ints (l ++ [x])) ∧ Below w.heap.size w w1 := by
  refine ⟨by rw [← ints_snoc, List.length_append, List.length_singleton]; exact ho', ?_⟩
  exact Below.grown (hB.alloc hB.size o) hg (by have := hB.size; simp; omega) (fun k hk => (ho.lt k hk).1)
theorem Top.snoc (l : List Nat) (x : Nat) (h : x ≠ 0) : Top (l ++ [x]) := by unfold Top; simp; exact h
set_option maxRecDepth 100000 in
set_option maxHeartbeats 1000000 in
theorem great_any (N : Nat) (w : World) (hN : N < 18446744073709551616) : Calls Tryd.prog 21 #[.int .u64 N] w fun e w' => ∃ (l : List Nat) (v : Value), e = .returned v ∧ IsW w' v l ∧ Wds l ∧ Top l ∧ wv l = N ∧ l.length ≤ 5 ∧ Below w.heap.size w w' := by
  obtain ⟨i0, hi, hz0, hz1, hz2⟩ := info_parts infoInt
  have HI := Lib.hid hi
  have HZ0 := Lib.hid hz0
  have HZ1 := Lib.hid hz1
  have HZ2 := Lib.hid hz2
  clear hi hz0 hz1 hz2
  go_enter Tryd.func21, Tryd.ntmps21
  go_wp2
  go_loopw [0, 3] (fun x v wr => ∃ (m : Nat) (l : List Nat), x = .int .u64 m ∧ wr.ownsRow w.heap.size 3 1 v l.length (ints l) ∧ Wds l ∧ N = wv l + 10000 ^ l.length * m ∧ l.length ≤ 5 ∧ (m = 0 → Top l) ∧ Below w.heap.size w wr) (fun x _ _ => (intOf x).toNat)
  case atStart => exact ⟨N, [], rfl, World.ownsRow_nil _ _ _ _, fun x hx => by simp at hx, by simp [wv], by simp, fun _ => Top.nil, Below.refl _ _⟩
  case round =>
    obtain ⟨m, l, rfl, hown, hw, hv, hl, ht, hB⟩ := hrel
    by_cases h0 : m = 0
    · have HO := Lib.hid hown
      have HT := Lib.hid (ht h0)
      have HV := Lib.hid hv
      have HW := Lib.hid hw
      have h0' : ¬ (0 : Int) < (m : Int) := by omega
      have H0 := Lib.hid h0
      clear hown ht hv hw h0
      go_wp2
      go_ret
      exact ⟨l, _, rfl, IsW.of_own HO.out, HW.out, HT.out, by rw [HV.out, H0.out]; simp, hl, hB⟩
    · have h0' : (0 : Int) < (m : Int) := by omega
      have hm64 : m ≤ N := by
        have : 1 * m ≤ 10000 ^ l.length * m := Nat.mul_le_mul_right _ (Nat.pow_pos (by decide)); omega
      have hm64' : (m : Int) < 18446744073709551616 := by omega
      have hl4 := pow_len (N := N) (m := m) (k := l.length) (by omega) (by omega) hN
      have HO := Lib.hid hown
      have HT := Lib.hid ht
      have HV := Lib.hid hv
      have HW := Lib.hid hw
      have H0 := Lib.hid h0
      clear ht hv hw h0 hown
      have x1 : (m : Int).tmod 10000 = (m : Int) % 10000 := Int.tmod_eq_emod_of_nonneg (by omega)
      have x2 : IntKind.i64.wrap ((m : Int) % 10000) = (m : Int) % 10000 := by rw [IntKind.wrap_i64]; omega
      have x3 : IntKind.u64.wrap ((m : Int) / 10000) = (m : Int) / 10000 := by rw [wrapU]; omega
      have x4 : (m : Int).tdiv 10000 = (m : Int) / 10000 := Int.tdiv_eq_ediv_of_nonneg (by omega)
      have x5 : ((m % 10000 : Nat) : Int) = (m : Int) % 10000 := by omega
      clear hm64'
      go_wp2_with (at_builtin; refine wpList_append_own _ rfl _ _ 38 rfl w.heap.size 3 i0 (.int .i64 0) 1 8 Tryd.underlying38 HI.out HZ0.out HZ1.out HZ2.out rfl (by decide) _ _ _ rfl (HO.out.alloc _) ⟨wr.heap.size, 0, none⟩ 1 1 [.int .i64 ((m : Int) % 10000)] rfl rfl (app_c1 _ _ _) (app_c2 _) (by unfold maxLen; omega) (by omega) (by have := hB.size; simp; omega) ?_; intro v' w1 hown' hgrow _)
      have R := app_rel (x := m % 10000) hB HO.out (by rw [x5]; exact hown') hgrow
      clear hown' hgrow
      go_wp2
      go_roundw
      case rel =>
        have hv := HV.out
        have hs := wv_snoc l m
        exact ⟨m / 10000, l ++ [m % 10000], by go_num, R.1, HW.out.snoc (by omega), by omega, by simp; omega, fun k => Top.snoc l _ (by have := H0.out; omega), R.2⟩
      case measure => simp [intOf]; have := H0.out; omega
end Go.Proofs.YtkbpjomkbelaaaaDoor
