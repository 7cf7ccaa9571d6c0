/- The contracts of slices.IndexFunc and slices.ContainsFunc at numbers with nums.broken, of nums.common and greatestDivisor. New memory alone is made. The condition: numbers that may be. -/
import Derived.Test.YtfpbcokfianjaaaNT6
namespace Go.Proofs.Ytfpbcokfianjaaa
open Go.RowKit
set_option linter.all false
def Ins (l : List Int) : Prop := ∀ x ∈ l, In x
def brk (x : Int) : Bool := !wholeOk x
set_option maxRecDepth 100000 in
theorem ixn_any (w : World) (b n : Nat) (l : List Int) (hb : NB w b l) (hn : l.length = n) (hN : Hid (Ins l)) (h16 : n ≤ 16) : Calls Try.prog 82 #[.slice (some ⟨b, 0, none⟩) n n, (.func (.func 68) #[] #[])] w fun e w' => (∃ r : Int, e = .returned (.int .i64 r) ∧ decide (0 ≤ r) = l.any brk) ∧ Below w.heap.size w w' := by
  have mixed : Try.prog.follows .mixedOrders = true := by kernel_rfl
  have hla := hb.lt
  have HB : Hid _ := hb
  have HL : Hid (l.length = n) := hn
  clear hb hn
  go_enter Try.func82, Try.ntmps82
  go_wp2
  go_loopw [8] (fun v w' => ∃ i : Nat, v = .int .i64 i ∧ i ≤ n ∧ Hid ((l.take i).any brk = false) ∧ ∃ m, w' = w.drewN m) (fun v _ => n - (intOf v).toNat)
  case atStart => exact ⟨0, rfl, by omega, rfl, 0, rfl⟩
  case round =>
    obtain ⟨i, rfl, hi, htk, m, rfl⟩ := hrel
    by_cases hlt : i < n
    · have hlt' : (i : Int) < n := by omega
      have hai : l[i]? = some (l[i]'(by rw [HL.out]; exact hlt)) := List.getElem?_eq_getElem _
      have hx := hN.out _ (List.mem_of_getElem? hai)
      have HAi : Hid _ := hai
      revert hx HAi
      generalize (l[i]'(by rw [HL.out]; exact hlt)) = x
      intro hx HAi
      clear hai
      have x0 := HB.out.at HAi.out
      cases hs : wholeOk x
      · have HS : Hid (brk x = true) := by rw [brk, hs]; rfl
        go_wp2_with (go_at_call 68; refine (broken_any x _ hx.i64).mono ?_; rintro e w1 ⟨rfl, rfl⟩; rw [hs])
        go_ret
        exact ⟨⟨_, rfl, by rw [any_at HAi.out HS.out]; simp⟩, by with_reducible (repeat' first | assumption | exact Below.refl _ _ | refine Below.drew ?_ | refine bdrewN ?_ _ | refine Below.setCell ?_ (by first | exact Nat.le_refl _ | (simp; done) | (simp; omega) | omega) _ | refine Below.alloc ?_ (by first | exact Nat.le_refl _ | (simp; done) | (simp; omega) | omega) _)⟩
      · have HS : Hid (brk x = false) := by rw [brk, hs]; rfl
        go_wp2_with (go_at_call 68; refine (broken_any x _ hx.i64).mono ?_; rintro e w1 ⟨rfl, rfl⟩; rw [hs])
        exact ⟨⟨i + 1, by go_num, by omega, any_take HAi.out htk.out HS.out, _, rfl⟩, by simp [intOf]; omega⟩
    · have hlt' : ¬ (i : Int) < n := by omega
      go_wp2
      go_ret
      exact ⟨⟨_, rfl, by rw [any_all (by rw [HL.out]; omega) htk.out]; rfl⟩, by with_reducible (repeat' first | assumption | exact Below.refl _ _ | refine Below.drew ?_ | refine bdrewN ?_ _ | refine Below.setCell ?_ (by first | exact Nat.le_refl _ | (simp; done) | (simp; omega) | omega) _ | refine Below.alloc ?_ (by first | exact Nat.le_refl _ | (simp; done) | (simp; omega) | omega) _)⟩
theorem contn_any (w : World) (b n : Nat) (l : List Int) (hb : NB w b l) (hn : l.length = n) (hN : Hid (Ins l)) (h16 : n ≤ 16) : Calls Try.prog 67 #[.slice (some ⟨b, 0, none⟩) n n, (.func (.func 68) #[] #[])] w fun e w' => e = .returned (.bool (l.any brk)) ∧ Below w.heap.size w w' := by
  go_enter Try.func67, Try.ntmps67
  go_wp2_with (go_at_call 82; refine (ixn_any _ _ _ _ hb hn hN h16).mono ?_; rintro e w1 ⟨⟨r, rfl, hr⟩, hb1⟩)
  go_ret
  exact ⟨retBl (by first | exact hr | (rw [← hr])), hb1⟩
/-- The greatest number that divides both. -/
def gcdI (a b : Int) : Int := (Nat.gcd a.natAbs b.natAbs : Nat)
theorem gcd_step (a b : Int) : gcdI b (a.tmod b) = gcdI a b := by
  unfold gcdI
  rw [Int.natAbs_tmod, Nat.gcd_comm a.natAbs, Nat.gcd_rec b.natAbs a.natAbs, Nat.gcd_comm]
theorem gcd_zero (a : Int) : gcdI a 0 = sz a := by unfold gcdI sz; simp
theorem tmod_in {a b : Int} (hb : In b) (h0 : b ≠ 0) : In (a.tmod b) ∧ (a.tmod b).natAbs < b.natAbs := by
  have h := tmod_bd a b h0
  obtain ⟨h1, h2⟩ := hb
  refine ⟨⟨?_, ?_⟩, h⟩ <;> omega
set_option maxRecDepth 100000 in
theorem common_any (a b : Int) (w : World) (ha : In a) (hb : In b) : Calls Try.prog 69 #[.int .i64 a, .int .i64 b] w fun e w' => e = .returned (.int .i64 (gcdI a b)) ∧ Below w.heap.size w w' := by
  have mixed : Try.prog.follows .mixedOrders = true := by kernel_rfl
  go_enter Try.func69, Try.ntmps69
  go_wp2
  go_loopw [0, 1] (fun v u w' => ∃ x y : Int, v = .int .i64 x ∧ u = .int .i64 y ∧ Hid (In x) ∧ Hid (In y) ∧ Hid (gcdI x y = gcdI a b) ∧ Below w.heap.size w w') (fun _ u _ => (intOf u).natAbs)
  case atStart => exact ⟨a, b, rfl, rfl, ha, hb, rfl, Below.refl _ _⟩
  case round =>
    obtain ⟨x, y, rfl, rfl, hx, hy, hg, hB3⟩ := hrel
    by_cases h0 : y = 0
    · subst h0
      go_wp2_with (go_at_call 55; refine (nsize_any _ _ hx.out).mono ?_; rintro e w1 ⟨rfl, rfl⟩)
      go_ret
      exact ⟨ret1 (by rw [← hg.out, gcd_zero]), by with_reducible (repeat' first | assumption | exact Below.refl _ _ | refine Below.drew ?_ | refine bdrewN ?_ _ | refine Below.setCell ?_ (by first | exact Nat.le_refl _ | (simp; done) | (simp; omega) | omega) _ | refine Below.alloc ?_ (by first | exact Nat.le_refl _ | (simp; done) | (simp; omega) | omega) _)⟩
    · have hz : (y != 0) = true := by simp; exact h0
      have hz2 : (y == 0) = false := by simp; exact h0
      have hr := tmod_in (a := x) hy.out h0
      have hst : Hid _ := gcd_step x y
      revert hr hst
      generalize hgr : x.tmod y = r
      intro hr hst
      have hw : wrap64 r = r := by obtain ⟨⟨h1, h2⟩, _⟩ := hr; unfold wrap64; omega
      have HR : Hid _ := hr
      clear hr
      go_wp2
      go_quiet (fail)
      go_wp2
      exact ⟨⟨y, r, rfl, rfl, hy, HR.out.1, (hst.out.trans hg.out), by with_reducible (repeat' first | assumption | exact Below.refl _ _ | refine Below.drew ?_ | refine bdrewN ?_ _ | refine Below.setCell ?_ (by first | exact Nat.le_refl _ | (simp; done) | (simp; omega) | omega) _ | refine Below.alloc ?_ (by first | exact Nat.le_refl _ | (simp; done) | (simp; omega) | omega) _)⟩, HR.out.2⟩
end Go.Proofs.Ytfpbcokfianjaaa
