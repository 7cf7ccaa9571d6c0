/- The document's small functions on bytes and words (digit, letter, part, word, Meant, wrong), in the words of the program's. New memory alone is made. The condition: a text of less than 4294967281 bytes. -/
import Derived.Test.YtaamphdihmghhaaGreatDoorQLGLE
namespace Go.Proofs.YtaamphdihmghhaaGreatDoor
open Go.Shelf Go.RowKit
set_option linter.all false
theorem dg_iff (c : UInt8) : DG.contains c = (decide (48 ≤ c.toNat) && decide (c.toNat ≤ 57)) := by
  rw [Bool.eq_iff_iff]; simp [DG, ← UInt8.toNat_inj]; omega
theorem lt_iff (c : UInt8) : LT.contains c = (decide (65 ≤ c.toNat) && decide (c.toNat ≤ 90)) := by
  rw [Bool.eq_iff_iff]; simp [LT, ← UInt8.toNat_inj]; omega
theorem wd_iff (c : UInt8) : WD.contains c = (DG.contains c || (LT.contains c || decide (c.toNat = 95))) := by
  rw [dg_iff, lt_iff, Bool.eq_iff_iff]; simp [WD, ← UInt8.toNat_inj]; omega
theorem nb_iff (c : UInt8) : NB.contains c = (DG.contains c || decide (c.toNat = 46)) := by
  rw [dg_iff, Bool.eq_iff_iff]; simp [NB, ← UInt8.toNat_inj]; omega
theorem rdigit (c : UInt8) (w : World) : Calls Tryz.prog 16 #[.int .u8 c.toNat] w fun e w' => e = .returned (.bool (DG.contains c)) ∧ Below w.heap.size w w' := by
  rw [dg_iff]
  have h1 : decide (48 ≤ c.toNat) = decide ((48 : Int) ≤ (c.toNat : Int)) := decide_eq_decide.2 (by omega)
  have h2 : decide (c.toNat ≤ 57) = decide ((c.toNat : Int) ≤ 57) := decide_eq_decide.2 (by omega)
  rw [h1, h2]
  by_cases h : (48 : Int) ≤ (c.toNat : Int)
  · go_enter Tryz.func16, Tryz.ntmps16
    go_wp2
    go_ret
    exact ⟨by apply retB; first | (simp [h]; done) | (simp [h]; omega), Below.refl _ _⟩
  · go_enter Tryz.func16, Tryz.ntmps16
    go_wp2
    go_ret
    exact ⟨by apply retB; first | (simp [h]; done) | (simp [h]; omega), Below.refl _ _⟩
theorem rletter (c : UInt8) (w : World) : Calls Tryz.prog 20 #[.int .u8 c.toNat] w fun e w' => e = .returned (.bool (LT.contains c)) ∧ Below w.heap.size w w' := by
  rw [lt_iff]
  have h1 : decide (65 ≤ c.toNat) = decide ((65 : Int) ≤ (c.toNat : Int)) := decide_eq_decide.2 (by omega)
  have h2 : decide (c.toNat ≤ 90) = decide ((c.toNat : Int) ≤ 90) := decide_eq_decide.2 (by omega)
  rw [h1, h2]
  by_cases h : (65 : Int) ≤ (c.toNat : Int)
  · go_enter Tryz.func20, Tryz.ntmps20
    go_wp2
    go_ret
    exact ⟨by apply retB; first | (simp [h]; done) | (simp [h]; omega), Below.refl _ _⟩
  · go_enter Tryz.func20, Tryz.ntmps20
    go_wp2
    go_ret
    exact ⟨by apply retB; first | (simp [h]; done) | (simp [h]; omega), Below.refl _ _⟩
theorem rpart (c : UInt8) (w : World) : Calls Tryz.prog 59 #[.int .u8 c.toNat] w fun e w' => e = .returned (.bool (WD.contains c)) ∧ Below w.heap.size w w' := by
  rw [wd_iff]
  have h3 : decide (c.toNat = 95) = ((c.toNat : Int) == 95) := by rw [Bool.eq_iff_iff]; simp; omega
  rw [h3]
  have hd := fun w => rdigit c w
  have hl := fun w => rletter c w
  revert hd hl
  generalize DG.contains c = b1
  generalize LT.contains c = b2
  intro hd hl
  cases b1
  · cases b2
    · go_enter Tryz.func59, Tryz.ntmps59
      go_wp2_with (first | (go_at_call 16; first | (refine (hd _).mono ?_; clear hd; rintro e w1 ⟨rfl, hb⟩; have hB : Below w.heap.size w w1 := bup (by with_reducible (repeat' first | assumption | exact Below.refl _ _ | refine Below.drew ?_ | refine Below.setCell ?_ (by first | exact Nat.le_refl _ | (simp; done) | (simp; omega) | omega) _ | refine Below.alloc ?_ (by first | exact Nat.le_refl _ | (simp; done) | (simp; omega) | omega) _)) hb; clear hb)) | (go_at_call 20; first | (refine (hl _).mono ?_; clear hl; rintro e w1 ⟨rfl, hb⟩; have hB : Below w.heap.size w w1 := bup (by with_reducible (repeat' first | assumption | exact Below.refl _ _ | refine Below.drew ?_ | refine Below.setCell ?_ (by first | exact Nat.le_refl _ | (simp; done) | (simp; omega) | omega) _ | refine Below.alloc ?_ (by first | exact Nat.le_refl _ | (simp; done) | (simp; omega) | omega) _)) hb; clear hb)))
      go_ret
      exact ⟨by apply retB; simp, by assumption⟩
    · go_enter Tryz.func59, Tryz.ntmps59
      go_wp2_with (first | (go_at_call 16; first | (refine (hd _).mono ?_; clear hd; rintro e w1 ⟨rfl, hb⟩; have hB : Below w.heap.size w w1 := bup (by with_reducible (repeat' first | assumption | exact Below.refl _ _ | refine Below.drew ?_ | refine Below.setCell ?_ (by first | exact Nat.le_refl _ | (simp; done) | (simp; omega) | omega) _ | refine Below.alloc ?_ (by first | exact Nat.le_refl _ | (simp; done) | (simp; omega) | omega) _)) hb; clear hb)) | (go_at_call 20; first | (refine (hl _).mono ?_; clear hl; rintro e w1 ⟨rfl, hb⟩; have hB : Below w.heap.size w w1 := bup (by with_reducible (repeat' first | assumption | exact Below.refl _ _ | refine Below.drew ?_ | refine Below.setCell ?_ (by first | exact Nat.le_refl _ | (simp; done) | (simp; omega) | omega) _ | refine Below.alloc ?_ (by first | exact Nat.le_refl _ | (simp; done) | (simp; omega) | omega) _)) hb; clear hb)))
      go_ret
      exact ⟨by apply retB; simp, by assumption⟩
  · go_enter Tryz.func59, Tryz.ntmps59
    go_wp2_with (first | (go_at_call 16; first | (refine (hd _).mono ?_; clear hd; rintro e w1 ⟨rfl, hb⟩; have hB : Below w.heap.size w w1 := bup (by with_reducible (repeat' first | assumption | exact Below.refl _ _ | refine Below.drew ?_ | refine Below.setCell ?_ (by first | exact Nat.le_refl _ | (simp; done) | (simp; omega) | omega) _ | refine Below.alloc ?_ (by first | exact Nat.le_refl _ | (simp; done) | (simp; omega) | omega) _)) hb; clear hb)) | (go_at_call 20; first | (refine (hl _).mono ?_; clear hl; rintro e w1 ⟨rfl, hb⟩; have hB : Below w.heap.size w w1 := bup (by with_reducible (repeat' first | assumption | exact Below.refl _ _ | refine Below.drew ?_ | refine Below.setCell ?_ (by first | exact Nat.le_refl _ | (simp; done) | (simp; omega) | omega) _ | refine Below.alloc ?_ (by first | exact Nat.le_refl _ | (simp; done) | (simp; omega) | omega) _)) hb; clear hb)))
    go_ret
    exact ⟨by apply retB; simp, by assumption⟩
theorem run_yes {l cs : List UInt8} {i : Nat} (hi : i < l.length) (h : cs.contains l[i] = true) : runL (l.drop i) cs = 1 + runL (l.drop (i + 1)) cs := by
  unfold runL; rw [List.drop_eq_getElem_cons hi, List.takeWhile_cons, h]; simp; omega
theorem run_no {l cs : List UInt8} {i : Nat} (hi : i < l.length) (h : cs.contains l[i] = false) : runL (l.drop i) cs = 0 := by
  unfold runL; rw [List.drop_eq_getElem_cons hi, List.takeWhile_cons, h]; rfl
theorem run_out {l cs : List UInt8} {i : Nat} (hi : ¬ i < l.length) : runL (l.drop i) cs = 0 := by
  rw [List.drop_of_length_le (by omega)]; rfl
theorem byte_at (s : ByteArray) (i : Nat) (h : i < s.size) (h' : i < s.data.toList.length) : s.data.toList[i] = s[i] := rfl
theorem rword (s : ByteArray) (a : Nat) (w : World) (hs : s.size < 4294967281) (ha : a ≤ s.size) :
    Calls Tryz.prog 35 #[.string s, .int .i64 a] w fun e w' => e = .returned (.int .i64 ((a + runL (s.data.toList.drop a) WD : Nat) : Int)) ∧ Below w.heap.size w w' := by
  obtain ⟨R, hR⟩ : ∃ R, a + runL (s.data.toList.drop a) WD = R := ⟨_, rfl⟩
  rw [hR]
  have HR : Hid (a + runL (s.data.toList.drop a) WD = R) := hR
  clear hR
  go_enter Tryz.func35, Tryz.ntmps35
  go_wp2
  go_loopw [1] (fun v w' => ∃ i : Nat, v = .int .i64 i ∧ i ≤ s.size ∧ Hid (i + runL (s.data.toList.drop i) WD = R) ∧ Below w.heap.size w w') (fun v _ => s.size - (intOf v).toNat)
  case atStart => exact ⟨a, rfl, ha, HR, Below.refl _ _⟩
  case round =>
    obtain ⟨i, rfl, hi, hN, hB⟩ := hrel
    by_cases hlt : i < s.size
    · have hlt' : (i : Int) < s.size := by omega
      have hll : i < s.data.toList.length := by rw [← size_len]; exact hlt
      cases hp : WD.contains s[i]
      · have e := run_no (cs := WD) hll (by rw [byte_at s i hlt hll]; exact hp)
        have hN' : Hid (i = R) := by show _ = _; have := hN.out; omega
        have hq := fun w => rpart s[i] w
        rw [hp] at hq
        clear hN e
        go_wp2_with (go_at_call 59; first | (refine (hq _).mono ?_; clear hq; rintro e w1 ⟨rfl, hb⟩; have hB : Below w.heap.size w w1 := bup (by with_reducible (repeat' first | assumption | exact Below.refl _ _ | refine Below.drew ?_ | refine Below.setCell ?_ (by first | exact Nat.le_refl _ | (simp; done) | (simp; omega) | omega) _ | refine Below.alloc ?_ (by first | exact Nat.le_refl _ | (simp; done) | (simp; omega) | omega) _)) hb; clear hb))
        go_ret
        exact ⟨by apply ret1; have := hN'.out; omega, by assumption⟩
      · have e := run_yes (cs := WD) hll (by rw [byte_at s i hlt hll]; exact hp)
        have HN : Hid (i + 1 + runL (s.data.toList.drop (i + 1)) WD = R) := by show _ = _; have := hN.out; omega
        have hq := fun w => rpart s[i] w
        rw [hp] at hq
        clear hN e
        go_wp2_with (go_at_call 59; first | (refine (hq _).mono ?_; clear hq; rintro e w1 ⟨rfl, hb⟩; have hB : Below w.heap.size w w1 := bup (by with_reducible (repeat' first | assumption | exact Below.refl _ _ | refine Below.drew ?_ | refine Below.setCell ?_ (by first | exact Nat.le_refl _ | (simp; done) | (simp; omega) | omega) _ | refine Below.alloc ?_ (by first | exact Nat.le_refl _ | (simp; done) | (simp; omega) | omega) _)) hb; clear hb))
        exact ⟨⟨i + 1, by go_num, by omega, HN, by assumption⟩, by simp [intOf]; omega⟩
    · have hlt' : ¬ (i : Int) < s.size := by omega
      have e := run_out (cs := WD) (l := s.data.toList) (i := i) (by rw [← size_len]; exact hlt)
      have hN' : Hid (i = R) := by show _ = _; have := hN.out; omega
      clear hN e
      go_wp2
      go_ret
      exact ⟨by apply ret1; have := hN'.out; omega, by assumption⟩
theorem rwrong (a : Nat) (w : World) : Calls Tryz.prog 33 #[.int .i64 a] w fun e w' => e = .returned (.tuple #[(.agg #[.int .i64 (tkSet (tk0 8) a).kind, .int .i64 (tkSet (tk0 8) a).at', .int .i64 (tkSet (tk0 8) a).num, .string (tkSet (tk0 8) a).str, .int .i64 (tkSet (tk0 8) a).c0, .int .i64 (tkSet (tk0 8) a).c1, .int .i64 (tkSet (tk0 8) a).r0, .int .i64 (tkSet (tk0 8) a).r1, .int .i64 (tkSet (tk0 8) a).r2, .int .i64 (tkSet (tk0 8) a).r3, .int .i64 (tkSet (tk0 8) a).code]), .int .i64 a]) ∧ Below w.heap.size w w' := by
  go_enter Tryz.func33, Tryz.ntmps33
  go_wp2
  have o0 : Own (w.alloc (.cells #[.int .i64 8, .int .i64 a, .int .i64 0, .string ⟨#[]⟩, .int .i64 0, .int .i64 0, .int .i64 0, .int .i64 0, .int .i64 0, .int .i64 0, .int .i64 0] 37)) w.heap.size #[.int .i64 8, .int .i64 a, .int .i64 0, .string ⟨#[]⟩, .int .i64 0, .int .i64 0, .int .i64 0, .int .i64 0, .int .i64 0, .int .i64 0, .int .i64 0] := Own.new _ _ _
  have c0 := o0.cell
  have f0 := o0.fro
  have l0 := o0.lt
  exact bodyPost_ret (v := .tuple #[(.agg #[.int .i64 (tkSet (tk0 8) a).kind, .int .i64 (tkSet (tk0 8) a).at', .int .i64 (tkSet (tk0 8) a).num, .string (tkSet (tk0 8) a).str, .int .i64 (tkSet (tk0 8) a).c0, .int .i64 (tkSet (tk0 8) a).c1, .int .i64 (tkSet (tk0 8) a).r0, .int .i64 (tkSet (tk0 8) a).r1, .int .i64 (tkSet (tk0 8) a).r2, .int .i64 (tkSet (tk0 8) a).r3, .int .i64 (tkSet (tk0 8) a).code]), .int .i64 a]) (by simp [results, Tryz.results33, go_sem, c0, f0, l0, tk0, tkSet]) rfl ⟨rfl, bal _ _⟩
end Go.Proofs.YtaamphdihmghhaaGreatDoor
