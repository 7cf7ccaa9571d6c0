/- The document's sign, in the words of the program's readers. New memory alone is made. The condition: a text of less than 4294967281 bytes; a byte stands there. · What stands in quotes, in plain lists: the text that is read byte by byte, a pair of quotes as one, is what replacing the pairs makes of it. No walk. -/
import Derived.Test.YtaamphdihmghhaaGreatDoorQRL1
import Derived.Test.YtaamphdihmghhaaGreatDoorQLGLE
import Derived.Lib.Replace
namespace Go.Proofs.YtaamphdihmghhaaGreatDoor
open Go.Shelf Go.RowKit
set_option linter.all false
set_option maxHeartbeats 1000000 in
theorem rsign_2 (s : ByteArray) (a : Nat) (w : World) (hs : s.size < 4294967281) (ha : a + 1 < s.size) (b1 b2 b3 : Bool) (h1 : ((s.extract a (a + 2)).toList == [60, 62]) = b1) (h2 : ((s.extract a (a + 2)).toList == [60, 61]) = b2) (h3 : ((s.extract a (a + 2)).toList == [62, 61]) = b3) (hb : (b1 || (b2 || b3)) = true) :
    Calls Tryz.prog 22 #[.string s, .int .i64 a] w fun e w' => e = .returned (.tuple #[(.agg #[.int .i64 (tkSet (tkStr 7 (s.extract a (a + 2))) a).kind, .int .i64 (tkSet (tkStr 7 (s.extract a (a + 2))) a).at', .int .i64 (tkSet (tkStr 7 (s.extract a (a + 2))) a).num, .string (tkSet (tkStr 7 (s.extract a (a + 2))) a).str, .int .i64 (tkSet (tkStr 7 (s.extract a (a + 2))) a).c0, .int .i64 (tkSet (tkStr 7 (s.extract a (a + 2))) a).c1, .int .i64 (tkSet (tkStr 7 (s.extract a (a + 2))) a).r0, .int .i64 (tkSet (tkStr 7 (s.extract a (a + 2))) a).r1, .int .i64 (tkSet (tkStr 7 (s.extract a (a + 2))) a).r2, .int .i64 (tkSet (tkStr 7 (s.extract a (a + 2))) a).r3, .int .i64 (tkSet (tkStr 7 (s.extract a (a + 2))) a).code]), .int .i64 (a + 2 : Nat)]) ∧ Below w.heap.size w w' := by
  have ha' : (a : Int) + 1 < s.size := by omega
  have ha2 : (a : Int) + 2 ≤ s.size := by omega
  cases b1
  · cases b2
    · cases b3
      · simp at hb
      · clear hb
        go_enter Tryz.func22, Tryz.ntmps22
        go_wp2
        have o0 : Own (w.alloc (.cells #[.int .i64 7, .int .i64 a, .int .i64 0, .string (s.extract a (a + 2)), .int .i64 0, .int .i64 0, .int .i64 0, .int .i64 0, .int .i64 0, .int .i64 0, .int .i64 0] 37)) w.heap.size #[.int .i64 7, .int .i64 a, .int .i64 0, .string (s.extract a (a + 2)), .int .i64 0, .int .i64 0, .int .i64 0, .int .i64 0, .int .i64 0, .int .i64 0, .int .i64 0] := Own.new _ _ _
        have c0 := o0.cell
        have f0 := o0.fro
        have l0 := o0.lt
        exact bodyPost_ret (v := .tuple #[(.agg #[.int .i64 (tkSet (tkStr 7 (s.extract a (a + 2))) a).kind, .int .i64 (tkSet (tkStr 7 (s.extract a (a + 2))) a).at', .int .i64 (tkSet (tkStr 7 (s.extract a (a + 2))) a).num, .string (tkSet (tkStr 7 (s.extract a (a + 2))) a).str, .int .i64 (tkSet (tkStr 7 (s.extract a (a + 2))) a).c0, .int .i64 (tkSet (tkStr 7 (s.extract a (a + 2))) a).c1, .int .i64 (tkSet (tkStr 7 (s.extract a (a + 2))) a).r0, .int .i64 (tkSet (tkStr 7 (s.extract a (a + 2))) a).r1, .int .i64 (tkSet (tkStr 7 (s.extract a (a + 2))) a).r2, .int .i64 (tkSet (tkStr 7 (s.extract a (a + 2))) a).r3, .int .i64 (tkSet (tkStr 7 (s.extract a (a + 2))) a).code]), .int .i64 (a + 2 : Nat)]) (by simp [results, Tryz.results22, go_sem, c0, f0, l0, tkStr, tkSet]) rfl ⟨rfl, by with_reducible (repeat' first | assumption | exact Below.refl _ _ | refine Below.drew ?_ | refine Below.setCell ?_ (by first | exact Nat.le_refl _ | (simp; done) | (simp; omega) | omega) _ | refine Below.alloc ?_ (by first | exact Nat.le_refl _ | (simp; done) | (simp; omega) | omega) _)⟩
    · clear hb
      go_enter Tryz.func22, Tryz.ntmps22
      go_wp2
      have o0 : Own (w.alloc (.cells #[.int .i64 7, .int .i64 a, .int .i64 0, .string (s.extract a (a + 2)), .int .i64 0, .int .i64 0, .int .i64 0, .int .i64 0, .int .i64 0, .int .i64 0, .int .i64 0] 37)) w.heap.size #[.int .i64 7, .int .i64 a, .int .i64 0, .string (s.extract a (a + 2)), .int .i64 0, .int .i64 0, .int .i64 0, .int .i64 0, .int .i64 0, .int .i64 0, .int .i64 0] := Own.new _ _ _
      have c0 := o0.cell
      have f0 := o0.fro
      have l0 := o0.lt
      exact bodyPost_ret (v := .tuple #[(.agg #[.int .i64 (tkSet (tkStr 7 (s.extract a (a + 2))) a).kind, .int .i64 (tkSet (tkStr 7 (s.extract a (a + 2))) a).at', .int .i64 (tkSet (tkStr 7 (s.extract a (a + 2))) a).num, .string (tkSet (tkStr 7 (s.extract a (a + 2))) a).str, .int .i64 (tkSet (tkStr 7 (s.extract a (a + 2))) a).c0, .int .i64 (tkSet (tkStr 7 (s.extract a (a + 2))) a).c1, .int .i64 (tkSet (tkStr 7 (s.extract a (a + 2))) a).r0, .int .i64 (tkSet (tkStr 7 (s.extract a (a + 2))) a).r1, .int .i64 (tkSet (tkStr 7 (s.extract a (a + 2))) a).r2, .int .i64 (tkSet (tkStr 7 (s.extract a (a + 2))) a).r3, .int .i64 (tkSet (tkStr 7 (s.extract a (a + 2))) a).code]), .int .i64 (a + 2 : Nat)]) (by simp [results, Tryz.results22, go_sem, c0, f0, l0, tkStr, tkSet]) rfl ⟨rfl, by with_reducible (repeat' first | assumption | exact Below.refl _ _ | refine Below.drew ?_ | refine Below.setCell ?_ (by first | exact Nat.le_refl _ | (simp; done) | (simp; omega) | omega) _ | refine Below.alloc ?_ (by first | exact Nat.le_refl _ | (simp; done) | (simp; omega) | omega) _)⟩
  · clear hb
    go_enter Tryz.func22, Tryz.ntmps22
    go_wp2
    have o0 : Own (w.alloc (.cells #[.int .i64 7, .int .i64 a, .int .i64 0, .string (s.extract a (a + 2)), .int .i64 0, .int .i64 0, .int .i64 0, .int .i64 0, .int .i64 0, .int .i64 0, .int .i64 0] 37)) w.heap.size #[.int .i64 7, .int .i64 a, .int .i64 0, .string (s.extract a (a + 2)), .int .i64 0, .int .i64 0, .int .i64 0, .int .i64 0, .int .i64 0, .int .i64 0, .int .i64 0] := Own.new _ _ _
    have c0 := o0.cell
    have f0 := o0.fro
    have l0 := o0.lt
    exact bodyPost_ret (v := .tuple #[(.agg #[.int .i64 (tkSet (tkStr 7 (s.extract a (a + 2))) a).kind, .int .i64 (tkSet (tkStr 7 (s.extract a (a + 2))) a).at', .int .i64 (tkSet (tkStr 7 (s.extract a (a + 2))) a).num, .string (tkSet (tkStr 7 (s.extract a (a + 2))) a).str, .int .i64 (tkSet (tkStr 7 (s.extract a (a + 2))) a).c0, .int .i64 (tkSet (tkStr 7 (s.extract a (a + 2))) a).c1, .int .i64 (tkSet (tkStr 7 (s.extract a (a + 2))) a).r0, .int .i64 (tkSet (tkStr 7 (s.extract a (a + 2))) a).r1, .int .i64 (tkSet (tkStr 7 (s.extract a (a + 2))) a).r2, .int .i64 (tkSet (tkStr 7 (s.extract a (a + 2))) a).r3, .int .i64 (tkSet (tkStr 7 (s.extract a (a + 2))) a).code]), .int .i64 (a + 2 : Nat)]) (by simp [results, Tryz.results22, go_sem, c0, f0, l0, tkStr, tkSet]) rfl ⟨rfl, by with_reducible (repeat' first | assumption | exact Below.refl _ _ | refine Below.drew ?_ | refine Below.setCell ?_ (by first | exact Nat.le_refl _ | (simp; done) | (simp; omega) | omega) _ | refine Below.alloc ?_ (by first | exact Nat.le_refl _ | (simp; done) | (simp; omega) | omega) _)⟩
set_option maxHeartbeats 1000000 in
theorem rsign_e (s : ByteArray) (a : Nat) (w : World) (hs : s.size < 4294967281) (haS : a < s.size) (ha : ¬ a + 1 < s.size) (T : Tk) (en : Nat) (hT : (SG.contains s[a] = true ∧ T = tkSet (tkStr 7 (s.extract a (a + 1))) a ∧ en = a + 1) ∨ (SG.contains s[a] = false ∧ T = tkSet (tk0 8) a ∧ en = a)) :
    Calls Tryz.prog 22 #[.string s, .int .i64 a] w fun e w' => e = .returned (.tuple #[(.agg #[.int .i64 T.kind, .int .i64 T.at', .int .i64 T.num, .string T.str, .int .i64 T.c0, .int .i64 T.c1, .int .i64 T.r0, .int .i64 T.r1, .int .i64 T.r2, .int .i64 T.r3, .int .i64 T.code]), .int .i64 (en : Nat)]) ∧ Below w.heap.size w w' := by
  have ha' : ¬ (a : Int) + 1 < s.size := by omega
  have HT : Hid _ := hT
  clear hT
  have haS' : (a : Int) < s.size := by omega
  have ha1 : (a : Int) + 1 ≤ s.size := by omega
  have hwr := fun w => rwrong a w
  have mixed : Tryz.prog.follows .mixedOrders = true := by kernel_rfl
  go_enter Tryz.func22, Tryz.ntmps22
  go_wp2
  go_loopw [8] (fun v w' => ∃ i : Nat, v = .int .i64 i ∧ i ≤ 12 ∧ Hid (∀ (j : Nat) (hj : j < 12), j < i → (⟨#[40, 41, 44, 43, 45, 42, 47, 37, 38, 61, 60, 62]⟩ : ByteArray)[j].toNat ≠ s[a].toNat) ∧ Below w.heap.size w w' ∧ Own w' w.heap.size #[.int .i64 (0), .int .i64 (0), .int .i64 (0), .string ⟨#[]⟩, .int .i64 (0), .int .i64 (0), .int .i64 (0), .int .i64 (0), .int .i64 (0), .int .i64 (0), .int .i64 (0)]) (fun v _ => 12 - (intOf v).toNat)
  case atStart => exact ⟨0, rfl, by omega, fun j hj h => absurd h (by omega), bal _ _, Own.new _ _ _⟩
  case round =>
    obtain ⟨i, rfl, hi, hN, hB, o0⟩ := hrel
    have c0 := o0.cell
    have f0 := o0.fro
    have l0 := o0.lt
    by_cases hlt : i < 12
    · have hlt' : (i : Int) < 12 := by omega
      by_cases hx : (⟨#[40, 41, 44, 43, 45, 42, 47, 37, 38, 61, 60, 62]⟩ : ByteArray)[i].toNat = s[a].toNat
      · have hxb : (((⟨#[40, 41, 44, 43, 45, 42, 47, 37, 38, 61, 60, 62]⟩ : ByteArray)[i].toNat : Int) == (s[a].toNat : Int)) = true := by simp; omega
        have hin : SG.contains s[a] = true := by
          have e : SG[i] = s[a] := UInt8.toNat_inj.1 hx
          rw [List.contains_eq_mem, decide_eq_true_eq, ← e]
          exact List.getElem_mem _
        obtain ⟨rfl, rfl⟩ : T = tkSet (tkStr 7 (s.extract a (a + 1))) a ∧ en = a + 1 := by
          rcases HT.out with ⟨_, h⟩ | ⟨h, _⟩
          · exact h
          · rw [hin] at h; cases h
        clear HT hin hx hN
        go_wp2
        go_big_quiet (fail)
        go_wp2
        exact bodyPost_ret (v := .tuple #[(.agg #[.int .i64 (tkSet (tkStr 7 (s.extract a (a + 1))) a).kind, .int .i64 (tkSet (tkStr 7 (s.extract a (a + 1))) a).at', .int .i64 (tkSet (tkStr 7 (s.extract a (a + 1))) a).num, .string (tkSet (tkStr 7 (s.extract a (a + 1))) a).str, .int .i64 (tkSet (tkStr 7 (s.extract a (a + 1))) a).c0, .int .i64 (tkSet (tkStr 7 (s.extract a (a + 1))) a).c1, .int .i64 (tkSet (tkStr 7 (s.extract a (a + 1))) a).r0, .int .i64 (tkSet (tkStr 7 (s.extract a (a + 1))) a).r1, .int .i64 (tkSet (tkStr 7 (s.extract a (a + 1))) a).r2, .int .i64 (tkSet (tkStr 7 (s.extract a (a + 1))) a).r3, .int .i64 (tkSet (tkStr 7 (s.extract a (a + 1))) a).code]), .int .i64 (a + 1 : Nat)]) (by simp [results, Tryz.results22, go_sem, c0, f0, l0, tkStr, tkSet]) rfl ⟨rfl, by with_reducible (repeat' first | exact below_drewN hB _ | exact Below.refl _ _ | refine Below.drew ?_ | refine Below.setCell ?_ (by first | exact Nat.le_refl _ | (simp; done) | (simp; omega) | omega) _ | refine Below.alloc ?_ (by first | exact Nat.le_refl _ | (simp; done) | (simp; omega) | omega) _)⟩
      · have hxb : (((⟨#[40, 41, 44, 43, 45, 42, 47, 37, 38, 61, 60, 62]⟩ : ByteArray)[i].toNat : Int) == (s[a].toNat : Int)) = false := by simp; omega
        have HN : Hid (∀ (j : Nat) (hj : j < 12), j < i + 1 → (⟨#[40, 41, 44, 43, 45, 42, 47, 37, 38, 61, 60, 62]⟩ : ByteArray)[j].toNat ≠ s[a].toNat) := fun j hj h => by
          by_cases e : j = i
          · subst e; exact hx
          · exact hN.out j hj (by omega)
        clear hx hN
        go_wp2
        go_big_quiet (fail)
        go_wp2
        exact ⟨⟨i + 1, by go_num, by omega, HN, by with_reducible exact below_drewN hB _, by exact Own.of_block o0 rfl⟩, by simp [intOf]; omega⟩
    · have hlt' : ¬ (i : Int) < 12 := by omega
      have hin : SG.contains s[a] = false := by
        cases hc : SG.contains s[a]
        · rfl
        · rw [List.contains_eq_mem, decide_eq_true_eq] at hc
          obtain ⟨j, hj, e⟩ := List.mem_iff_getElem.1 hc
          exact absurd (UInt8.toNat_inj.2 e) (hN.out j hj (by have : j < 12 := hj; omega))
      obtain ⟨rfl, rfl⟩ : T = tkSet (tk0 8) a ∧ a = en := by
        rcases HT.out with ⟨h, _⟩ | ⟨_, h⟩
        · rw [hin] at h; cases h
        · exact ⟨h.1, h.2.symm⟩
      clear HT hin hN
      go_wp2_with (go_at_call 33; first | (refine (hwr _).mono ?_; clear hwr; rintro e w1 ⟨rfl, hb⟩; have hB1 : Below w.heap.size w w1 := bup (by with_reducible (repeat' first | assumption | exact Below.refl _ _ | refine Below.drew ?_ | refine Below.setCell ?_ (by first | exact Nat.le_refl _ | (simp; done) | (simp; omega) | omega) _ | refine Below.alloc ?_ (by first | exact Nat.le_refl _ | (simp; done) | (simp; omega) | omega) _)) hb; have o1 : Own w1 (w.heap.size) #[.int .i64 (0), .int .i64 (0), .int .i64 (0), .string ⟨#[]⟩, .int .i64 (0), .int .i64 (0), .int .i64 (0), .int .i64 (0), .int .i64 (0), .int .i64 (0), .int .i64 (0)] := Own.keep (by with_reducible (repeat' first | assumption | refine Own.drew ?_ | (refine Own.at ?_; first | rfl | (simp; done)) | refine Own.past ?_ _)) hb; have c0 := o1.cell; have f0 := o1.fro; have l0 := o1.lt; clear hb))
      exact bodyPost_ret (v := .tuple #[(.agg #[.int .i64 (tkSet (tk0 8) a).kind, .int .i64 (tkSet (tk0 8) a).at', .int .i64 (tkSet (tk0 8) a).num, .string (tkSet (tk0 8) a).str, .int .i64 (tkSet (tk0 8) a).c0, .int .i64 (tkSet (tk0 8) a).c1, .int .i64 (tkSet (tk0 8) a).r0, .int .i64 (tkSet (tk0 8) a).r1, .int .i64 (tkSet (tk0 8) a).r2, .int .i64 (tkSet (tk0 8) a).r3, .int .i64 (tkSet (tk0 8) a).code]), .int .i64 (a : Nat)]) (by simp [results, Tryz.results22, go_sem, c0, f0, l0, tk0, tkSet]) rfl ⟨rfl, by with_reducible (repeat' first | assumption | exact Below.refl _ _ | refine Below.drew ?_ | refine Below.setCell ?_ (by first | exact Nat.le_refl _ | (simp; done) | (simp; omega) | omega) _ | refine Below.alloc ?_ (by first | exact Nat.le_refl _ | (simp; done) | (simp; omega) | omega) _)⟩
set_option maxHeartbeats 1000000 in
theorem rsign_1 (s : ByteArray) (a : Nat) (w : World) (hs : s.size < 4294967281) (haS : a < s.size) (ha : a + 1 < s.size) (h1 : ((s.extract a (a + 2)).toList == [60, 62]) = false) (h2 : ((s.extract a (a + 2)).toList == [60, 61]) = false) (h3 : ((s.extract a (a + 2)).toList == [62, 61]) = false) (T : Tk) (en : Nat) (hT : (SG.contains s[a] = true ∧ T = tkSet (tkStr 7 (s.extract a (a + 1))) a ∧ en = a + 1) ∨ (SG.contains s[a] = false ∧ T = tkSet (tk0 8) a ∧ en = a)) :
    Calls Tryz.prog 22 #[.string s, .int .i64 a] w fun e w' => e = .returned (.tuple #[(.agg #[.int .i64 T.kind, .int .i64 T.at', .int .i64 T.num, .string T.str, .int .i64 T.c0, .int .i64 T.c1, .int .i64 T.r0, .int .i64 T.r1, .int .i64 T.r2, .int .i64 T.r3, .int .i64 T.code]), .int .i64 (en : Nat)]) ∧ Below w.heap.size w w' := by
  have ha' : (a : Int) + 1 < s.size := by omega
  have ha2 : (a : Int) + 2 ≤ s.size := by omega
  have HT : Hid _ := hT
  clear hT
  have haS' : (a : Int) < s.size := by omega
  have ha1 : (a : Int) + 1 ≤ s.size := by omega
  have hwr := fun w => rwrong a w
  have mixed : Tryz.prog.follows .mixedOrders = true := by kernel_rfl
  go_enter Tryz.func22, Tryz.ntmps22
  go_wp2
  go_loopw [8] (fun v w' => ∃ i : Nat, v = .int .i64 i ∧ i ≤ 12 ∧ Hid (∀ (j : Nat) (hj : j < 12), j < i → (⟨#[40, 41, 44, 43, 45, 42, 47, 37, 38, 61, 60, 62]⟩ : ByteArray)[j].toNat ≠ s[a].toNat) ∧ Below w.heap.size w w' ∧ Own w' w.heap.size #[.int .i64 (0), .int .i64 (0), .int .i64 (0), .string ⟨#[]⟩, .int .i64 (0), .int .i64 (0), .int .i64 (0), .int .i64 (0), .int .i64 (0), .int .i64 (0), .int .i64 (0)]) (fun v _ => 12 - (intOf v).toNat)
  case atStart => exact ⟨0, rfl, by omega, fun j hj h => absurd h (by omega), bal _ _, Own.new _ _ _⟩
  case round =>
    obtain ⟨i, rfl, hi, hN, hB, o0⟩ := hrel
    have c0 := o0.cell
    have f0 := o0.fro
    have l0 := o0.lt
    by_cases hlt : i < 12
    · have hlt' : (i : Int) < 12 := by omega
      by_cases hx : (⟨#[40, 41, 44, 43, 45, 42, 47, 37, 38, 61, 60, 62]⟩ : ByteArray)[i].toNat = s[a].toNat
      · have hxb : (((⟨#[40, 41, 44, 43, 45, 42, 47, 37, 38, 61, 60, 62]⟩ : ByteArray)[i].toNat : Int) == (s[a].toNat : Int)) = true := by simp; omega
        have hin : SG.contains s[a] = true := by
          have e : SG[i] = s[a] := UInt8.toNat_inj.1 hx
          rw [List.contains_eq_mem, decide_eq_true_eq, ← e]
          exact List.getElem_mem _
        obtain ⟨rfl, rfl⟩ : T = tkSet (tkStr 7 (s.extract a (a + 1))) a ∧ en = a + 1 := by
          rcases HT.out with ⟨_, h⟩ | ⟨h, _⟩
          · exact h
          · rw [hin] at h; cases h
        clear HT hin hx hN
        go_wp2
        go_big_quiet (fail)
        go_wp2
        exact bodyPost_ret (v := .tuple #[(.agg #[.int .i64 (tkSet (tkStr 7 (s.extract a (a + 1))) a).kind, .int .i64 (tkSet (tkStr 7 (s.extract a (a + 1))) a).at', .int .i64 (tkSet (tkStr 7 (s.extract a (a + 1))) a).num, .string (tkSet (tkStr 7 (s.extract a (a + 1))) a).str, .int .i64 (tkSet (tkStr 7 (s.extract a (a + 1))) a).c0, .int .i64 (tkSet (tkStr 7 (s.extract a (a + 1))) a).c1, .int .i64 (tkSet (tkStr 7 (s.extract a (a + 1))) a).r0, .int .i64 (tkSet (tkStr 7 (s.extract a (a + 1))) a).r1, .int .i64 (tkSet (tkStr 7 (s.extract a (a + 1))) a).r2, .int .i64 (tkSet (tkStr 7 (s.extract a (a + 1))) a).r3, .int .i64 (tkSet (tkStr 7 (s.extract a (a + 1))) a).code]), .int .i64 (a + 1 : Nat)]) (by simp [results, Tryz.results22, go_sem, c0, f0, l0, tkStr, tkSet]) rfl ⟨rfl, by with_reducible (repeat' first | exact below_drewN hB _ | exact Below.refl _ _ | refine Below.drew ?_ | refine Below.setCell ?_ (by first | exact Nat.le_refl _ | (simp; done) | (simp; omega) | omega) _ | refine Below.alloc ?_ (by first | exact Nat.le_refl _ | (simp; done) | (simp; omega) | omega) _)⟩
      · have hxb : (((⟨#[40, 41, 44, 43, 45, 42, 47, 37, 38, 61, 60, 62]⟩ : ByteArray)[i].toNat : Int) == (s[a].toNat : Int)) = false := by simp; omega
        have HN : Hid (∀ (j : Nat) (hj : j < 12), j < i + 1 → (⟨#[40, 41, 44, 43, 45, 42, 47, 37, 38, 61, 60, 62]⟩ : ByteArray)[j].toNat ≠ s[a].toNat) := fun j hj h => by
          by_cases e : j = i
          · subst e; exact hx
          · exact hN.out j hj (by omega)
        clear hx hN
        go_wp2
        go_big_quiet (fail)
        go_wp2
        exact ⟨⟨i + 1, by go_num, by omega, HN, by with_reducible exact below_drewN hB _, by exact Own.of_block o0 rfl⟩, by simp [intOf]; omega⟩
    · have hlt' : ¬ (i : Int) < 12 := by omega
      have hin : SG.contains s[a] = false := by
        cases hc : SG.contains s[a]
        · rfl
        · rw [List.contains_eq_mem, decide_eq_true_eq] at hc
          obtain ⟨j, hj, e⟩ := List.mem_iff_getElem.1 hc
          exact absurd (UInt8.toNat_inj.2 e) (hN.out j hj (by have : j < 12 := hj; omega))
      obtain ⟨rfl, rfl⟩ : T = tkSet (tk0 8) a ∧ a = en := by
        rcases HT.out with ⟨h, _⟩ | ⟨_, h⟩
        · rw [hin] at h; cases h
        · exact ⟨h.1, h.2.symm⟩
      clear HT hin hN
      go_wp2_with (go_at_call 33; first | (refine (hwr _).mono ?_; clear hwr; rintro e w1 ⟨rfl, hb⟩; have hB1 : Below w.heap.size w w1 := bup (by with_reducible (repeat' first | assumption | exact Below.refl _ _ | refine Below.drew ?_ | refine Below.setCell ?_ (by first | exact Nat.le_refl _ | (simp; done) | (simp; omega) | omega) _ | refine Below.alloc ?_ (by first | exact Nat.le_refl _ | (simp; done) | (simp; omega) | omega) _)) hb; have o1 : Own w1 (w.heap.size) #[.int .i64 (0), .int .i64 (0), .int .i64 (0), .string ⟨#[]⟩, .int .i64 (0), .int .i64 (0), .int .i64 (0), .int .i64 (0), .int .i64 (0), .int .i64 (0), .int .i64 (0)] := Own.keep (by with_reducible (repeat' first | assumption | refine Own.drew ?_ | (refine Own.at ?_; first | rfl | (simp; done)) | refine Own.past ?_ _)) hb; have c0 := o1.cell; have f0 := o1.fro; have l0 := o1.lt; clear hb))
      exact bodyPost_ret (v := .tuple #[(.agg #[.int .i64 (tkSet (tk0 8) a).kind, .int .i64 (tkSet (tk0 8) a).at', .int .i64 (tkSet (tk0 8) a).num, .string (tkSet (tk0 8) a).str, .int .i64 (tkSet (tk0 8) a).c0, .int .i64 (tkSet (tk0 8) a).c1, .int .i64 (tkSet (tk0 8) a).r0, .int .i64 (tkSet (tk0 8) a).r1, .int .i64 (tkSet (tk0 8) a).r2, .int .i64 (tkSet (tk0 8) a).r3, .int .i64 (tkSet (tk0 8) a).code]), .int .i64 (a : Nat)]) (by simp [results, Tryz.results22, go_sem, c0, f0, l0, tk0, tkSet]) rfl ⟨rfl, by with_reducible (repeat' first | assumption | exact Below.refl _ _ | refine Below.drew ?_ | refine Below.setCell ?_ (by first | exact Nat.le_refl _ | (simp; done) | (simp; omega) | omega) _ | refine Below.alloc ?_ (by first | exact Nat.le_refl _ | (simp; done) | (simp; omega) | omega) _)⟩
end Go.Proofs.YtaamphdihmghhaaGreatDoor
namespace Go.Proofs.YtaamphdihmghhaaGreatDoor
open Go.RowKit
set_option linter.all false
/-- Behind the first quote: is the text closed? -/
def qok : List UInt8 → Bool
  | [] => false
  | [c] => c == 34
  | c :: d :: t => if c = 34 then (if d = 34 then qok t else true) else qok (d :: t)
/-- Behind the first quote: the text. -/
def qtx : List UInt8 → List UInt8
  | [] => []
  | [c] => if c = 34 then [] else [c]
  | c :: d :: t => if c = 34 then (if d = 34 then 34 :: qtx t else []) else c :: qtx (d :: t)
def rall (s : List UInt8) : List UInt8 := Lib.replaceK [34, 34] [34] (Lib.count s [34, 34]) s
theorem rall_is (s : List UInt8) : Lib.replaceAll s [34, 34] [34] = rall s := by
  have e : Lib.replaceNum s [34, 34] (-1) = Lib.count s [34, 34] := by unfold Lib.replaceNum; rw [if_pos (Or.inl (by decide))]
  unfold Lib.replaceAll Lib.replace rall
  rw [e, if_neg (by decide)]
theorem rall_nil : rall [] = [] := by
  have e : Lib.index [] [34, 34] = -1 := by simp [Lib.index]
  unfold rall; rw [Lib.count_miss e]; rfl
theorem rall_pair (t : List UInt8) : rall (34 :: 34 :: t) = 34 :: rall t := by
  have e : Lib.index (34 :: 34 :: t) [34, 34] = (0 : Nat) := by simp [Lib.index, List.isPrefixOf]
  have hc := Lib.count_hit (by simp) e
  have hd : (34 :: 34 :: t).drop (0 + [(34 : UInt8), 34].length) = t := rfl
  rw [hd] at hc
  unfold rall
  rw [hc, Nat.add_comm, Lib.replaceK_hit _ _ _ _ 0 e, hd]
  rfl
theorem rall_cons (c : UInt8) (l : List UInt8) (h : [34, 34].isPrefixOf (c :: l) = false) : rall (c :: l) = c :: rall l := by
  have e : Lib.index (c :: l) [34, 34] = if Lib.index l [34, 34] == -1 then -1 else Lib.index l [34, 34] + 1 := by
    rw [Lib.index, h]; rfl
  have hge := Lib.index_ge l [34, 34]
  by_cases hm : Lib.index l [34, 34] = -1
  · rw [hm] at e
    have e' : Lib.index (c :: l) [34, 34] = -1 := e
    unfold rall
    rw [Lib.count_miss e', Lib.count_miss hm]
    rfl
  · obtain ⟨i, hi⟩ : ∃ i : Nat, Lib.index l [34, 34] = i := ⟨(Lib.index l [34, 34]).toNat, by omega⟩
    have hne : ¬ (Lib.index l [34, 34] == -1) = true := fun x => hm (beq_iff_eq.1 x)
    rw [if_neg hne, hi] at e
    have e' : Lib.index (c :: l) [34, 34] = ((i + 1 : Nat) : Int) := by rw [e]; omega
    have h1 := Lib.count_hit (by simp) hi
    have h2 := Lib.count_hit (by simp) e'
    have hd : (c :: l).drop (i + 1 + [(34 : UInt8), 34].length) = l.drop (i + [(34 : UInt8), 34].length) := by
      have : i + 1 + [(34 : UInt8), 34].length = (i + [(34 : UInt8), 34].length) + 1 := by omega
      rw [this, List.drop_succ_cons]
    rw [hd] at h2
    unfold rall
    rw [h1, h2, Nat.add_comm, Lib.replaceK_hit _ _ _ _ (i + 1) e', Lib.replaceK_hit _ _ _ _ i hi, hd]
    simp
theorem qr_pos {l : List UInt8} (h : l ≠ []) : 1 ≤ qrL l := by
  match l with
  | [] => exact absurd rfl h
  | [_] => simp [qrL]
  | c :: d :: t => simp only [qrL]; split <;> (try split) <;> omega
theorem qok_ne {l : List UInt8} (h : qok l = true) : l ≠ [] := by rintro rfl; simp [qok] at h
theorem qtx_is : ∀ r : List UInt8, qok r = true → rall (r.take (qrL r - 1)) = qtx r
  | [], h => by simp [qok] at h
  | [c], h => by
    have hc : c = 34 := by simpa [qok] using h
    subst hc
    simp [qrL, qtx, rall_nil]
  | c :: d :: t, h => by
    by_cases hc : c = 34
    · subst hc
      by_cases hd : d = 34
      · subst hd
        have hq : qok t = true := by simpa [qok] using h
        have ih := qtx_is t hq
        have hp := qr_pos (qok_ne hq)
        have e : qrL (34 :: 34 :: t) - 1 = (qrL t - 1) + 1 + 1 := by simp [qrL]; omega
        rw [e, List.take_succ_cons, List.take_succ_cons, rall_pair, ih]
        simp [qtx]
      · simp [qrL, hd, qtx, rall_nil]
    · have hq : qok (d :: t) = true := by simpa [qok, hc] using h
      have ih := qtx_is (d :: t) hq
      have hp := qr_pos (qok_ne hq)
      have e : qrL (c :: d :: t) - 1 = (qrL (d :: t) - 1) + 1 := by simp [qrL, hc]; omega
      have hn : ∀ l, [34, 34].isPrefixOf (c :: l) = false := fun l => by
        have : (34 == c) = false := by simp; exact fun e => hc e.symm
        simp [List.isPrefixOf, this]
      rw [e, List.take_succ_cons, rall_cons _ _ (hn _), ih]
      simp [qtx, hc]
theorem qok_is : ∀ r : List UInt8, ((r.take (qrL r)).count 34 % 2 = 1 ↔ qok r = true)
  | [] => by simp [qrL, qok]
  | [c] => by
    by_cases hc : c = 34
    · subst hc; simp [qrL, qok]
    · simp [qrL, qok, hc, List.count_cons]
  | c :: d :: t => by
    by_cases hc : c = 34
    · subst hc
      by_cases hd : d = 34
      · subst hd
        have ih := qok_is t
        have e : qrL (34 :: 34 :: t) = qrL t + 1 + 1 := by simp [qrL]; omega
        have e2 : qok (34 :: 34 :: t) = qok t := by simp [qok]
        rw [e, List.take_succ_cons, List.take_succ_cons, e2, ← ih, List.count_cons_self, List.count_cons_self]
        omega
      · simp [qrL, hd, qok]
    · have ih := qok_is (d :: t)
      have e : qrL (c :: d :: t) = qrL (d :: t) + 1 := by simp [qrL, hc]; omega
      have e2 : qok (c :: d :: t) = qok (d :: t) := by simp [qok, hc]
      rw [e, List.take_succ_cons, e2, ← ih, List.count_cons_of_ne hc]
/-- What is read of a quoted piece, its first quote ahead. -/
theorem rdQ_is (r : List UInt8) : rdQ (34 :: r.take (qrL r)) = if qok r then tkStr 2 (bs (qtx r)) else tk0 8 := by
  have hle := qrL_le r
  have hc : Lib.countByte (34 :: r.take (qrL r)) 34 = (r.take (qrL r)).count 34 + 1 := by unfold Lib.countByte; rw [List.count_cons_self]
  have hk := qok_is r
  unfold rdQ
  rw [hc]
  cases hq : qok r
  · rw [hq] at hk
    rw [if_neg (by intro h; exact absurd (hk.1 (by omega)) (by simp))]
    rfl
  · rw [hq] at hk
    have h1 := hk.2 rfl
    have hl : (34 :: r.take (qrL r)).length - 2 = qrL r - 1 := by rw [List.length_cons, List.length_take]; omega
    rw [if_pos (by omega), hl, List.drop_succ_cons, List.drop_zero, List.take_take, rall_is, show min (qrL r - 1) (qrL r) = qrL r - 1 by omega, qtx_is r hq]
    rfl
theorem q_byte {l : List UInt8} {i : Nat} (hi : i < l.length) (h : ¬ l[i] = 34) : qtx (l.drop i) = l[i] :: qtx (l.drop (i + 1)) ∧ qrL (l.drop i) = 1 + qrL (l.drop (i + 1)) ∧ qok (l.drop i) = qok (l.drop (i + 1)) := by
  rw [List.drop_eq_getElem_cons hi]
  cases hd : l.drop (i + 1) with
  | nil => simp [qtx, qrL, qok, h]
  | cons d t => simp [qtx, qrL, qok, h]
theorem q_pair {l : List UInt8} {i : Nat} (hi : i + 1 < l.length) (h : l[i] = 34) (h' : l[i + 1] = 34) : qtx (l.drop i) = 34 :: qtx (l.drop (i + 2)) ∧ qrL (l.drop i) = 2 + qrL (l.drop (i + 2)) ∧ qok (l.drop i) = qok (l.drop (i + 2)) := by
  rw [List.drop_eq_getElem_cons (show i < l.length by omega), List.drop_eq_getElem_cons hi, h, h']
  simp [qtx, qrL, qok]
theorem q_shut {l : List UInt8} {i : Nat} (hi : i < l.length) (h : l[i] = 34) (h' : ∀ (x : i + 1 < l.length), ¬ l[i + 1] = 34) : qtx (l.drop i) = [] ∧ qrL (l.drop i) = 1 ∧ qok (l.drop i) = true := by
  rw [List.drop_eq_getElem_cons hi, h]
  by_cases hx : i + 1 < l.length
  · rw [List.drop_eq_getElem_cons hx]
    simp [qtx, qrL, qok, h' hx]
  · rw [List.drop_of_length_le (by omega)]
    simp [qtx, qrL, qok]
theorem q_out {l : List UInt8} {i : Nat} (hi : ¬ i < l.length) : qok (l.drop i) = false := by
  rw [List.drop_of_length_le (by omega)]; rfl
end Go.Proofs.YtaamphdihmghhaaGreatDoor
