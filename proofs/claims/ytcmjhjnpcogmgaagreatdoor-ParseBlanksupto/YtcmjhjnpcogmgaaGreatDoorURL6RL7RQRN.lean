/- The document's sign, in the words of the program's readers -/
import Derived.Test.YtcmjhjnpcogmgaaGreatDoorUAuto
import Derived.Test.YtcmjhjnpcogmgaaGreatDoorURL1RL2RL3RL4
import Derived.Test.YtcmjhjnpcogmgaaGreatDoorULELHLJZB
import Derived.Lib.Replace
import Derived.Test.YtcmjhjnpcogmgaaGreatDoorULIpLI2p
set_option linter.all false
set_option maxRecDepth 100000
set_option maxHeartbeats 4000000
namespace Go.Proofs.YtcmjhjnpcogmgaaGreatDoor
open Go.Shelf Go.RowKit
theorem rsign_2 (s : ByteArray) (a : Nat) (w : World) (hs : s.size < 4294967281) (ha : a + 1 < s.size) (b1 b2 b3 : Bool) (h1 : ((s.extract a (a + 2)).toList == [60, 62]) = b1) (h2 : ((s.extract a (a + 2)).toList == [60, 61]) = b2) (h3 : ((s.extract a (a + 2)).toList == [62, 61]) = b3) (hb : (b1 || (b2 || b3)) = true) :
    Calls Tryz.prog 45 #[.string s, .int .i64 a] w fun e w' => e = .returned (.tuple #[(.agg #[.int .i64 (tkSet (tkStr 7 (s.extract a (a + 2))) a).kind, .int .i64 (tkSet (tkStr 7 (s.extract a (a + 2))) a).at', .int .i64 (tkSet (tkStr 7 (s.extract a (a + 2))) a).num, .string (tkSet (tkStr 7 (s.extract a (a + 2))) a).str, .int .i64 (tkSet (tkStr 7 (s.extract a (a + 2))) a).c0, .int .i64 (tkSet (tkStr 7 (s.extract a (a + 2))) a).c1, .int .i64 (tkSet (tkStr 7 (s.extract a (a + 2))) a).r0, .int .i64 (tkSet (tkStr 7 (s.extract a (a + 2))) a).r1, .int .i64 (tkSet (tkStr 7 (s.extract a (a + 2))) a).r2, .int .i64 (tkSet (tkStr 7 (s.extract a (a + 2))) a).r3, .int .i64 (tkSet (tkStr 7 (s.extract a (a + 2))) a).code]), .int .i64 (a + 2 : Nat)]) ∧ Below w.heap.size w w' := by
  have ha' : (a : Int) + 1 < s.size := by omega
  have ha2 : (a : Int) + 2 ≤ s.size := by omega
  cases b1
  · cases b2
    · cases b3
      · simp at hb
      · clear hb
        go_enter Tryz.func45, Tryz.ntmps45
        go_wp2
        have o0 : Own (w.alloc (.cells #[.int .i64 7, .int .i64 a, .int .i64 0, .string (s.extract a (a + 2)), .int .i64 0, .int .i64 0, .int .i64 0, .int .i64 0, .int .i64 0, .int .i64 0, .int .i64 0] 43)) w.heap.size #[.int .i64 7, .int .i64 a, .int .i64 0, .string (s.extract a (a + 2)), .int .i64 0, .int .i64 0, .int .i64 0, .int .i64 0, .int .i64 0, .int .i64 0, .int .i64 0] := Own.new _ _ _
        have c0 := o0.cell
        have f0 := o0.fro
        have l0 := o0.lt
        exact bodyPost_ret (v := .tuple #[(.agg #[.int .i64 (tkSet (tkStr 7 (s.extract a (a + 2))) a).kind, .int .i64 (tkSet (tkStr 7 (s.extract a (a + 2))) a).at', .int .i64 (tkSet (tkStr 7 (s.extract a (a + 2))) a).num, .string (tkSet (tkStr 7 (s.extract a (a + 2))) a).str, .int .i64 (tkSet (tkStr 7 (s.extract a (a + 2))) a).c0, .int .i64 (tkSet (tkStr 7 (s.extract a (a + 2))) a).c1, .int .i64 (tkSet (tkStr 7 (s.extract a (a + 2))) a).r0, .int .i64 (tkSet (tkStr 7 (s.extract a (a + 2))) a).r1, .int .i64 (tkSet (tkStr 7 (s.extract a (a + 2))) a).r2, .int .i64 (tkSet (tkStr 7 (s.extract a (a + 2))) a).r3, .int .i64 (tkSet (tkStr 7 (s.extract a (a + 2))) a).code]), .int .i64 (a + 2 : Nat)]) (by simp [results, Tryz.results45, go_sem, c0, f0, l0, tkStr, tkSet]) rfl ⟨rfl, zq2⟩
    · clear hb
      go_enter Tryz.func45, Tryz.ntmps45
      go_wp2
      have o0 : Own (w.alloc (.cells #[.int .i64 7, .int .i64 a, .int .i64 0, .string (s.extract a (a + 2)), .int .i64 0, .int .i64 0, .int .i64 0, .int .i64 0, .int .i64 0, .int .i64 0, .int .i64 0] 43)) w.heap.size #[.int .i64 7, .int .i64 a, .int .i64 0, .string (s.extract a (a + 2)), .int .i64 0, .int .i64 0, .int .i64 0, .int .i64 0, .int .i64 0, .int .i64 0, .int .i64 0] := Own.new _ _ _
      have c0 := o0.cell
      have f0 := o0.fro
      have l0 := o0.lt
      exact bodyPost_ret (v := .tuple #[(.agg #[.int .i64 (tkSet (tkStr 7 (s.extract a (a + 2))) a).kind, .int .i64 (tkSet (tkStr 7 (s.extract a (a + 2))) a).at', .int .i64 (tkSet (tkStr 7 (s.extract a (a + 2))) a).num, .string (tkSet (tkStr 7 (s.extract a (a + 2))) a).str, .int .i64 (tkSet (tkStr 7 (s.extract a (a + 2))) a).c0, .int .i64 (tkSet (tkStr 7 (s.extract a (a + 2))) a).c1, .int .i64 (tkSet (tkStr 7 (s.extract a (a + 2))) a).r0, .int .i64 (tkSet (tkStr 7 (s.extract a (a + 2))) a).r1, .int .i64 (tkSet (tkStr 7 (s.extract a (a + 2))) a).r2, .int .i64 (tkSet (tkStr 7 (s.extract a (a + 2))) a).r3, .int .i64 (tkSet (tkStr 7 (s.extract a (a + 2))) a).code]), .int .i64 (a + 2 : Nat)]) (by simp [results, Tryz.results45, go_sem, c0, f0, l0, tkStr, tkSet]) rfl ⟨rfl, zq2⟩
  · clear hb
    go_enter Tryz.func45, Tryz.ntmps45
    go_wp2
    have o0 : Own (w.alloc (.cells #[.int .i64 7, .int .i64 a, .int .i64 0, .string (s.extract a (a + 2)), .int .i64 0, .int .i64 0, .int .i64 0, .int .i64 0, .int .i64 0, .int .i64 0, .int .i64 0] 43)) w.heap.size #[.int .i64 7, .int .i64 a, .int .i64 0, .string (s.extract a (a + 2)), .int .i64 0, .int .i64 0, .int .i64 0, .int .i64 0, .int .i64 0, .int .i64 0, .int .i64 0] := Own.new _ _ _
    have c0 := o0.cell
    have f0 := o0.fro
    have l0 := o0.lt
    exact bodyPost_ret (v := .tuple #[(.agg #[.int .i64 (tkSet (tkStr 7 (s.extract a (a + 2))) a).kind, .int .i64 (tkSet (tkStr 7 (s.extract a (a + 2))) a).at', .int .i64 (tkSet (tkStr 7 (s.extract a (a + 2))) a).num, .string (tkSet (tkStr 7 (s.extract a (a + 2))) a).str, .int .i64 (tkSet (tkStr 7 (s.extract a (a + 2))) a).c0, .int .i64 (tkSet (tkStr 7 (s.extract a (a + 2))) a).c1, .int .i64 (tkSet (tkStr 7 (s.extract a (a + 2))) a).r0, .int .i64 (tkSet (tkStr 7 (s.extract a (a + 2))) a).r1, .int .i64 (tkSet (tkStr 7 (s.extract a (a + 2))) a).r2, .int .i64 (tkSet (tkStr 7 (s.extract a (a + 2))) a).r3, .int .i64 (tkSet (tkStr 7 (s.extract a (a + 2))) a).code]), .int .i64 (a + 2 : Nat)]) (by simp [results, Tryz.results45, go_sem, c0, f0, l0, tkStr, tkSet]) rfl ⟨rfl, zq2⟩
theorem rsign_e (s : ByteArray) (a : Nat) (w : World) (hs : s.size < 4294967281) (haS : a < s.size) (ha : ¬ a + 1 < s.size) (T : Tk) (en : Nat) (hT : (SG.contains s[a] = true ∧ T = tkSet (tkStr 7 (s.extract a (a + 1))) a ∧ en = a + 1) ∨ (SG.contains s[a] = false ∧ T = tkSet (tk0 8) a ∧ en = a)) :
    Calls Tryz.prog 45 #[.string s, .int .i64 a] w fun e w' => e = .returned (.tuple #[(.agg #[.int .i64 T.kind, .int .i64 T.at', .int .i64 T.num, .string T.str, .int .i64 T.c0, .int .i64 T.c1, .int .i64 T.r0, .int .i64 T.r1, .int .i64 T.r2, .int .i64 T.r3, .int .i64 T.code]), .int .i64 (en : Nat)]) ∧ Below w.heap.size w w' := by
  have ha' : ¬ (a : Int) + 1 < s.size := by omega
  have HT : Hid _ := hT
  clear hT
  have haS' : (a : Int) < s.size := by omega
  have ha1 : (a : Int) + 1 ≤ s.size := by omega
  have hwr := fun w => rwrong a w
  have mixed : Tryz.prog.follows .mixedOrders = true := by kernel_rfl
  go_enter Tryz.func45, Tryz.ntmps45
  go_wp2
  go_loopw [8] (fun v w' => ∃ i : Nat, v = .int .i64 i ∧ i ≤ 12 ∧ Hid (∀ (j : Nat) (hj : j < 12), j < i → (⟨#[40, 41, 44, 43, 45, 42, 47, 37, 38, 61, 60, 62]⟩ : ByteArray)[j].toNat ≠ s[a].toNat) ∧ Below w.heap.size w w' ∧ Own w' w.heap.size #[.int .i64 0, .int .i64 0, .int .i64 0, .string ⟨#[]⟩, .int .i64 0, .int .i64 0, .int .i64 0, .int .i64 0, .int .i64 0, .int .i64 0, .int .i64 0]) (fun v _ => 12 - (intOf v).toNat)
  case atStart => exact ⟨0, rfl, zq17, fun j hj h => absurd h zq17, bal _ _, Own.new _ _ _⟩
  case round =>
    obtain ⟨i, rfl, hi, hN, hB, o0⟩ := hrel
    have c0 := o0.cell
    have f0 := o0.fro
    have l0 := o0.lt
    by_cases hlt : i < 12
    · have hlt' : (i : Int) < 12 := by omega
      by_cases hx : (⟨#[40, 41, 44, 43, 45, 42, 47, 37, 38, 61, 60, 62]⟩ : ByteArray)[i].toNat = s[a].toNat
      · have hxb : (((⟨#[40, 41, 44, 43, 45, 42, 47, 37, 38, 61, 60, 62]⟩ : ByteArray)[i].toNat : Int) == (s[a].toNat : Int)) = true := by simp; omega
        have hin : SG.contains s[a] = true := by
          have e : SG[i] = s[a] := UInt8.toNat_inj.1 hx
          rw [List.contains_eq_mem, decide_eq_true_eq, ← e]
          exact List.getElem_mem _
        obtain ⟨rfl, rfl⟩ : T = tkSet (tkStr 7 (s.extract a (a + 1))) a ∧ en = a + 1 := by
          rcases HT.out with ⟨_, h⟩ | ⟨h, _⟩
          · exact h
          · rw [hin] at h; cases h
        clear HT hin hx hN
        go_wp2
        go_big_quiet (fail)
        go_wp2
        exact bodyPost_ret (v := .tuple #[(.agg #[.int .i64 (tkSet (tkStr 7 (s.extract a (a + 1))) a).kind, .int .i64 (tkSet (tkStr 7 (s.extract a (a + 1))) a).at', .int .i64 (tkSet (tkStr 7 (s.extract a (a + 1))) a).num, .string (tkSet (tkStr 7 (s.extract a (a + 1))) a).str, .int .i64 (tkSet (tkStr 7 (s.extract a (a + 1))) a).c0, .int .i64 (tkSet (tkStr 7 (s.extract a (a + 1))) a).c1, .int .i64 (tkSet (tkStr 7 (s.extract a (a + 1))) a).r0, .int .i64 (tkSet (tkStr 7 (s.extract a (a + 1))) a).r1, .int .i64 (tkSet (tkStr 7 (s.extract a (a + 1))) a).r2, .int .i64 (tkSet (tkStr 7 (s.extract a (a + 1))) a).r3, .int .i64 (tkSet (tkStr 7 (s.extract a (a + 1))) a).code]), .int .i64 (a + 1 : Nat)]) (by simp [results, Tryz.results45, go_sem, c0, f0, l0, tkStr, tkSet]) rfl ⟨rfl, by with_reducible (repeat' first | exact below_drewN hB _ | exact Below.refl _ _ | refine Below.drew ?_ | refine Below.setCell ?_ zq11 _ | refine Below.alloc ?_ zq11 _)⟩
      · have hxb : (((⟨#[40, 41, 44, 43, 45, 42, 47, 37, 38, 61, 60, 62]⟩ : ByteArray)[i].toNat : Int) == (s[a].toNat : Int)) = false := by simp; omega
        have HN : Hid (∀ (j : Nat) (hj : j < 12), j < i + 1 → (⟨#[40, 41, 44, 43, 45, 42, 47, 37, 38, 61, 60, 62]⟩ : ByteArray)[j].toNat ≠ s[a].toNat) := fun j hj h => by
          by_cases e : j = i
          · subst e; exact hx
          · exact hN.out j hj zq17
        clear hx hN
        go_wp2
        go_big_quiet (fail)
        go_wp2
        exact ⟨⟨i + 1, by go_num, zq17, HN, by with_reducible exact below_drewN hB _, by exact Own.of_block o0 rfl⟩, by simp [intOf]; omega⟩
    · have hlt' : ¬ (i : Int) < 12 := by omega
      have hin : SG.contains s[a] = false := by
        cases hc : SG.contains s[a]
        · rfl
        · rw [List.contains_eq_mem, decide_eq_true_eq] at hc
          obtain ⟨j, hj, e⟩ := List.mem_iff_getElem.1 hc
          exact absurd (UInt8.toNat_inj.2 e) (hN.out j hj (by have : j < 12 := hj; omega))
      obtain ⟨rfl, rfl⟩ : T = tkSet (tk0 8) a ∧ a = en := by
        rcases HT.out with ⟨h, _⟩ | ⟨_, h⟩
        · rw [hin] at h; cases h
        · exact ⟨h.1, h.2.symm⟩
      clear HT hin hN
      go_wp2_with (go_at_call 69; first | (refine (hwr _).mono ?_; clear hwr; rintro e w1 ⟨rfl, hb⟩; have hB1 := bux w zq2 hb; have o1 := keepZ w.heap.size zq5 hb; have c0 := o1.cell; have f0 := o1.fro; have l0 := o1.lt; clear hb))
      exact bodyPost_ret (v := .tuple #[(.agg #[.int .i64 (tkSet (tk0 8) a).kind, .int .i64 (tkSet (tk0 8) a).at', .int .i64 (tkSet (tk0 8) a).num, .string (tkSet (tk0 8) a).str, .int .i64 (tkSet (tk0 8) a).c0, .int .i64 (tkSet (tk0 8) a).c1, .int .i64 (tkSet (tk0 8) a).r0, .int .i64 (tkSet (tk0 8) a).r1, .int .i64 (tkSet (tk0 8) a).r2, .int .i64 (tkSet (tk0 8) a).r3, .int .i64 (tkSet (tk0 8) a).code]), .int .i64 (a : Nat)]) (by simp [results, Tryz.results45, go_sem, c0, f0, l0, tk0, tkSet]) rfl ⟨rfl, zq2⟩
theorem rsign_1 (s : ByteArray) (a : Nat) (w : World) (hs : s.size < 4294967281) (haS : a < s.size) (ha : a + 1 < s.size) (h1 : ((s.extract a (a + 2)).toList == [60, 62]) = false) (h2 : ((s.extract a (a + 2)).toList == [60, 61]) = false) (h3 : ((s.extract a (a + 2)).toList == [62, 61]) = false) (T : Tk) (en : Nat) (hT : (SG.contains s[a] = true ∧ T = tkSet (tkStr 7 (s.extract a (a + 1))) a ∧ en = a + 1) ∨ (SG.contains s[a] = false ∧ T = tkSet (tk0 8) a ∧ en = a)) :
    Calls Tryz.prog 45 #[.string s, .int .i64 a] w fun e w' => e = .returned (.tuple #[(.agg #[.int .i64 T.kind, .int .i64 T.at', .int .i64 T.num, .string T.str, .int .i64 T.c0, .int .i64 T.c1, .int .i64 T.r0, .int .i64 T.r1, .int .i64 T.r2, .int .i64 T.r3, .int .i64 T.code]), .int .i64 (en : Nat)]) ∧ Below w.heap.size w w' := by
  have ha' : (a : Int) + 1 < s.size := by omega
  have ha2 : (a : Int) + 2 ≤ s.size := by omega
  have HT : Hid _ := hT
  clear hT
  have haS' : (a : Int) < s.size := by omega
  have ha1 : (a : Int) + 1 ≤ s.size := by omega
  have hwr := fun w => rwrong a w
  have mixed : Tryz.prog.follows .mixedOrders = true := by kernel_rfl
  go_enter Tryz.func45, Tryz.ntmps45
  go_wp2
  go_loopw [8] (fun v w' => ∃ i : Nat, v = .int .i64 i ∧ i ≤ 12 ∧ Hid (∀ (j : Nat) (hj : j < 12), j < i → (⟨#[40, 41, 44, 43, 45, 42, 47, 37, 38, 61, 60, 62]⟩ : ByteArray)[j].toNat ≠ s[a].toNat) ∧ Below w.heap.size w w' ∧ Own w' w.heap.size #[.int .i64 0, .int .i64 0, .int .i64 0, .string ⟨#[]⟩, .int .i64 0, .int .i64 0, .int .i64 0, .int .i64 0, .int .i64 0, .int .i64 0, .int .i64 0]) (fun v _ => 12 - (intOf v).toNat)
  case atStart => exact ⟨0, rfl, zq17, fun j hj h => absurd h zq17, bal _ _, Own.new _ _ _⟩
  case round =>
    obtain ⟨i, rfl, hi, hN, hB, o0⟩ := hrel
    have c0 := o0.cell
    have f0 := o0.fro
    have l0 := o0.lt
    by_cases hlt : i < 12
    · have hlt' : (i : Int) < 12 := by omega
      by_cases hx : (⟨#[40, 41, 44, 43, 45, 42, 47, 37, 38, 61, 60, 62]⟩ : ByteArray)[i].toNat = s[a].toNat
      · have hxb : (((⟨#[40, 41, 44, 43, 45, 42, 47, 37, 38, 61, 60, 62]⟩ : ByteArray)[i].toNat : Int) == (s[a].toNat : Int)) = true := by simp; omega
        have hin : SG.contains s[a] = true := by
          have e : SG[i] = s[a] := UInt8.toNat_inj.1 hx
          rw [List.contains_eq_mem, decide_eq_true_eq, ← e]
          exact List.getElem_mem _
        obtain ⟨rfl, rfl⟩ : T = tkSet (tkStr 7 (s.extract a (a + 1))) a ∧ en = a + 1 := by
          rcases HT.out with ⟨_, h⟩ | ⟨h, _⟩
          · exact h
          · rw [hin] at h; cases h
        clear HT hin hx hN
        go_wp2
        go_big_quiet (fail)
        go_wp2
        exact bodyPost_ret (v := .tuple #[(.agg #[.int .i64 (tkSet (tkStr 7 (s.extract a (a + 1))) a).kind, .int .i64 (tkSet (tkStr 7 (s.extract a (a + 1))) a).at', .int .i64 (tkSet (tkStr 7 (s.extract a (a + 1))) a).num, .string (tkSet (tkStr 7 (s.extract a (a + 1))) a).str, .int .i64 (tkSet (tkStr 7 (s.extract a (a + 1))) a).c0, .int .i64 (tkSet (tkStr 7 (s.extract a (a + 1))) a).c1, .int .i64 (tkSet (tkStr 7 (s.extract a (a + 1))) a).r0, .int .i64 (tkSet (tkStr 7 (s.extract a (a + 1))) a).r1, .int .i64 (tkSet (tkStr 7 (s.extract a (a + 1))) a).r2, .int .i64 (tkSet (tkStr 7 (s.extract a (a + 1))) a).r3, .int .i64 (tkSet (tkStr 7 (s.extract a (a + 1))) a).code]), .int .i64 (a + 1 : Nat)]) (by simp [results, Tryz.results45, go_sem, c0, f0, l0, tkStr, tkSet]) rfl ⟨rfl, by with_reducible (repeat' first | exact below_drewN hB _ | exact Below.refl _ _ | refine Below.drew ?_ | refine Below.setCell ?_ zq11 _ | refine Below.alloc ?_ zq11 _)⟩
      · have hxb : (((⟨#[40, 41, 44, 43, 45, 42, 47, 37, 38, 61, 60, 62]⟩ : ByteArray)[i].toNat : Int) == (s[a].toNat : Int)) = false := by simp; omega
        have HN : Hid (∀ (j : Nat) (hj : j < 12), j < i + 1 → (⟨#[40, 41, 44, 43, 45, 42, 47, 37, 38, 61, 60, 62]⟩ : ByteArray)[j].toNat ≠ s[a].toNat) := fun j hj h => by
          by_cases e : j = i
          · subst e; exact hx
          · exact hN.out j hj zq17
        clear hx hN
        go_wp2
        go_big_quiet (fail)
        go_wp2
        exact ⟨⟨i + 1, by go_num, zq17, HN, by with_reducible exact below_drewN hB _, by exact Own.of_block o0 rfl⟩, by simp [intOf]; omega⟩
    · have hlt' : ¬ (i : Int) < 12 := by omega
      have hin : SG.contains s[a] = false := by
        cases hc : SG.contains s[a]
        · rfl
        · rw [List.contains_eq_mem, decide_eq_true_eq] at hc
          obtain ⟨j, hj, e⟩ := List.mem_iff_getElem.1 hc
          exact absurd (UInt8.toNat_inj.2 e) (hN.out j hj (by have : j < 12 := hj; omega))
      obtain ⟨rfl, rfl⟩ : T = tkSet (tk0 8) a ∧ a = en := by
        rcases HT.out with ⟨h, _⟩ | ⟨_, h⟩
        · rw [hin] at h; cases h
        · exact ⟨h.1, h.2.symm⟩
      clear HT hin hN
      go_wp2_with (go_at_call 69; first | (refine (hwr _).mono ?_; clear hwr; rintro e w1 ⟨rfl, hb⟩; have hB1 := bux w zq2 hb; have o1 := keepZ w.heap.size zq5 hb; have c0 := o1.cell; have f0 := o1.fro; have l0 := o1.lt; clear hb))
      exact bodyPost_ret (v := .tuple #[(.agg #[.int .i64 (tkSet (tk0 8) a).kind, .int .i64 (tkSet (tk0 8) a).at', .int .i64 (tkSet (tk0 8) a).num, .string (tkSet (tk0 8) a).str, .int .i64 (tkSet (tk0 8) a).c0, .int .i64 (tkSet (tk0 8) a).c1, .int .i64 (tkSet (tk0 8) a).r0, .int .i64 (tkSet (tk0 8) a).r1, .int .i64 (tkSet (tk0 8) a).r2, .int .i64 (tkSet (tk0 8) a).r3, .int .i64 (tkSet (tk0 8) a).code]), .int .i64 (a : Nat)]) (by simp [results, Tryz.results45, go_sem, c0, f0, l0, tk0, tkSet]) rfl ⟨rfl, zq2⟩
end Go.Proofs.YtcmjhjnpcogmgaaGreatDoor
namespace Go.Proofs.YtcmjhjnpcogmgaaGreatDoor
open Go.RowKit
def qok : List UInt8 → Bool
  | [] => false
  | [c] => c == 34
  | c :: d :: t => if c = 34 then (if d = 34 then qok t else true) else qok (d :: t)
def qtx : List UInt8 → List UInt8
  | [] => []
  | [c] => if c = 34 then [] else [c]
  | c :: d :: t => if c = 34 then (if d = 34 then 34 :: qtx t else []) else c :: qtx (d :: t)
def rall (s : List UInt8) : List UInt8 := Lib.replaceK [34, 34] [34] (Lib.count s [34, 34]) s
theorem rall_is (s : List UInt8) : Lib.replaceAll s [34, 34] [34] = rall s := by
  have e : Lib.replaceNum s [34, 34] (-1) = Lib.count s [34, 34] := by unfold Lib.replaceNum; rw [if_pos (Or.inl zq16)]
  unfold Lib.replaceAll Lib.replace rall
  rw [e, if_neg zq16]
theorem rall_nil : rall [] = [] := by
  have e : Lib.index [] [34, 34] = -1 := by simp [Lib.index]
  unfold rall; rw [Lib.count_miss e]; rfl
theorem rall_pair (t : List UInt8) : rall (34 :: 34 :: t) = 34 :: rall t := by
  have e : Lib.index (34 :: 34 :: t) [34, 34] = (0 : Nat) := by simp [Lib.index, List.isPrefixOf]
  have hc := Lib.count_hit (by simp) e
  have hd : (34 :: 34 :: t).drop (0 + [(34 : UInt8), 34].length) = t := rfl
  rw [hd] at hc
  unfold rall
  rw [hc, Nat.add_comm, Lib.replaceK_hit _ _ _ _ 0 e, hd]
  rfl
theorem rall_cons (c : UInt8) (l : List UInt8) (h : [34, 34].isPrefixOf (c :: l) = false) : rall (c :: l) = c :: rall l := by
  have e : Lib.index (c :: l) [34, 34] = if Lib.index l [34, 34] == -1 then -1 else Lib.index l [34, 34] + 1 := by
    rw [Lib.index, h]; rfl
  have hge := Lib.index_ge l [34, 34]
  by_cases hm : Lib.index l [34, 34] = -1
  · rw [hm] at e
    have e' : Lib.index (c :: l) [34, 34] = -1 := e
    unfold rall
    rw [Lib.count_miss e', Lib.count_miss hm]
    rfl
  · obtain ⟨i, hi⟩ : ∃ i : Nat, Lib.index l [34, 34] = i := ⟨(Lib.index l [34, 34]).toNat, zq17⟩
    have hne : ¬ (Lib.index l [34, 34] == -1) = true := fun x => hm (beq_iff_eq.1 x)
    rw [if_neg hne, hi] at e
    have e' : Lib.index (c :: l) [34, 34] = ((i + 1 : Nat) : Int) := by rw [e]; omega
    have h1 := Lib.count_hit (by simp) hi
    have h2 := Lib.count_hit (by simp) e'
    have hd : (c :: l).drop (i + 1 + [(34 : UInt8), 34].length) = l.drop (i + [(34 : UInt8), 34].length) := by
      have : i + 1 + [(34 : UInt8), 34].length = (i + [(34 : UInt8), 34].length) + 1 := by omega
      rw [this, List.drop_succ_cons]
    rw [hd] at h2
    unfold rall
    rw [h1, h2, Nat.add_comm, Lib.replaceK_hit _ _ _ _ (i + 1) e', Lib.replaceK_hit _ _ _ _ i hi, hd]
    simp
theorem qr_pos {l : List UInt8} (h : l ≠ []) : 1 ≤ qrL l := by
  match l with
  | [] => exact absurd rfl h
  | [_] => simp [qrL]
  | c :: d :: t => simp only [qrL]; split <;> (try split) <;> omega
theorem qok_ne {l : List UInt8} (h : qok l = true) : l ≠ [] := by rintro rfl; simp [qok] at h
theorem qtx_is : ∀ r : List UInt8, qok r = true → rall (r.take (qrL r - 1)) = qtx r
  | [], h => by simp [qok] at h
  | [c], h => by
    have hc : c = 34 := by simpa [qok] using h
    subst hc
    simp [qrL, qtx, rall_nil]
  | c :: d :: t, h => by
    by_cases hc : c = 34
    · subst hc
      by_cases hd : d = 34
      · subst hd
        have hq : qok t = true := by simpa [qok] using h
        have ih := qtx_is t hq
        have hp := qr_pos (qok_ne hq)
        have e : qrL (34 :: 34 :: t) - 1 = (qrL t - 1) + 1 + 1 := by simp [qrL]; omega
        rw [e, List.take_succ_cons, List.take_succ_cons, rall_pair, ih]
        simp [qtx]
      · simp [qrL, hd, qtx, rall_nil]
    · have hq : qok (d :: t) = true := by simpa [qok, hc] using h
      have ih := qtx_is (d :: t) hq
      have hp := qr_pos (qok_ne hq)
      have e : qrL (c :: d :: t) - 1 = (qrL (d :: t) - 1) + 1 := by simp [qrL, hc]; omega
      have hn : ∀ l, [34, 34].isPrefixOf (c :: l) = false := fun l => by
        have : (34 == c) = false := by simp; exact fun e => hc e.symm
        simp [List.isPrefixOf, this]
      rw [e, List.take_succ_cons, rall_cons _ _ (hn _), ih]
      simp [qtx, hc]
theorem qok_is : ∀ r : List UInt8, ((r.take (qrL r)).count 34 % 2 = 1 ↔ qok r = true)
  | [] => by simp [qrL, qok]
  | [c] => by
    by_cases hc : c = 34
    · subst hc; simp [qrL, qok]
    · simp [qrL, qok, hc, List.count_cons]
  | c :: d :: t => by
    by_cases hc : c = 34
    · subst hc
      by_cases hd : d = 34
      · subst hd
        have ih := qok_is t
        have e : qrL (34 :: 34 :: t) = qrL t + 1 + 1 := by simp [qrL]; omega
        have e2 : qok (34 :: 34 :: t) = qok t := by simp [qok]
        rw [e, List.take_succ_cons, List.take_succ_cons, e2, ← ih, List.count_cons_self, List.count_cons_self]
        omega
      · simp [qrL, hd, qok]
    · have ih := qok_is (d :: t)
      have e : qrL (c :: d :: t) = qrL (d :: t) + 1 := by simp [qrL, hc]; omega
      have e2 : qok (c :: d :: t) = qok (d :: t) := by simp [qok, hc]
      rw [e, List.take_succ_cons, e2, ← ih, List.count_cons_of_ne hc]
theorem rdQ_is (r : List UInt8) : rdQ (34 :: r.take (qrL r)) = if qok r then tkStr 2 (bs (qtx r)) else tk0 8 := by
  have hle := qrL_le r
  have hc : Lib.countByte (34 :: r.take (qrL r)) 34 = (r.take (qrL r)).count 34 + 1 := by unfold Lib.countByte; rw [List.count_cons_self]
  have hk := qok_is r
  unfold rdQ
  rw [hc]
  cases hq : qok r
  · rw [hq] at hk
    rw [if_neg (by intro h; exact absurd (hk.1 zq17) (by simp))]
    rfl
  · rw [hq] at hk
    have h1 := hk.2 rfl
    have hl : (34 :: r.take (qrL r)).length - 2 = qrL r - 1 := by rw [List.length_cons, List.length_take]; omega
    rw [if_pos zq17, hl, List.drop_succ_cons, List.drop_zero, List.take_take, rall_is, show min (qrL r - 1) (qrL r) = qrL r - 1 by omega, qtx_is r hq]
    rfl
theorem q_byte {l : List UInt8} {i : Nat} (hi : i < l.length) (h : ¬ l[i] = 34) : qtx (l.drop i) = l[i] :: qtx (l.drop (i + 1)) ∧ qrL (l.drop i) = 1 + qrL (l.drop (i + 1)) ∧ qok (l.drop i) = qok (l.drop (i + 1)) := by
  rw [List.drop_eq_getElem_cons hi]
  cases hd : l.drop (i + 1) with
  | nil => simp [qtx, qrL, qok, h]
  | cons d t => simp [qtx, qrL, qok, h]
theorem q_pair {l : List UInt8} {i : Nat} (hi : i + 1 < l.length) (h : l[i] = 34) (h' : l[i + 1] = 34) : qtx (l.drop i) = 34 :: qtx (l.drop (i + 2)) ∧ qrL (l.drop i) = 2 + qrL (l.drop (i + 2)) ∧ qok (l.drop i) = qok (l.drop (i + 2)) := by
  rw [List.drop_eq_getElem_cons (show i < l.length by omega), List.drop_eq_getElem_cons hi, h, h']
  simp [qtx, qrL, qok]
theorem q_shut {l : List UInt8} {i : Nat} (hi : i < l.length) (h : l[i] = 34) (h' : ∀ (x : i + 1 < l.length), ¬ l[i + 1] = 34) : qtx (l.drop i) = [] ∧ qrL (l.drop i) = 1 ∧ qok (l.drop i) = true := by
  rw [List.drop_eq_getElem_cons hi, h]
  by_cases hx : i + 1 < l.length
  · rw [List.drop_eq_getElem_cons hx]
    simp [qtx, qrL, qok, h' hx]
  · rw [List.drop_of_length_le zq17]
    simp [qtx, qrL, qok]
theorem q_out {l : List UInt8} {i : Nat} (hi : ¬ i < l.length) : qok (l.drop i) = false := by
  rw [List.drop_of_length_le zq17]; rfl
end Go.Proofs.YtcmjhjnpcogmgaaGreatDoor
namespace Go.Proofs.YtcmjhjnpcogmgaaGreatDoor
open Go.Shelf Go.RowKit
theorem ext_mid7 (s : ByteArray) (a b : Nat) : (s.extract a b).data.toList = (s.data.toList.drop a).take (b - a) := by
  rw [ByteArray.data_extract, Array.toList_extract, List.extract_eq_take_drop]
def QI (s : ByteArray) (a i : Nat) (t : ByteArray) : Prop :=
  t.data.toList ++ qtx (s.data.toList.drop i) = qtx (s.data.toList.drop (a + 1)) ∧ i + qrL (s.data.toList.drop i) = a + 1 + qrL (s.data.toList.drop (a + 1)) ∧ qok (s.data.toList.drop i) = qok (s.data.toList.drop (a + 1))
theorem QI.byte {s : ByteArray} {a i : Nat} {t : ByteArray} (h : QI s a i t) (hi : i < s.size) (hn : ¬ s[i].toNat = 34) : QI s a (i + 1) (t ++ s.extract i (i + 1)) := by
  have hll : i < s.data.toList.length := by rw [← size_len]; exact hi
  have e := q_byte hll (by rw [byte_at s i hi hll, ← UInt8.toNat_inj]; exact hn)
  obtain ⟨h1, h2, h3⟩ := h
  refine ⟨?_, zq17, by rw [← h3]; exact e.2.2.symm⟩
  rw [e.1] at h1
  have ex : (s.extract i (i + 1)).data.toList = [s.data.toList[i]] := by
    rw [ext_mid7, List.drop_eq_getElem_cons hll, Nat.add_sub_cancel_left]; rfl
  rw [ByteArray.data_append, Array.toList_append, ex, List.append_assoc]
  exact h1
theorem QI.pair {s : ByteArray} {a i : Nat} {t : ByteArray} (h : QI s a i t) (hi : i + 1 < s.size) (hn : s[i].toNat = 34) (hn' : s[i + 1].toNat = 34) : QI s a (i + 2) (t ++ ⟨#[34]⟩) := by
  have hll : i + 1 < s.data.toList.length := by rw [← size_len]; exact hi
  have e := q_pair hll (by rw [byte_at s i zq17 zq17, ← UInt8.toNat_inj]; exact hn) (by rw [byte_at s (i + 1) hi hll, ← UInt8.toNat_inj]; exact hn')
  obtain ⟨h1, h2, h3⟩ := h
  refine ⟨?_, zq17, by rw [← h3]; exact e.2.2.symm⟩
  rw [e.1] at h1
  rw [ByteArray.data_append, Array.toList_append, List.append_assoc]
  exact h1
theorem QI.shut {s : ByteArray} {a i : Nat} {t : ByteArray} (h : QI s a i t) (hi : i < s.size) (hn : s[i].toNat = 34) (hn' : ∀ x : i + 1 < s.size, ¬ s[i + 1].toNat = 34) : t = bs (qtx (s.data.toList.drop (a + 1))) ∧ i + 1 = a + 1 + qrL (s.data.toList.drop (a + 1)) ∧ qok (s.data.toList.drop (a + 1)) = true := by
  have hll : i < s.data.toList.length := by rw [← size_len]; exact hi
  have e := q_shut hll (by rw [byte_at s i hi hll, ← UInt8.toNat_inj]; exact hn) (fun x => by
    have x' : i + 1 < s.size := by rw [size_len]; exact x
    rw [byte_at s (i + 1) x' x, ← UInt8.toNat_inj]; exact hn' x')
  obtain ⟨h1, h2, h3⟩ := h
  refine ⟨?_, zq17, by rw [← h3]; exact e.2.2⟩
  rw [e.1, List.append_nil] at h1
  rw [← h1]; simp [bs]
theorem QI.out {s : ByteArray} {a i : Nat} {t : ByteArray} (h : QI s a i t) (hi : ¬ i < s.size) : qok (s.data.toList.drop (a + 1)) = false := by
  rw [← h.2.2]; exact q_out (by rw [← size_len]; exact hi)
theorem size_app1 (t s : ByteArray) (i : Nat) (hi : i < s.size) : (t ++ s.extract i (i + 1)).size = t.size + 1 := by
  rw [ByteArray.size_append, ByteArray.size_extract]; omega
theorem size_app2 (t : ByteArray) : (t ++ ⟨#[34]⟩ : ByteArray).size = t.size + 1 := by
  rw [ByteArray.size_append]; rfl
theorem rquoted (s : ByteArray) (a : Nat) (w : World) (hs : s.size < 4294967281) (haS : a < s.size) (T : Tk) (en : Nat) (hT : (qok (s.data.toList.drop (a + 1)) = true ∧ T = tkSet (tkStr 2 (bs (qtx (s.data.toList.drop (a + 1))))) a ∧ en = a + 1 + qrL (s.data.toList.drop (a + 1))) ∨ (qok (s.data.toList.drop (a + 1)) = false ∧ T = tkSet (tk0 8) a ∧ en = a)) :
    Calls Tryz.prog 41 #[.string s, .int .i64 a] w fun e w' => e = .returned (.tuple #[(.agg #[.int .i64 T.kind, .int .i64 T.at', .int .i64 T.num, .string T.str, .int .i64 T.c0, .int .i64 T.c1, .int .i64 T.r0, .int .i64 T.r1, .int .i64 T.r2, .int .i64 T.r3, .int .i64 T.code]), .int .i64 (en : Nat)]) ∧ Below w.heap.size w w' := by
  have HT : Hid _ := hT
  clear hT
  have haS' : (a : Int) < s.size := by omega
  have hwr := fun w => rwrong a w
  have mixed : Tryz.prog.follows .mixedOrders = true := by kernel_rfl
  go_enter Tryz.func41, Tryz.ntmps41
  go_wp2
  go_loopw [6, 7] (fun v x w' => ∃ (i : Nat) (t : ByteArray), v = .string t ∧ x = .int .i64 i ∧ i ≤ s.size ∧ t.size ≤ i ∧ Hid (QI s a i t) ∧ Below w.heap.size w w' ∧ Own w' w.heap.size #[.int .i64 0, .int .i64 0, .int .i64 0, .string ⟨#[]⟩, .int .i64 0, .int .i64 0, .int .i64 0, .int .i64 0, .int .i64 0, .int .i64 0, .int .i64 0]) (fun _ x _ => s.size - (intOf x).toNat)
  case atStart => exact ⟨a + 1, ⟨#[]⟩, rfl, by go_num, zq17, Nat.zero_le _, ⟨rfl, rfl, rfl⟩, bal _ _, Own.new _ _ _⟩
  case round =>
    obtain ⟨i, t, rfl, rfl, hi, ht, hN, hB, o0⟩ := hrel
    have c0 := o0.cell
    have f0 := o0.fro
    have l0 := o0.lt
    by_cases hlt : i < s.size
    · have hlt' : (i : Int) < s.size := by omega
      have hi1 : (i : Int) + 1 ≤ s.size := by omega
      by_cases hx : s[i].toNat = 34
      · have hxb : ((s[i].toNat : Int) == 34) = true := by simp; omega
        by_cases hl2 : i + 1 < s.size
        · have hl2' : (i : Int) + 1 < s.size := by omega
          by_cases hy : s[i + 1].toNat = 34
          · have hyb : ((s[i + 1].toNat : Int) == 34) = true := by simp; omega
            have HN : Hid (QI s a (i + 2) (t ++ ⟨#[34]⟩)) := hN.out.pair hl2 hx hy
            have hsz := size_app2 t
            have hq : ¬ (9223372036854775807 < t.size + 1) := by omega
            clear hN hx hy HT hwr hsz
            go_wp2
            exact ⟨⟨i + 2, t ++ ⟨#[34]⟩, rfl, by go_num, zq17, by rw [size_app2]; omega, HN, zq15, zq15⟩, by simp [intOf]; omega⟩
          · have hyb : ((s[i + 1].toNat : Int) == 34) = false := by simp; omega
            have hh := hN.out.shut hlt hx (fun _ => hy)
            obtain ⟨rfl, rfl⟩ : T = tkSet (tkStr 2 t) a ∧ en = i + 1 := by
              rcases HT.out with ⟨_, h⟩ | ⟨h, _⟩
              · rw [hh.1, hh.2.1]; exact h
              · rw [hh.2.2] at h; cases h
            clear hN hx hy HT hh hwr
            go_wp2
            exact bodyPost_ret (v := .tuple #[(.agg #[.int .i64 (tkSet (tkStr 2 t) a).kind, .int .i64 (tkSet (tkStr 2 t) a).at', .int .i64 (tkSet (tkStr 2 t) a).num, .string (tkSet (tkStr 2 t) a).str, .int .i64 (tkSet (tkStr 2 t) a).c0, .int .i64 (tkSet (tkStr 2 t) a).c1, .int .i64 (tkSet (tkStr 2 t) a).r0, .int .i64 (tkSet (tkStr 2 t) a).r1, .int .i64 (tkSet (tkStr 2 t) a).r2, .int .i64 (tkSet (tkStr 2 t) a).r3, .int .i64 (tkSet (tkStr 2 t) a).code]), .int .i64 (i + 1 : Nat)]) (by simp [results, Tryz.results41, go_sem, c0, f0, l0, tkStr, tkSet]) rfl ⟨rfl, zq2⟩
        · have hl2' : ¬ (i : Int) + 1 < s.size := by omega
          have hh := hN.out.shut hlt hx (fun x => absurd x hl2)
          obtain ⟨rfl, rfl⟩ : T = tkSet (tkStr 2 t) a ∧ en = i + 1 := by
            rcases HT.out with ⟨_, h⟩ | ⟨h, _⟩
            · rw [hh.1, hh.2.1]; exact h
            · rw [hh.2.2] at h; cases h
          clear hN hx HT hh hwr
          go_wp2
          exact bodyPost_ret (v := .tuple #[(.agg #[.int .i64 (tkSet (tkStr 2 t) a).kind, .int .i64 (tkSet (tkStr 2 t) a).at', .int .i64 (tkSet (tkStr 2 t) a).num, .string (tkSet (tkStr 2 t) a).str, .int .i64 (tkSet (tkStr 2 t) a).c0, .int .i64 (tkSet (tkStr 2 t) a).c1, .int .i64 (tkSet (tkStr 2 t) a).r0, .int .i64 (tkSet (tkStr 2 t) a).r1, .int .i64 (tkSet (tkStr 2 t) a).r2, .int .i64 (tkSet (tkStr 2 t) a).r3, .int .i64 (tkSet (tkStr 2 t) a).code]), .int .i64 (i + 1 : Nat)]) (by simp [results, Tryz.results41, go_sem, c0, f0, l0, tkStr, tkSet]) rfl ⟨rfl, zq2⟩
      · have hxb : ((s[i].toNat : Int) == 34) = false := by simp; omega
        have HN : Hid (QI s a (i + 1) (t ++ s.extract i (i + 1))) := hN.out.byte hlt hx
        have hq : ¬ (9223372036854775807 < t.size + (s.extract i (i + 1)).size) := by rw [ByteArray.size_extract]; omega
        have hq2 : ¬ (9223372036854775807 < t.size + (min (i + 1) s.size - i)) := by omega
        clear hN hx HT hwr
        go_wp2
        exact ⟨⟨i + 1, t ++ s.extract i (i + 1), rfl, by go_num, zq17, by rw [size_app1 t s i hlt]; omega, HN, zq15, zq15⟩, by simp [intOf]; omega⟩
    · have hlt' : ¬ (i : Int) < s.size := by omega
      have hh := hN.out.out hlt
      obtain ⟨rfl, rfl⟩ : T = tkSet (tk0 8) a ∧ a = en := by
        rcases HT.out with ⟨h, _⟩ | ⟨_, h⟩
        · rw [hh] at h; cases h
        · exact ⟨h.1, h.2.symm⟩
      clear hN HT hh
      go_wp2_with (go_at_call 69; first | (refine (hwr _).mono ?_; clear hwr; rintro e w1 ⟨rfl, hb⟩; have hB1 := bux w zq2 hb; have o1 := keepZ w.heap.size zq5 hb; have c0 := o1.cell; have f0 := o1.fro; have l0 := o1.lt; clear hb))
      exact bodyPost_ret (v := .tuple #[(.agg #[.int .i64 (tkSet (tk0 8) a).kind, .int .i64 (tkSet (tk0 8) a).at', .int .i64 (tkSet (tk0 8) a).num, .string (tkSet (tk0 8) a).str, .int .i64 (tkSet (tk0 8) a).c0, .int .i64 (tkSet (tk0 8) a).c1, .int .i64 (tkSet (tk0 8) a).r0, .int .i64 (tkSet (tk0 8) a).r1, .int .i64 (tkSet (tk0 8) a).r2, .int .i64 (tkSet (tk0 8) a).r3, .int .i64 (tkSet (tk0 8) a).code]), .int .i64 (a : Nat)]) (by simp [results, Tryz.results41, go_sem, c0, f0, l0, tk0, tkSet]) rfl ⟨rfl, zq2⟩
end Go.Proofs.YtcmjhjnpcogmgaaGreatDoor
namespace Go.Proofs.YtcmjhjnpcogmgaaGreatDoor
open Go.RowKit
theorem bgn_take {r : List UInt8} {k : Nat} (hk : 1 ≤ k) (cs : List UInt8) : bgn (r.take k) cs = bgn r cs := by
  cases r with
  | nil => simp
  | cons c t => obtain ⟨j, rfl⟩ : ∃ j, k = j + 1 := ⟨k - 1, zq17⟩; rfl
theorem bgn_nil {r cs : List UInt8} (h : bgn r cs = true) : ¬ r = [] := by rintro rfl; simp [bgn] at h
theorem take_ne {r : List UInt8} {k : Nat} (hk : 1 ≤ k) (hr : ¬ r = []) : ¬ r.take k = [] := by
  cases r with
  | nil => exact absurd rfl hr
  | cons c t => obtain ⟨j, rfl⟩ : ∃ j, k = j + 1 := ⟨k - 1, zq17⟩; simp
theorem rdT_bs (p : List UInt8) : rdT (bs p) = if p = [] then tk0 0 else if bgn p DG then rdNum (bs p) else if bgn p [34] then rdQ p else if bgn p [35] then rdF (bs p) else if bgn p LT then rdW (bs p) else if bgn p SG then tkStr 7 (bs p) else tk0 8 := by
  unfold rdT; rw [bs_data]
def pc (r : List UInt8) : List UInt8 := r.take (reachL r)
theorem nx_end : rdT (bs (pc [])) = tk0 0 := by rw [rdT_bs]; rfl
theorem nx_num {r : List UInt8} (h : bgn r DG = true) : reachL r = runL r NB ∧ rdT (bs (pc r)) = rdNum (bs (r.take (runL r NB))) := by
  have e : reachL r = runL r NB := by unfold reachL; rw [if_neg (bgn_nil h), if_pos h]
  have hp := reachL_pos (bgn_nil h)
  refine ⟨e, ?_⟩
  rw [pc, rdT_bs, if_neg (take_ne hp (bgn_nil h)), bgn_take hp, if_pos h, e]
theorem nx_q {r : List UInt8} (h0 : bgn r DG = false) (h : bgn r [34] = true) : reachL r = 1 + qrL (r.drop 1) ∧ rdT (bs (pc r)) = if qok (r.drop 1) then tkStr 2 (bs (qtx (r.drop 1))) else tk0 8 := by
  have e : reachL r = 1 + qrL (r.drop 1) := by unfold reachL; rw [if_neg (bgn_nil h), if_neg (by rw [h0]; simp), if_pos h]
  have hp := reachL_pos (bgn_nil h)
  refine ⟨e, ?_⟩
  rw [pc, rdT_bs, if_neg (take_ne hp (bgn_nil h)), bgn_take hp, if_neg (by rw [h0]; simp), bgn_take hp, if_pos h, e, ← rdQ_is]
  cases r with
  | nil => simp [bgn] at h
  | cons c t =>
    have hc : c = 34 := by simpa [bgn] using h
    subst hc
    rw [Nat.add_comm, List.take_succ_cons]
    rfl
theorem nx_f {r : List UInt8} (h0 : bgn r DG = false) (h1 : bgn r [34] = false) (h : bgn r [35] = true) : reachL r = frL r ∧ rdT (bs (pc r)) = rdF (bs (r.take (frL r))) := by
  have e : reachL r = frL r := by unfold reachL; rw [if_neg (bgn_nil h), if_neg (by rw [h0]; simp), if_neg (by rw [h1]; simp), if_pos h]
  have hp := reachL_pos (bgn_nil h)
  refine ⟨e, ?_⟩
  rw [pc, rdT_bs, if_neg (take_ne hp (bgn_nil h)), bgn_take hp, if_neg (by rw [h0]; simp), bgn_take hp, if_neg (by rw [h1]; simp), bgn_take hp, if_pos h, e]
theorem nx_w {r : List UInt8} (h0 : bgn r DG = false) (h1 : bgn r [34] = false) (h2 : bgn r [35] = false) (h : bgn r LT = true) : reachL r = wrL r ∧ rdT (bs (pc r)) = rdW (bs (r.take (wrL r))) := by
  have e : reachL r = wrL r := by unfold reachL; rw [if_neg (bgn_nil h), if_neg (by rw [h0]; simp), if_neg (by rw [h1]; simp), if_neg (by rw [h2]; simp), if_pos h]
  have hp := reachL_pos (bgn_nil h)
  refine ⟨e, ?_⟩
  rw [pc, rdT_bs, if_neg (take_ne hp (bgn_nil h)), bgn_take hp, if_neg (by rw [h0]; simp), bgn_take hp, if_neg (by rw [h1]; simp), bgn_take hp, if_neg (by rw [h2]; simp), bgn_take hp, if_pos h, e]
theorem nx_s {r : List UInt8} (hr : ¬ r = []) (h0 : bgn r DG = false) (h1 : bgn r [34] = false) (h2 : bgn r [35] = false) (h3 : bgn r LT = false) : reachL r = (if twoL r then 2 else 1) ∧ rdT (bs (pc r)) = if bgn r SG then tkStr 7 (bs (r.take (if twoL r then 2 else 1))) else tk0 8 := by
  have e : reachL r = if twoL r then 2 else 1 := by unfold reachL; rw [if_neg hr, if_neg (by rw [h0]; simp), if_neg (by rw [h1]; simp), if_neg (by rw [h2]; simp), if_neg (by rw [h3]; simp)]
  have hp := reachL_pos hr
  refine ⟨e, ?_⟩
  rw [pc, rdT_bs, if_neg (take_ne hp hr), bgn_take hp, if_neg (by rw [h0]; simp), bgn_take hp, if_neg (by rw [h1]; simp), bgn_take hp, if_neg (by rw [h2]; simp), bgn_take hp, if_neg (by rw [h3]; simp), bgn_take hp, e]
theorem two_sg {r : List UInt8} (h : twoL r = true) : bgn r SG = true := by
  match r with
  | [] => simp [twoL] at h
  | [a] => simp [twoL] at h
  | a :: b :: t =>
    simp only [twoL, List.isPrefixOf, Bool.or_eq_true, Bool.and_eq_true, beq_iff_eq, and_true] at h
    rcases h with ⟨h, _⟩ | ⟨h, _⟩ | ⟨h, _⟩ <;> (subst h; rfl)
theorem two_eq (c d : UInt8) (t : List UInt8) : twoL (c :: d :: t) = ((([c, d] : List UInt8) == [60, 62]) || ((([c, d] : List UInt8) == [60, 61]) || (([c, d] : List UInt8) == [62, 61]))) := by
  rw [Bool.eq_iff_iff]
  simp [twoL, List.isPrefixOf]
  constructor <;> (rintro (⟨h, g⟩ | ⟨h, g⟩ | ⟨h, g⟩) <;> simp [h, g])
theorem wd_col (r : List UInt8) : ¬ (58 : UInt8) ∈ r.take (runL r WD) := by
  have e : r.take (runL r WD) = r.takeWhile (WD.contains ·) := by
    unfold runL
    have h := List.takeWhile_append_dropWhile (p := (WD.contains ·)) (l := r)
    have h2 := congrArg (List.take (r.takeWhile (WD.contains ·)).length) h
    rw [List.take_left] at h2
    exact h2.symm
  rw [e]
  intro hm
  have h := List.all_takeWhile (p := (WD.contains ·)) (l := r)
  have := List.all_eq_true.1 h _ hm
  exact absurd this zq16
theorem wd_lt {r : List UInt8} (h : bgn r LT = true) : bgn (r.take (runL r WD)) LT = true := by
  rw [bgn_take (runL_pos (bgn_imp h LT_WD))]; exact h
theorem rdW_bs (p : List UInt8) : rdW (bs p) = if decide (0 ≤ Lib.indexByte p 58) then rdRect (bs p) else if meant p then rdCell (bs p) else tkStr 3 (bs p) := by
  unfold rdW; rw [bs_data]
theorem nw_w {r : List UInt8} (hm : meant (r.take (runL r WD)) = false) : wrL r = runL r WD ∧ rdW (bs (r.take (wrL r))) = tkStr 3 (bs (r.take (runL r WD))) := by
  have e : wrL r = runL r WD := by unfold wrL; rw [hm]; rfl
  refine ⟨e, ?_⟩
  rw [e, rdW_bs, if_neg (by rw [decide_eq_true_eq, idx_mem]; exact wd_col r), hm]; rfl
theorem nw_c {r : List UInt8} (hm : meant (r.take (runL r WD)) = true) (hc : bgn (r.drop (runL r WD)) [58] = false) : wrL r = runL r WD ∧ rdW (bs (r.take (wrL r))) = rdCell (bs (r.take (runL r WD))) := by
  have e : wrL r = runL r WD := by unfold wrL; rw [hm, hc]; rfl
  refine ⟨e, ?_⟩
  rw [e, rdW_bs, if_neg (by rw [decide_eq_true_eq, idx_mem]; exact wd_col r), hm]; rfl
theorem nw_r {r : List UInt8} (hm : meant (r.take (runL r WD)) = true) (hc : bgn (r.drop (runL r WD)) [58] = true) : wrL r = runL r WD + 1 + runL (r.drop (runL r WD + 1)) WD ∧ rdW (bs (r.take (wrL r))) = rdRect (bs (r.take (runL r WD + 1 + runL (r.drop (runL r WD + 1)) WD))) := by
  have e : wrL r = runL r WD + 1 + runL (r.drop (runL r WD + 1)) WD := by unfold wrL; rw [hm, hc]; rfl
  refine ⟨e, ?_⟩
  rw [e, rdW_bs, if_pos]
  rw [decide_eq_true_eq, idx_mem]
  obtain ⟨t, ht⟩ : ∃ t, r.drop (runL r WD) = 58 :: t := by
    cases hd : r.drop (runL r WD) with
    | nil => rw [hd] at hc; simp [bgn] at hc
    | cons c t => rw [hd] at hc; have : c = 58 := by simpa [bgn] using hc
                  exact ⟨t, by rw [this]⟩
  have hx : r[runL r WD]? = some 58 := by rw [← List.head?_drop, ht]; rfl
  rw [List.mem_iff_getElem?]
  exact ⟨runL r WD, by rw [List.getElem?_take, if_pos zq17]; exact hx⟩
theorem end_is (p : List UInt8) (h : (rdT (bs p)).kind = 0) : p = [] := by
  rw [rdT_bs] at h
  by_cases hp : p = []
  · exact hp
  · rw [if_neg hp] at h
    unfold rdNum rdQ rdF rdW rdRect rdCell at h
    repeat' split at h
    all_goals simp [tk0, tkNum, tkStr, tkCode, tkRect, tkCell] at h
end Go.Proofs.YtcmjhjnpcogmgaaGreatDoor
