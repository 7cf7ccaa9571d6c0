/- The document's fault, in the words of the program's reader. New memory alone is made. The condition: a text of less than 4294967281 bytes. · The document's Meant, in the words of the program's. New memory alone is made. The condition: a text of less than 4294967281 bytes. -/
import Derived.Test.YtaamphdihmghhaaGreatDoorQRL2
namespace Go.Proofs.YtaamphdihmghhaaGreatDoor
open Go.Shelf Go.RowKit
set_option linter.all false
/-- How many bytes stand ahead of the next end of a code's name. -/
def skL (l : List UInt8) : Nat := (l.takeWhile (fun c => !(c == 33))).length
theorem skL_le (l : List UInt8) : skL l ≤ l.length := (List.takeWhile_sublist _).length_le
theorem sk_yes {l : List UInt8} {i : Nat} (hi : i < l.length) (h : ¬ l[i] = 33) : skL (l.drop i) = 1 + skL (l.drop (i + 1)) := by
  unfold skL; rw [List.drop_eq_getElem_cons hi, List.takeWhile_cons]; simp [h]; omega
theorem sk_no {l : List UInt8} {i : Nat} (hi : i < l.length) (h : l[i] = 33) : skL (l.drop i) = 0 := by
  unfold skL; rw [List.drop_eq_getElem_cons hi, List.takeWhile_cons]; simp [h]
theorem sk_out {l : List UInt8} {i : Nat} (hi : ¬ i < l.length) : skL (l.drop i) = 0 := by
  rw [List.drop_of_length_le (by omega)]; rfl
theorem sk_idx : ∀ l : List UInt8, (skL l < l.length → Lib.indexByte l 33 = skL l) ∧ (¬ skL l < l.length → Lib.indexByte l 33 = -1 ∧ ¬ (33 : UInt8) ∈ l)
  | [] => ⟨fun h => by simp at h, fun _ => ⟨rfl, by simp⟩⟩
  | c :: t => by
    have ih := sk_idx t
    by_cases hc : c = 33
    · subst hc
      have e : skL (33 :: t) = 0 := by unfold skL; rw [List.takeWhile_cons]; rfl
      rw [e]
      exact ⟨fun _ => by simp [Lib.indexByte], fun h => by simp at h⟩
    · have e : skL (c :: t) = skL t + 1 := by unfold skL; rw [List.takeWhile_cons]; simp [hc]
      rw [e, List.length_cons]
      constructor
      · intro h
        have h1 := ih.1 (by omega)
        first | (simp [Lib.indexByte, hc, h1]; done) | (simp [Lib.indexByte, hc, h1]; omega)
      · intro h
        have h1 := ih.2 (by omega)
        exact ⟨by simp [Lib.indexByte, hc, h1.1], by simp [h1.2]; exact fun e => hc e.symm⟩
theorem frL_sk (l : List UInt8) : frL l = if skL l < l.length then skL l + 1 else l.length := by
  unfold frL
  by_cases h : skL l < l.length
  · rw [if_pos h, (sk_idx l).1 h, if_pos (by omega)]; omega
  · rw [if_neg h, ((sk_idx l).2 h).1, if_neg (by omega)]
set_option maxHeartbeats 1000000 in
theorem rfault_n (s : ByteArray) (a S : Nat) (w : World) (hs : s.size < 4294967281) (ha : a ≤ s.size) (hS : skL (s.data.toList.drop a) = S) (hnf : a + S = s.size) :
    Calls Tryz.prog 19 #[.string s, .int .i64 a] w fun e w' => e = .returned (.tuple #[(.agg #[.int .i64 (tkSet (tk0 8) a).kind, .int .i64 (tkSet (tk0 8) a).at', .int .i64 (tkSet (tk0 8) a).num, .string (tkSet (tk0 8) a).str, .int .i64 (tkSet (tk0 8) a).c0, .int .i64 (tkSet (tk0 8) a).c1, .int .i64 (tkSet (tk0 8) a).r0, .int .i64 (tkSet (tk0 8) a).r1, .int .i64 (tkSet (tk0 8) a).r2, .int .i64 (tkSet (tk0 8) a).r3, .int .i64 (tkSet (tk0 8) a).code]), .int .i64 (a : Nat)]) ∧ Below w.heap.size w w' := by
  have hrl := skL_le (s.data.toList.drop a)
  rw [List.length_drop, ← size_len, hS] at hrl
  have HR : Hid (a + skL (s.data.toList.drop a) = a + S) := by show _ = _; rw [hS]
  clear hS
  have hwr := fun w => rwrong a w
  go_enter Tryz.func19, Tryz.ntmps19
  go_wp2
  go_loopw [6] (fun v w' => ∃ i : Nat, v = .int .i64 i ∧ a ≤ i ∧ i ≤ s.size ∧ Hid (i + skL (s.data.toList.drop i) = a + S) ∧ Below w.heap.size w w' ∧ Own w' w.heap.size #[.int .i64 (0), .int .i64 (0), .int .i64 (0), .string ⟨#[]⟩, .int .i64 (0), .int .i64 (0), .int .i64 (0), .int .i64 (0), .int .i64 (0), .int .i64 (0), .int .i64 (0)]) (fun v _ => s.size - (intOf v).toNat)
  case atStart => exact ⟨a, rfl, Nat.le_refl _, ha, HR, bal _ _, Own.new _ _ _⟩
  case round =>
    obtain ⟨i, rfl, hia, hi, hN, hB, o0⟩ := hrel
    have c0 := o0.cell
    have f0 := o0.fro
    have l0 := o0.lt
    by_cases hlt : i < s.size
    · have hlt' : (i : Int) < s.size := by omega
      have hll : i < s.data.toList.length := by rw [← size_len]; exact hlt
      by_cases h33 : s[i].toNat = 33
      · have e := sk_no hll (by rw [byte_at s i hlt hll, ← UInt8.toNat_inj]; exact h33)
        obtain rfl : i = a + S := by have := hN.out; omega
        have h33b : ((s[a + S].toNat : Int) == 33) = true := by simp; omega
        have hne : ¬ (a : Int) + (S : Int) = s.size := by omega
        have hneb : ((a : Int) + (S : Int) == (s.size : Int)) = false := by simpa using hne
        clear hN e h33
        omega
      · have e := sk_yes hll (by rw [byte_at s i hlt hll, ← UInt8.toNat_inj]; exact h33)
        have HN : Hid (i + 1 + skL (s.data.toList.drop (i + 1)) = a + S) := by show _ = _; have := hN.out; omega
        have h33' : ¬ (s[i].toNat : Int) = 33 := by omega
        have h33b : ((s[i].toNat : Int) == 33) = false := by simpa using h33'
        clear hN e h33
        go_wp2
        exact ⟨⟨i + 1, by go_num, by omega, by omega, HN, by assumption, by assumption⟩, by simp [intOf]; omega⟩
    · have hlt' : ¬ (i : Int) < s.size := by omega
      have e := sk_out (l := s.data.toList) (i := i) (by rw [← size_len]; exact hlt)
      have hie : i = a + S := by have := hN.out; omega
      obtain rfl : i = s.size := by omega
      clear hN e
      clear hie hnf
      go_wp2_with (first | (go_at_call 34; first | (refine (hq _).mono ?_; clear hq; rintro e w1 ⟨rfl, hb⟩; have hB1 : Below w.heap.size w w1 := bup (by with_reducible (repeat' first | assumption | exact Below.refl _ _ | refine Below.drew ?_ | refine Below.setCell ?_ (by first | exact Nat.le_refl _ | (simp; done) | (simp; omega) | omega) _ | refine Below.alloc ?_ (by first | exact Nat.le_refl _ | (simp; done) | (simp; omega) | omega) _)) hb; have o1 : Own w1 (w.heap.size) #[.int .i64 (0), .int .i64 (0), .int .i64 (0), .string ⟨#[]⟩, .int .i64 (0), .int .i64 (0), .int .i64 (0), .int .i64 (0), .int .i64 (0), .int .i64 (0), .int .i64 (0)] := Own.keep (by with_reducible (repeat' first | assumption | refine Own.drew ?_ | (refine Own.at ?_; first | rfl | (simp; done)) | refine Own.past ?_ _)) hb; have c0 := o1.cell; have f0 := o1.fro; have l0 := o1.lt; clear hb)) | (go_at_call 33; first | (refine (hwr _).mono ?_; clear hwr; rintro e w1 ⟨rfl, hb⟩; have hB1 : Below w.heap.size w w1 := bup (by with_reducible (repeat' first | assumption | exact Below.refl _ _ | refine Below.drew ?_ | refine Below.setCell ?_ (by first | exact Nat.le_refl _ | (simp; done) | (simp; omega) | omega) _ | refine Below.alloc ?_ (by first | exact Nat.le_refl _ | (simp; done) | (simp; omega) | omega) _)) hb; have o1 : Own w1 (w.heap.size) #[.int .i64 (0), .int .i64 (0), .int .i64 (0), .string ⟨#[]⟩, .int .i64 (0), .int .i64 (0), .int .i64 (0), .int .i64 (0), .int .i64 (0), .int .i64 (0), .int .i64 (0)] := Own.keep (by with_reducible (repeat' first | assumption | refine Own.drew ?_ | (refine Own.at ?_; first | rfl | (simp; done)) | refine Own.past ?_ _)) hb; have c0 := o1.cell; have f0 := o1.fro; have l0 := o1.lt; clear hb)))
      exact bodyPost_ret (v := .tuple #[(.agg #[.int .i64 (tkSet (tk0 8) a).kind, .int .i64 (tkSet (tk0 8) a).at', .int .i64 (tkSet (tk0 8) a).num, .string (tkSet (tk0 8) a).str, .int .i64 (tkSet (tk0 8) a).c0, .int .i64 (tkSet (tk0 8) a).c1, .int .i64 (tkSet (tk0 8) a).r0, .int .i64 (tkSet (tk0 8) a).r1, .int .i64 (tkSet (tk0 8) a).r2, .int .i64 (tkSet (tk0 8) a).r3, .int .i64 (tkSet (tk0 8) a).code]), .int .i64 (a : Nat)]) (by simp [results, Tryz.results19, go_sem, c0, f0, l0, tk0, tkSet]) rfl ⟨rfl, by with_reducible (repeat' first | assumption | exact Below.refl _ _ | refine Below.drew ?_ | refine Below.setCell ?_ (by first | exact Nat.le_refl _ | (simp; done) | (simp; omega) | omega) _ | refine Below.alloc ?_ (by first | exact Nat.le_refl _ | (simp; done) | (simp; omega) | omega) _)⟩
set_option maxHeartbeats 1000000 in
theorem rfault_f (s : ByteArray) (a S : Nat) (w : World) (hs : s.size < 4294967281) (ha : a ≤ s.size) (hS : skL (s.data.toList.drop a) = S) (hnf : a + S < s.size) (hk : Vv.namedOk (s.extract a (a + S + 1)) = false) :
    Calls Tryz.prog 19 #[.string s, .int .i64 a] w fun e w' => e = .returned (.tuple #[(.agg #[.int .i64 (tkSet (tk0 8) a).kind, .int .i64 (tkSet (tk0 8) a).at', .int .i64 (tkSet (tk0 8) a).num, .string (tkSet (tk0 8) a).str, .int .i64 (tkSet (tk0 8) a).c0, .int .i64 (tkSet (tk0 8) a).c1, .int .i64 (tkSet (tk0 8) a).r0, .int .i64 (tkSet (tk0 8) a).r1, .int .i64 (tkSet (tk0 8) a).r2, .int .i64 (tkSet (tk0 8) a).r3, .int .i64 (tkSet (tk0 8) a).code]), .int .i64 (a : Nat)]) ∧ Below w.heap.size w w' := by
  have hrl := skL_le (s.data.toList.drop a)
  rw [List.length_drop, ← size_len, hS] at hrl
  have HR : Hid (a + skL (s.data.toList.drop a) = a + S) := by show _ = _; rw [hS]
  clear hS
  have hq := fun w => Vv.rnamedAny (s.extract a (a + S + 1)) w
  have hSs : (a : Int) + (S : Int) + 1 ≤ s.size := by omega
  rw [hk] at hq
  clear hk
  have hwr := fun w => rwrong a w
  go_enter Tryz.func19, Tryz.ntmps19
  go_wp2
  go_loopw [6] (fun v w' => ∃ i : Nat, v = .int .i64 i ∧ a ≤ i ∧ i ≤ s.size ∧ Hid (i + skL (s.data.toList.drop i) = a + S) ∧ Below w.heap.size w w' ∧ Own w' w.heap.size #[.int .i64 (0), .int .i64 (0), .int .i64 (0), .string ⟨#[]⟩, .int .i64 (0), .int .i64 (0), .int .i64 (0), .int .i64 (0), .int .i64 (0), .int .i64 (0), .int .i64 (0)]) (fun v _ => s.size - (intOf v).toNat)
  case atStart => exact ⟨a, rfl, Nat.le_refl _, ha, HR, bal _ _, Own.new _ _ _⟩
  case round =>
    obtain ⟨i, rfl, hia, hi, hN, hB, o0⟩ := hrel
    have c0 := o0.cell
    have f0 := o0.fro
    have l0 := o0.lt
    by_cases hlt : i < s.size
    · have hlt' : (i : Int) < s.size := by omega
      have hll : i < s.data.toList.length := by rw [← size_len]; exact hlt
      by_cases h33 : s[i].toNat = 33
      · have e := sk_no hll (by rw [byte_at s i hlt hll, ← UInt8.toNat_inj]; exact h33)
        obtain rfl : i = a + S := by have := hN.out; omega
        have h33b : ((s[a + S].toNat : Int) == 33) = true := by simp; omega
        have hne : ¬ (a : Int) + (S : Int) = s.size := by omega
        have hneb : ((a : Int) + (S : Int) == (s.size : Int)) = false := by simpa using hne
        clear hN e h33
        go_wp2_with (first | (go_at_call 34; first | (refine (hq _).mono ?_; clear hq; rintro e w1 ⟨rfl, hb⟩; have hB1 : Below w.heap.size w w1 := bup (by with_reducible (repeat' first | assumption | exact Below.refl _ _ | refine Below.drew ?_ | refine Below.setCell ?_ (by first | exact Nat.le_refl _ | (simp; done) | (simp; omega) | omega) _ | refine Below.alloc ?_ (by first | exact Nat.le_refl _ | (simp; done) | (simp; omega) | omega) _)) hb; have o1 : Own w1 (w.heap.size) #[.int .i64 (0), .int .i64 (0), .int .i64 (0), .string ⟨#[]⟩, .int .i64 (0), .int .i64 (0), .int .i64 (0), .int .i64 (0), .int .i64 (0), .int .i64 (0), .int .i64 (0)] := Own.keep (by with_reducible (repeat' first | assumption | refine Own.drew ?_ | (refine Own.at ?_; first | rfl | (simp; done)) | refine Own.past ?_ _)) hb; have c0 := o1.cell; have f0 := o1.fro; have l0 := o1.lt; clear hb)) | (go_at_call 33; first | (refine (hwr _).mono ?_; clear hwr; rintro e w1 ⟨rfl, hb⟩; have hB1 : Below w.heap.size w w1 := bup (by with_reducible (repeat' first | assumption | exact Below.refl _ _ | refine Below.drew ?_ | refine Below.setCell ?_ (by first | exact Nat.le_refl _ | (simp; done) | (simp; omega) | omega) _ | refine Below.alloc ?_ (by first | exact Nat.le_refl _ | (simp; done) | (simp; omega) | omega) _)) hb; have o1 : Own w1 (w.heap.size) #[.int .i64 (0), .int .i64 (0), .int .i64 (0), .string ⟨#[]⟩, .int .i64 (0), .int .i64 (0), .int .i64 (0), .int .i64 (0), .int .i64 (0), .int .i64 (0), .int .i64 (0)] := Own.keep (by with_reducible (repeat' first | assumption | refine Own.drew ?_ | (refine Own.at ?_; first | rfl | (simp; done)) | refine Own.past ?_ _)) hb; have c0 := o1.cell; have f0 := o1.fro; have l0 := o1.lt; clear hb)))
        exact bodyPost_ret (v := .tuple #[(.agg #[.int .i64 (tkSet (tk0 8) a).kind, .int .i64 (tkSet (tk0 8) a).at', .int .i64 (tkSet (tk0 8) a).num, .string (tkSet (tk0 8) a).str, .int .i64 (tkSet (tk0 8) a).c0, .int .i64 (tkSet (tk0 8) a).c1, .int .i64 (tkSet (tk0 8) a).r0, .int .i64 (tkSet (tk0 8) a).r1, .int .i64 (tkSet (tk0 8) a).r2, .int .i64 (tkSet (tk0 8) a).r3, .int .i64 (tkSet (tk0 8) a).code]), .int .i64 (a : Nat)]) (by simp [results, Tryz.results19, go_sem, c0, f0, l0, tk0, tkSet]) rfl ⟨rfl, by with_reducible (repeat' first | assumption | exact Below.refl _ _ | refine Below.drew ?_ | refine Below.setCell ?_ (by first | exact Nat.le_refl _ | (simp; done) | (simp; omega) | omega) _ | refine Below.alloc ?_ (by first | exact Nat.le_refl _ | (simp; done) | (simp; omega) | omega) _)⟩
      · have e := sk_yes hll (by rw [byte_at s i hlt hll, ← UInt8.toNat_inj]; exact h33)
        have HN : Hid (i + 1 + skL (s.data.toList.drop (i + 1)) = a + S) := by show _ = _; have := hN.out; omega
        have h33' : ¬ (s[i].toNat : Int) = 33 := by omega
        have h33b : ((s[i].toNat : Int) == 33) = false := by simpa using h33'
        clear hN e h33
        go_wp2
        exact ⟨⟨i + 1, by go_num, by omega, by omega, HN, by assumption, by assumption⟩, by simp [intOf]; omega⟩
    · have hlt' : ¬ (i : Int) < s.size := by omega
      have e := sk_out (l := s.data.toList) (i := i) (by rw [← size_len]; exact hlt)
      have hie : i = a + S := by have := hN.out; omega
      obtain rfl : i = s.size := by omega
      clear hN e
      omega
set_option maxHeartbeats 1000000 in
theorem rfault_c (s : ByteArray) (a S : Nat) (w : World) (hs : s.size < 4294967281) (ha : a ≤ s.size) (hS : skL (s.data.toList.drop a) = S) (hnf : a + S < s.size) (hk : Vv.namedOk (s.extract a (a + S + 1)) = true) (hc : Vv.namedC (s.extract a (a + S + 1)) = 1) :
    Calls Tryz.prog 19 #[.string s, .int .i64 a] w fun e w' => e = .returned (.tuple #[(.agg #[.int .i64 (tkSet (tk0 8) a).kind, .int .i64 (tkSet (tk0 8) a).at', .int .i64 (tkSet (tk0 8) a).num, .string (tkSet (tk0 8) a).str, .int .i64 (tkSet (tk0 8) a).c0, .int .i64 (tkSet (tk0 8) a).c1, .int .i64 (tkSet (tk0 8) a).r0, .int .i64 (tkSet (tk0 8) a).r1, .int .i64 (tkSet (tk0 8) a).r2, .int .i64 (tkSet (tk0 8) a).r3, .int .i64 (tkSet (tk0 8) a).code]), .int .i64 (a : Nat)]) ∧ Below w.heap.size w w' := by
  have hrl := skL_le (s.data.toList.drop a)
  rw [List.length_drop, ← size_len, hS] at hrl
  have HR : Hid (a + skL (s.data.toList.drop a) = a + S) := by show _ = _; rw [hS]
  clear hS
  have hq := fun w => Vv.rnamedAny (s.extract a (a + S + 1)) w
  have hSs : (a : Int) + (S : Int) + 1 ≤ s.size := by omega
  rw [hk, hc] at hq
  clear hk hc
  have hwr := fun w => rwrong a w
  go_enter Tryz.func19, Tryz.ntmps19
  go_wp2
  go_loopw [6] (fun v w' => ∃ i : Nat, v = .int .i64 i ∧ a ≤ i ∧ i ≤ s.size ∧ Hid (i + skL (s.data.toList.drop i) = a + S) ∧ Below w.heap.size w w' ∧ Own w' w.heap.size #[.int .i64 (0), .int .i64 (0), .int .i64 (0), .string ⟨#[]⟩, .int .i64 (0), .int .i64 (0), .int .i64 (0), .int .i64 (0), .int .i64 (0), .int .i64 (0), .int .i64 (0)]) (fun v _ => s.size - (intOf v).toNat)
  case atStart => exact ⟨a, rfl, Nat.le_refl _, ha, HR, bal _ _, Own.new _ _ _⟩
  case round =>
    obtain ⟨i, rfl, hia, hi, hN, hB, o0⟩ := hrel
    have c0 := o0.cell
    have f0 := o0.fro
    have l0 := o0.lt
    by_cases hlt : i < s.size
    · have hlt' : (i : Int) < s.size := by omega
      have hll : i < s.data.toList.length := by rw [← size_len]; exact hlt
      by_cases h33 : s[i].toNat = 33
      · have e := sk_no hll (by rw [byte_at s i hlt hll, ← UInt8.toNat_inj]; exact h33)
        obtain rfl : i = a + S := by have := hN.out; omega
        have h33b : ((s[a + S].toNat : Int) == 33) = true := by simp; omega
        have hne : ¬ (a : Int) + (S : Int) = s.size := by omega
        have hneb : ((a : Int) + (S : Int) == (s.size : Int)) = false := by simpa using hne
        clear hN e h33
        go_wp2_with (first | (go_at_call 34; first | (refine (hq _).mono ?_; clear hq; rintro e w1 ⟨rfl, hb⟩; have hB1 : Below w.heap.size w w1 := bup (by with_reducible (repeat' first | assumption | exact Below.refl _ _ | refine Below.drew ?_ | refine Below.setCell ?_ (by first | exact Nat.le_refl _ | (simp; done) | (simp; omega) | omega) _ | refine Below.alloc ?_ (by first | exact Nat.le_refl _ | (simp; done) | (simp; omega) | omega) _)) hb; have o1 : Own w1 (w.heap.size) #[.int .i64 (0), .int .i64 (0), .int .i64 (0), .string ⟨#[]⟩, .int .i64 (0), .int .i64 (0), .int .i64 (0), .int .i64 (0), .int .i64 (0), .int .i64 (0), .int .i64 (0)] := Own.keep (by with_reducible (repeat' first | assumption | refine Own.drew ?_ | (refine Own.at ?_; first | rfl | (simp; done)) | refine Own.past ?_ _)) hb; have c0 := o1.cell; have f0 := o1.fro; have l0 := o1.lt; clear hb)) | (go_at_call 33; first | (refine (hwr _).mono ?_; clear hwr; rintro e w1 ⟨rfl, hb⟩; have hB1 : Below w.heap.size w w1 := bup (by with_reducible (repeat' first | assumption | exact Below.refl _ _ | refine Below.drew ?_ | refine Below.setCell ?_ (by first | exact Nat.le_refl _ | (simp; done) | (simp; omega) | omega) _ | refine Below.alloc ?_ (by first | exact Nat.le_refl _ | (simp; done) | (simp; omega) | omega) _)) hb; have o1 : Own w1 (w.heap.size) #[.int .i64 (0), .int .i64 (0), .int .i64 (0), .string ⟨#[]⟩, .int .i64 (0), .int .i64 (0), .int .i64 (0), .int .i64 (0), .int .i64 (0), .int .i64 (0), .int .i64 (0)] := Own.keep (by with_reducible (repeat' first | assumption | refine Own.drew ?_ | (refine Own.at ?_; first | rfl | (simp; done)) | refine Own.past ?_ _)) hb; have c0 := o1.cell; have f0 := o1.fro; have l0 := o1.lt; clear hb)))
        exact bodyPost_ret (v := .tuple #[(.agg #[.int .i64 (tkSet (tk0 8) a).kind, .int .i64 (tkSet (tk0 8) a).at', .int .i64 (tkSet (tk0 8) a).num, .string (tkSet (tk0 8) a).str, .int .i64 (tkSet (tk0 8) a).c0, .int .i64 (tkSet (tk0 8) a).c1, .int .i64 (tkSet (tk0 8) a).r0, .int .i64 (tkSet (tk0 8) a).r1, .int .i64 (tkSet (tk0 8) a).r2, .int .i64 (tkSet (tk0 8) a).r3, .int .i64 (tkSet (tk0 8) a).code]), .int .i64 (a : Nat)]) (by simp [results, Tryz.results19, go_sem, c0, f0, l0, tk0, tkSet]) rfl ⟨rfl, by with_reducible (repeat' first | assumption | exact Below.refl _ _ | refine Below.drew ?_ | refine Below.setCell ?_ (by first | exact Nat.le_refl _ | (simp; done) | (simp; omega) | omega) _ | refine Below.alloc ?_ (by first | exact Nat.le_refl _ | (simp; done) | (simp; omega) | omega) _)⟩
      · have e := sk_yes hll (by rw [byte_at s i hlt hll, ← UInt8.toNat_inj]; exact h33)
        have HN : Hid (i + 1 + skL (s.data.toList.drop (i + 1)) = a + S) := by show _ = _; have := hN.out; omega
        have h33' : ¬ (s[i].toNat : Int) = 33 := by omega
        have h33b : ((s[i].toNat : Int) == 33) = false := by simpa using h33'
        clear hN e h33
        go_wp2
        exact ⟨⟨i + 1, by go_num, by omega, by omega, HN, by assumption, by assumption⟩, by simp [intOf]; omega⟩
    · have hlt' : ¬ (i : Int) < s.size := by omega
      have e := sk_out (l := s.data.toList) (i := i) (by rw [← size_len]; exact hlt)
      have hie : i = a + S := by have := hN.out; omega
      obtain rfl : i = s.size := by omega
      clear hN e
      omega
set_option maxHeartbeats 1000000 in
theorem rfault_t (s : ByteArray) (a S : Nat) (w : World) (hs : s.size < 4294967281) (ha : a ≤ s.size) (hS : skL (s.data.toList.drop a) = S) (hnf : a + S < s.size) (hk : Vv.namedOk (s.extract a (a + S + 1)) = true) (hc : ¬ Vv.namedC (s.extract a (a + S + 1)) = 1) :
    Calls Tryz.prog 19 #[.string s, .int .i64 a] w fun e w' => e = .returned (.tuple #[(.agg #[.int .i64 (tkSet (tkCode (Vv.namedC (s.extract a (a + S + 1)))) a).kind, .int .i64 (tkSet (tkCode (Vv.namedC (s.extract a (a + S + 1)))) a).at', .int .i64 (tkSet (tkCode (Vv.namedC (s.extract a (a + S + 1)))) a).num, .string (tkSet (tkCode (Vv.namedC (s.extract a (a + S + 1)))) a).str, .int .i64 (tkSet (tkCode (Vv.namedC (s.extract a (a + S + 1)))) a).c0, .int .i64 (tkSet (tkCode (Vv.namedC (s.extract a (a + S + 1)))) a).c1, .int .i64 (tkSet (tkCode (Vv.namedC (s.extract a (a + S + 1)))) a).r0, .int .i64 (tkSet (tkCode (Vv.namedC (s.extract a (a + S + 1)))) a).r1, .int .i64 (tkSet (tkCode (Vv.namedC (s.extract a (a + S + 1)))) a).r2, .int .i64 (tkSet (tkCode (Vv.namedC (s.extract a (a + S + 1)))) a).r3, .int .i64 (tkSet (tkCode (Vv.namedC (s.extract a (a + S + 1)))) a).code]), .int .i64 (a + S + 1 : Nat)]) ∧ Below w.heap.size w w' := by
  have hrl := skL_le (s.data.toList.drop a)
  rw [List.length_drop, ← size_len, hS] at hrl
  have HR : Hid (a + skL (s.data.toList.drop a) = a + S) := by show _ = _; rw [hS]
  clear hS
  have hq := fun w => Vv.rnamedAny (s.extract a (a + S + 1)) w
  have hSs : (a : Int) + (S : Int) + 1 ≤ s.size := by omega
  rw [hk] at hq
  clear hk
  obtain ⟨C, hC⟩ : ∃ C, Vv.namedC (s.extract a (a + S + 1)) = C := ⟨_, rfl⟩
  rw [hC] at hq hc ⊢
  clear hC
  have hcb : (C == 1) = false := by simpa using hc
  have hwr := fun w => rwrong a w
  go_enter Tryz.func19, Tryz.ntmps19
  go_wp2
  go_loopw [6] (fun v w' => ∃ i : Nat, v = .int .i64 i ∧ a ≤ i ∧ i ≤ s.size ∧ Hid (i + skL (s.data.toList.drop i) = a + S) ∧ Below w.heap.size w w' ∧ Own w' w.heap.size #[.int .i64 (0), .int .i64 (0), .int .i64 (0), .string ⟨#[]⟩, .int .i64 (0), .int .i64 (0), .int .i64 (0), .int .i64 (0), .int .i64 (0), .int .i64 (0), .int .i64 (0)]) (fun v _ => s.size - (intOf v).toNat)
  case atStart => exact ⟨a, rfl, Nat.le_refl _, ha, HR, bal _ _, Own.new _ _ _⟩
  case round =>
    obtain ⟨i, rfl, hia, hi, hN, hB, o0⟩ := hrel
    have c0 := o0.cell
    have f0 := o0.fro
    have l0 := o0.lt
    by_cases hlt : i < s.size
    · have hlt' : (i : Int) < s.size := by omega
      have hll : i < s.data.toList.length := by rw [← size_len]; exact hlt
      by_cases h33 : s[i].toNat = 33
      · have e := sk_no hll (by rw [byte_at s i hlt hll, ← UInt8.toNat_inj]; exact h33)
        obtain rfl : i = a + S := by have := hN.out; omega
        have h33b : ((s[a + S].toNat : Int) == 33) = true := by simp; omega
        have hne : ¬ (a : Int) + (S : Int) = s.size := by omega
        have hneb : ((a : Int) + (S : Int) == (s.size : Int)) = false := by simpa using hne
        clear hN e h33
        go_wp2_with (first | (go_at_call 34; first | (refine (hq _).mono ?_; clear hq; rintro e w1 ⟨rfl, hb⟩; have hB1 : Below w.heap.size w w1 := bup (by with_reducible (repeat' first | assumption | exact Below.refl _ _ | refine Below.drew ?_ | refine Below.setCell ?_ (by first | exact Nat.le_refl _ | (simp; done) | (simp; omega) | omega) _ | refine Below.alloc ?_ (by first | exact Nat.le_refl _ | (simp; done) | (simp; omega) | omega) _)) hb; have o1 : Own w1 (w.heap.size) #[.int .i64 (0), .int .i64 (0), .int .i64 (0), .string ⟨#[]⟩, .int .i64 (0), .int .i64 (0), .int .i64 (0), .int .i64 (0), .int .i64 (0), .int .i64 (0), .int .i64 (0)] := Own.keep (by with_reducible (repeat' first | assumption | refine Own.drew ?_ | (refine Own.at ?_; first | rfl | (simp; done)) | refine Own.past ?_ _)) hb; have c0 := o1.cell; have f0 := o1.fro; have l0 := o1.lt; clear hb)) | (go_at_call 33; first | (refine (hwr _).mono ?_; clear hwr; rintro e w1 ⟨rfl, hb⟩; have hB1 : Below w.heap.size w w1 := bup (by with_reducible (repeat' first | assumption | exact Below.refl _ _ | refine Below.drew ?_ | refine Below.setCell ?_ (by first | exact Nat.le_refl _ | (simp; done) | (simp; omega) | omega) _ | refine Below.alloc ?_ (by first | exact Nat.le_refl _ | (simp; done) | (simp; omega) | omega) _)) hb; have o1 : Own w1 (w.heap.size) #[.int .i64 (0), .int .i64 (0), .int .i64 (0), .string ⟨#[]⟩, .int .i64 (0), .int .i64 (0), .int .i64 (0), .int .i64 (0), .int .i64 (0), .int .i64 (0), .int .i64 (0)] := Own.keep (by with_reducible (repeat' first | assumption | refine Own.drew ?_ | (refine Own.at ?_; first | rfl | (simp; done)) | refine Own.past ?_ _)) hb; have c0 := o1.cell; have f0 := o1.fro; have l0 := o1.lt; clear hb)))
        exact bodyPost_ret (v := .tuple #[(.agg #[.int .i64 (tkSet (tkCode C) a).kind, .int .i64 (tkSet (tkCode C) a).at', .int .i64 (tkSet (tkCode C) a).num, .string (tkSet (tkCode C) a).str, .int .i64 (tkSet (tkCode C) a).c0, .int .i64 (tkSet (tkCode C) a).c1, .int .i64 (tkSet (tkCode C) a).r0, .int .i64 (tkSet (tkCode C) a).r1, .int .i64 (tkSet (tkCode C) a).r2, .int .i64 (tkSet (tkCode C) a).r3, .int .i64 (tkSet (tkCode C) a).code]), .int .i64 (a + S + 1 : Nat)]) (by simp [results, Tryz.results19, go_sem, c0, f0, l0, tkCode, tkSet]) rfl ⟨rfl, by with_reducible (repeat' first | assumption | exact Below.refl _ _ | refine Below.drew ?_ | refine Below.setCell ?_ (by first | exact Nat.le_refl _ | (simp; done) | (simp; omega) | omega) _ | refine Below.alloc ?_ (by first | exact Nat.le_refl _ | (simp; done) | (simp; omega) | omega) _)⟩
      · have e := sk_yes hll (by rw [byte_at s i hlt hll, ← UInt8.toNat_inj]; exact h33)
        have HN : Hid (i + 1 + skL (s.data.toList.drop (i + 1)) = a + S) := by show _ = _; have := hN.out; omega
        have h33' : ¬ (s[i].toNat : Int) = 33 := by omega
        have h33b : ((s[i].toNat : Int) == 33) = false := by simpa using h33'
        clear hN e h33
        go_wp2
        exact ⟨⟨i + 1, by go_num, by omega, by omega, HN, by assumption, by assumption⟩, by simp [intOf]; omega⟩
    · have hlt' : ¬ (i : Int) < s.size := by omega
      have e := sk_out (l := s.data.toList) (i := i) (by rw [← size_len]; exact hlt)
      have hie : i = a + S := by have := hN.out; omega
      obtain rfl : i = s.size := by omega
      clear hN e
      omega
theorem rfault (s : ByteArray) (a : Nat) (w : World) (hs : s.size < 4294967281) (ha : a ≤ s.size) :
    Calls Tryz.prog 19 #[.string s, .int .i64 a] w fun e w' => e = .returned (.tuple #[(.agg #[.int .i64 (tkSet (rdF (s.extract a (a + frL (s.data.toList.drop a)))) a).kind, .int .i64 (tkSet (rdF (s.extract a (a + frL (s.data.toList.drop a)))) a).at', .int .i64 (tkSet (rdF (s.extract a (a + frL (s.data.toList.drop a)))) a).num, .string (tkSet (rdF (s.extract a (a + frL (s.data.toList.drop a)))) a).str, .int .i64 (tkSet (rdF (s.extract a (a + frL (s.data.toList.drop a)))) a).c0, .int .i64 (tkSet (rdF (s.extract a (a + frL (s.data.toList.drop a)))) a).c1, .int .i64 (tkSet (rdF (s.extract a (a + frL (s.data.toList.drop a)))) a).r0, .int .i64 (tkSet (rdF (s.extract a (a + frL (s.data.toList.drop a)))) a).r1, .int .i64 (tkSet (rdF (s.extract a (a + frL (s.data.toList.drop a)))) a).r2, .int .i64 (tkSet (rdF (s.extract a (a + frL (s.data.toList.drop a)))) a).r3, .int .i64 (tkSet (rdF (s.extract a (a + frL (s.data.toList.drop a)))) a).code]), .int .i64 (endAt (rdF (s.extract a (a + frL (s.data.toList.drop a)))) a (frL (s.data.toList.drop a)) : Nat)]) ∧ Below w.heap.size w w' := by
  have hl : (s.data.toList.drop a).length = s.size - a := by rw [List.length_drop, ← size_len]
  have hle := skL_le (s.data.toList.drop a)
  rw [frL_sk]
  by_cases h : skL (s.data.toList.drop a) < (s.data.toList.drop a).length
  · rw [if_pos h, ← Nat.add_assoc]
    cases hk : Vv.namedOk (s.extract a (a + skL (s.data.toList.drop a) + 1))
    · have e : rdF (s.extract a (a + skL (s.data.toList.drop a) + 1)) = tk0 8 := by simp [rdF, hk]
      rw [e]
      exact rfault_f s a _ w hs ha rfl (by omega) hk
    · by_cases hc : Vv.namedC (s.extract a (a + skL (s.data.toList.drop a) + 1)) = 1
      · have e : rdF (s.extract a (a + skL (s.data.toList.drop a) + 1)) = tk0 8 := by simp [rdF, hc]
        rw [e]
        exact rfault_c s a _ w hs ha rfl (by omega) hk hc
      · have e : rdF (s.extract a (a + skL (s.data.toList.drop a) + 1)) = tkCode (Vv.namedC (s.extract a (a + skL (s.data.toList.drop a) + 1))) := by simp [rdF, hk, hc]
        rw [e]
        exact rfault_t s a _ w hs ha rfl (by omega) hk hc
  · rw [if_neg h, hl]
    have hz : a + (s.size - a) = s.size := by omega
    rw [hz]
    have hk : Vv.namedOk (s.extract a s.size) = false := by
      cases hk : Vv.namedOk (s.extract a s.size)
      · rfl
      · have := named_has _ hk
        rw [ext_from] at this
        exact absurd this ((sk_idx _).2 h).2
    have e : rdF (s.extract a s.size) = tk0 8 := by simp [rdF, hk]
    rw [e]
    exact rfault_n s a _ w hs ha rfl (by omega)
end Go.Proofs.YtaamphdihmghhaaGreatDoor
namespace Go.Proofs.YtaamphdihmghhaaGreatDoor
open Go.Shelf Go.RowKit
set_option linter.all false
theorem meant_is (l : List UInt8) : (bgn l LT && meant l) = decide (0 < runL l LT ∧ runL l LT < l.length ∧ runL l LT + runL (l.drop (runL l LT)) DG = l.length) := by
  have h1 := runL_le l LT
  have h2 : bgn l LT = decide (0 < runL l LT) := by
    cases l with
    | nil => rfl
    | cons c t =>
      unfold runL
      rw [List.takeWhile_cons]
      cases hc : LT.contains c
      · simp only [bgn, hc]; rfl
      · simp only [bgn, hc]; simp
  have h3 := List.length_drop (l := l) (i := runL l LT)
  have h4 : (l.drop (runL l LT)).isEmpty = decide ((l.drop (runL l LT)).length = 0) := by
    cases l.drop (runL l LT) <;> rfl
  have h5 := runL_le (l.drop (runL l LT)) DG
  unfold meant
  rw [h2, h4, Bool.eq_iff_iff]
  simp only [Bool.and_eq_true, decide_eq_true_eq, beq_iff_eq, Bool.not_eq_true', decide_eq_false_iff_not]
  omega
set_option maxHeartbeats 1000000 in
theorem rmeant (s : ByteArray) (w : World) (hs : s.size < 4294967281) :
    Calls Tryz.prog 36 #[.string s] w fun e w' => e = .returned (.bool (bgn s.data.toList LT && meant s.data.toList)) ∧ Below w.heap.size w w' := by
  rw [meant_is, ← size_len]
  have hk := runL_le s.data.toList LT
  have hd := runL_le (s.data.toList.drop (runL s.data.toList LT)) DG
  rw [List.length_drop] at hd
  rw [← size_len] at hk hd
  have HR : Hid (0 + runL (s.data.toList.drop 0) LT = runL s.data.toList LT) := by show _ = _; rw [List.drop_zero]; omega
  have HD0 : Hid (∀ k, runL s.data.toList LT = k → k + runL (s.data.toList.drop k) DG = k + runL (s.data.toList.drop (runL s.data.toList LT)) DG) := fun k e => by rw [e]
  obtain ⟨k, hke⟩ : ∃ k, runL s.data.toList LT = k := ⟨_, rfl⟩
  have HD := HD0.out k hke
  rw [hke] at hk hd HR HD ⊢
  obtain ⟨D, hDe⟩ : ∃ D, runL (s.data.toList.drop k) DG = D := ⟨_, rfl⟩
  rw [hDe] at hd ⊢
  have HDD : Hid (k + runL (s.data.toList.drop k) DG = k + D) := by show _ = _; rw [hDe]
  clear HD HD0 hke hDe
  obtain ⟨B, hBe⟩ : ∃ B, decide (0 < k ∧ k < s.size ∧ k + D = s.size) = B := ⟨_, rfl⟩
  rw [hBe]
  have HB : Hid (decide (0 < k ∧ k < s.size ∧ k + D = s.size) = B) := hBe
  clear hBe
  go_enter Tryz.func36, Tryz.ntmps36
  go_wp2
  go_loopw [3] (fun v w' => ∃ i : Nat, v = .int .i64 i ∧ i ≤ s.size ∧ Hid (i + runL (s.data.toList.drop i) LT = k) ∧ Below w.heap.size w w') (fun v _ => s.size - (intOf v).toNat)
  case atStart => exact ⟨0, rfl, by omega, HR, Below.refl _ _⟩
  case round =>
    obtain ⟨i, rfl, hi, hN, hB⟩ := hrel
    have hfin : ∀ (i : Nat), i = k → True := fun _ _ => trivial
    by_cases hlt : i < s.size
    · have hlt' : (i : Int) < s.size := by omega
      have hll : i < s.data.toList.length := by rw [← size_len]; exact hlt
      have hq := fun w => rletter s[i] w
      cases hp : LT.contains s[i]
      · rw [hp] at hq
        have e := run_no (cs := LT) hll (by rw [byte_at s i hlt hll]; exact hp)
        obtain rfl : i = k := by have := hN.out; omega
        clear hN e hp hfin
        by_cases hi0 : (i : Int) = 0
        · have HF : Hid (decide (0 < i ∧ i < s.size ∧ i + D = s.size) = false) := by show _ = _; simp; omega
          have hi0b : ((i : Int) == 0) = true := by simpa using hi0
          clear hi0
          go_wp2_with (go_at_call 20; first | (refine (hq _).mono ?_; clear hq; rintro e w1 ⟨rfl, hb⟩; have hB : Below w.heap.size w w1 := bup (by with_reducible (repeat' first | assumption | exact Below.refl _ _ | refine Below.drew ?_ | refine Below.setCell ?_ (by first | exact Nat.le_refl _ | (simp; done) | (simp; omega) | omega) _ | refine Below.alloc ?_ (by first | exact Nat.le_refl _ | (simp; done) | (simp; omega) | omega) _)) hb; clear hb))
          go_ret
          exact ⟨by apply retB; rw [← HB.out, HF.out], by assumption⟩
        · have hi0b : ((i : Int) == 0) = false := by simpa using hi0
          have hne : ¬ (i : Int) = (s.size : Int) := by omega
          have hneb : ((i : Int) == (s.size : Int)) = false := by simpa using hne
          have hii : i < s.size := hlt
          go_wp2_with (go_at_call 20; first | (refine (hq _).mono ?_; clear hq; rintro e w1 ⟨rfl, hb⟩; have hB : Below w.heap.size w w1 := bup (by with_reducible (repeat' first | assumption | exact Below.refl _ _ | refine Below.drew ?_ | refine Below.setCell ?_ (by first | exact Nat.le_refl _ | (simp; done) | (simp; omega) | omega) _ | refine Below.alloc ?_ (by first | exact Nat.le_refl _ | (simp; done) | (simp; omega) | omega) _)) hb; clear hb))
          go_loopw [3] (fun v w' => ∃ j : Nat, v = .int .i64 j ∧ j ≤ s.size ∧ Hid (j + runL (s.data.toList.drop j) DG = i + D) ∧ Below w.heap.size w w') (fun v _ => s.size - (intOf v).toNat)
          case atStart => exact ⟨i, rfl, by omega, HDD, by assumption⟩
          case round =>
            obtain ⟨j, rfl, hj, hN2, hB2⟩ := hrel
            by_cases hjl : j < s.size
            · have hjl' : (j : Int) < s.size := by omega
              have hjll : j < s.data.toList.length := by rw [← size_len]; exact hjl
              have hq2 := fun w => rdigit s[j] w
              cases hp2 : DG.contains s[j]
              · rw [hp2] at hq2
                have e2 := run_no (cs := DG) hjll (by rw [byte_at s j hjl hjll]; exact hp2)
                have HF : Hid (decide (0 < i ∧ i < s.size ∧ i + D = s.size) = false) := by show _ = _; have := hN2.out; simp; omega
                clear hN2 e2 hp2
                go_wp2_with (go_at_call 16; first | (refine (hq2 _).mono ?_; clear hq2; rintro e w1 ⟨rfl, hb⟩; have hB : Below w.heap.size w w1 := bup (by with_reducible (repeat' first | assumption | exact Below.refl _ _ | refine Below.drew ?_ | refine Below.setCell ?_ (by first | exact Nat.le_refl _ | (simp; done) | (simp; omega) | omega) _ | refine Below.alloc ?_ (by first | exact Nat.le_refl _ | (simp; done) | (simp; omega) | omega) _)) hb; clear hb))
                go_ret
                exact ⟨by apply retB; rw [← HB.out, HF.out], by assumption⟩
              · rw [hp2] at hq2
                have e2 := run_yes (cs := DG) hjll (by rw [byte_at s j hjl hjll]; exact hp2)
                have HN2 : Hid (j + 1 + runL (s.data.toList.drop (j + 1)) DG = i + D) := by show _ = _; have := hN2.out; omega
                clear hN2 e2 hp2
                go_wp2_with (go_at_call 16; first | (refine (hq2 _).mono ?_; clear hq2; rintro e w1 ⟨rfl, hb⟩; have hB : Below w.heap.size w w1 := bup (by with_reducible (repeat' first | assumption | exact Below.refl _ _ | refine Below.drew ?_ | refine Below.setCell ?_ (by first | exact Nat.le_refl _ | (simp; done) | (simp; omega) | omega) _ | refine Below.alloc ?_ (by first | exact Nat.le_refl _ | (simp; done) | (simp; omega) | omega) _)) hb; clear hb))
                exact ⟨⟨j + 1, by go_num, by omega, HN2, by assumption⟩, by simp [intOf]; omega⟩
            · have hjl' : ¬ (j : Int) < s.size := by omega
              have e2 := run_out (cs := DG) (l := s.data.toList) (i := j) (by rw [← size_len]; exact hjl)
              have HF : Hid (decide (0 < i ∧ i < s.size ∧ i + D = s.size) = true) := by show _ = _; have := hN2.out; simp; omega
              clear hN2 e2
              go_wp2
              go_ret
              exact ⟨by apply retB; rw [← HB.out, HF.out], by assumption⟩
      · rw [hp] at hq
        have e := run_yes (cs := LT) hll (by rw [byte_at s i hlt hll]; exact hp)
        have HN : Hid (i + 1 + runL (s.data.toList.drop (i + 1)) LT = k) := by show _ = _; have := hN.out; omega
        clear hN e hp hfin
        go_wp2_with (go_at_call 20; first | (refine (hq _).mono ?_; clear hq; rintro e w1 ⟨rfl, hb⟩; have hB : Below w.heap.size w w1 := bup (by with_reducible (repeat' first | assumption | exact Below.refl _ _ | refine Below.drew ?_ | refine Below.setCell ?_ (by first | exact Nat.le_refl _ | (simp; done) | (simp; omega) | omega) _ | refine Below.alloc ?_ (by first | exact Nat.le_refl _ | (simp; done) | (simp; omega) | omega) _)) hb; clear hb))
        exact ⟨⟨i + 1, by go_num, by omega, HN, by assumption⟩, by simp [intOf]; omega⟩
    · have hlt' : ¬ (i : Int) < s.size := by omega
      have e := run_out (cs := LT) (l := s.data.toList) (i := i) (by rw [← size_len]; exact hlt)
      have hie : i = k := by have := hN.out; omega
      have hks : k = s.size := by omega
      have hks' : (i : Int) = (s.size : Int) := by omega
      have hksb : ((i : Int) == (s.size : Int)) = true := by simpa using hks'
      have HF : Hid (decide (0 < k ∧ k < s.size ∧ k + D = s.size) = false) := by show _ = _; simp; omega
      clear hN e hie hks hks' hfin
      by_cases hi0 : (i : Int) = 0
      · have hi0b : ((i : Int) == 0) = true := by simpa using hi0
        clear hi0
        go_wp2
        go_ret
        exact ⟨by apply retB; rw [← HB.out, HF.out], by assumption⟩
      · have hi0b : ((i : Int) == 0) = false := by simpa using hi0
        go_wp2
        go_ret
        exact ⟨by apply retB; rw [← HB.out, HF.out], by assumption⟩
end Go.Proofs.YtaamphdihmghhaaGreatDoor
