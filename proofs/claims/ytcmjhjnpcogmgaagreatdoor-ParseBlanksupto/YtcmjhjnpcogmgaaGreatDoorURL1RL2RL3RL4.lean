/- The document's small functions on bytes and words (digit, letter, part, word, Meant, wrong -/
import Derived.Test.YtcmjhjnpcogmgaaGreatDoorUAuto
import Derived.Test.YtcmjhjnpcogmgaaGreatDoorULELHLJZB
import Derived.Test.YtcmjhjnpcogmgaaGreatDoorUDcRParsePDcRParseAny
set_option linter.all false
set_option maxRecDepth 100000
set_option maxHeartbeats 4000000
namespace Go.Proofs.YtcmjhjnpcogmgaaGreatDoor
open Go.Shelf Go.RowKit
theorem dg_iff (c : UInt8) : DG.contains c = (decide (48 ≤ c.toNat) && decide (c.toNat ≤ 57)) := by
 rw [Bool.eq_iff_iff]; simp [DG, ← UInt8.toNat_inj]; omega
theorem lt_iff (c : UInt8) : LT.contains c = (decide (65 ≤ c.toNat) && decide (c.toNat ≤ 90)) := by
 rw [Bool.eq_iff_iff]; simp [LT, ← UInt8.toNat_inj]; omega
theorem wd_iff (c : UInt8) : WD.contains c = (DG.contains c || (LT.contains c || decide (c.toNat = 95))) := by
 rw [dg_iff, lt_iff, Bool.eq_iff_iff]; simp [WD, ← UInt8.toNat_inj]; omega
theorem nb_iff (c : UInt8) : NB.contains c = (DG.contains c || decide (c.toNat = 46)) := by
 rw [dg_iff, Bool.eq_iff_iff]; simp [NB, ← UInt8.toNat_inj]; omega
theorem rdigit (c : UInt8) (w : World) : Calls Tryz.prog 39 #[.int .u8 c.toNat] w fun e w' => e = .returned (.bool (DG.contains c)) ∧ Below w.heap.size w w' := by
 rw [dg_iff]
 have h1 : decide (48 ≤ c.toNat) = decide ((48 : Int) ≤ (c.toNat : Int)) := decide_eq_decide.2 zq17
 have h2 : decide (c.toNat ≤ 57) = decide ((c.toNat : Int) ≤ 57) := decide_eq_decide.2 zq17
 rw [h1, h2]
 by_cases h : (48 : Int) ≤ (c.toNat : Int)
 ·go_enter Tryz.func39, Tryz.ntmps39
  go_wp2
  go_ret
  exact ⟨by apply retB; first | (simp [h]; done) | (simp [h]; omega), Below.refl _ _⟩
 ·go_enter Tryz.func39, Tryz.ntmps39
  go_wp2
  go_ret
  exact ⟨by apply retB; first | (simp [h]; done) | (simp [h]; omega), Below.refl _ _⟩
theorem rletter (c : UInt8) (w : World) : Calls Tryz.prog 43 #[.int .u8 c.toNat] w fun e w' => e = .returned (.bool (LT.contains c)) ∧ Below w.heap.size w w' := by
 rw [lt_iff]
 have h1 : decide (65 ≤ c.toNat) = decide ((65 : Int) ≤ (c.toNat : Int)) := decide_eq_decide.2 zq17
 have h2 : decide (c.toNat ≤ 90) = decide ((c.toNat : Int) ≤ 90) := decide_eq_decide.2 zq17
 rw [h1, h2]
 by_cases h : (65 : Int) ≤ (c.toNat : Int)
 ·go_enter Tryz.func43, Tryz.ntmps43
  go_wp2
  go_ret
  exact ⟨by apply retB; first | (simp [h]; done) | (simp [h]; omega), Below.refl _ _⟩
 ·go_enter Tryz.func43, Tryz.ntmps43
  go_wp2
  go_ret
  exact ⟨by apply retB; first | (simp [h]; done) | (simp [h]; omega), Below.refl _ _⟩
theorem rpart (c : UInt8) (w : World) : Calls Tryz.prog 107 #[.int .u8 c.toNat] w fun e w' => e = .returned (.bool (WD.contains c)) ∧ Below w.heap.size w w' := by
 rw [wd_iff]
 have h3 : decide (c.toNat = 95) = ((c.toNat : Int) == 95) := by rw [Bool.eq_iff_iff]; simp; omega
 rw [h3]
 have hd := fun w => rdigit c w
 have hl := fun w => rletter c w
 revert hd hl
 generalize DG.contains c = b1
 generalize LT.contains c = b2
 intro hd hl
 cases b1
 ·cases b2
  ·go_enter Tryz.func107, Tryz.ntmps107
   go_wp2_with (first | (go_at_call 39; first | (refine (hd _).mono ?_; clear hd; rintro e w1 ⟨rfl, hb⟩; have hB := bux w zq2 hb; clear hb)) | (go_at_call 43; first | (refine (hl _).mono ?_; clear hl; rintro e w1 ⟨rfl, hb⟩; have hB := bux w zq2 hb; clear hb)))
   go_ret
   exact ⟨by apply retB; simp, zq15⟩
  ·go_enter Tryz.func107, Tryz.ntmps107
   go_wp2_with (first | (go_at_call 39; first | (refine (hd _).mono ?_; clear hd; rintro e w1 ⟨rfl, hb⟩; have hB := bux w zq2 hb; clear hb)) | (go_at_call 43; first | (refine (hl _).mono ?_; clear hl; rintro e w1 ⟨rfl, hb⟩; have hB := bux w zq2 hb; clear hb)))
   go_ret
   exact ⟨by apply retB; simp, zq15⟩
 ·go_enter Tryz.func107, Tryz.ntmps107
  go_wp2_with (first | (go_at_call 39; first | (refine (hd _).mono ?_; clear hd; rintro e w1 ⟨rfl, hb⟩; have hB := bux w zq2 hb; clear hb)) | (go_at_call 43; first | (refine (hl _).mono ?_; clear hl; rintro e w1 ⟨rfl, hb⟩; have hB := bux w zq2 hb; clear hb)))
  go_ret
  exact ⟨by apply retB; simp, zq15⟩
theorem run_yes {l cs : List UInt8} {i : Nat} (hi : i < l.length) (h : cs.contains l[i] = true) : runL (l.drop i) cs = 1 + runL (l.drop (i + 1)) cs := by
 unfold runL; rw [List.drop_eq_getElem_cons hi, List.takeWhile_cons, h]; simp; omega
theorem run_no {l cs : List UInt8} {i : Nat} (hi : i < l.length) (h : cs.contains l[i] = false) : runL (l.drop i) cs = 0 := by
 unfold runL; rw [List.drop_eq_getElem_cons hi, List.takeWhile_cons, h]; rfl
theorem run_out {l cs : List UInt8} {i : Nat} (hi : ¬ i < l.length) : runL (l.drop i) cs = 0 := by
 rw [List.drop_of_length_le zq17]; rfl
theorem byte_at (s : ByteArray) (i : Nat) (h : i < s.size) (h' : i < s.data.toList.length) : s.data.toList[i] = s[i] := rfl
theorem rword (s : ByteArray) (a : Nat) (w : World) (hs : s.size < 4294967281) (ha : a ≤ s.size) :
  Calls Tryz.prog 71 #[.string s, .int .i64 a] w fun e w' => e = .returned (.int .i64 ((a + runL (s.data.toList.drop a) WD : Nat) : Int)) ∧ Below w.heap.size w w' := by
 obtain ⟨R, hR⟩ : ∃ R, a + runL (s.data.toList.drop a) WD = R := ⟨_, rfl⟩
 rw [hR]
 have HR : Hid (a + runL (s.data.toList.drop a) WD = R) := hR
 clear hR
 go_enter Tryz.func71, Tryz.ntmps71
 go_wp2
 go_loopw [1] (fun v w' => ∃ i : Nat, v = .int .i64 i ∧ i ≤ s.size ∧ Hid (i + runL (s.data.toList.drop i) WD = R) ∧ Below w.heap.size w w') (fun v _ => s.size - (intOf v).toNat)
 case atStart => exact ⟨a, rfl, ha, HR, Below.refl _ _⟩
 case round =>
  obtain ⟨i, rfl, hi, hN, hB⟩ := hrel
  by_cases hlt : i < s.size
  ·have hlt' : (i : Int) < s.size := by omega
   have hll : i < s.data.toList.length := by rw [← size_len]; exact hlt
   cases hp : WD.contains s[i]
   ·have e := run_no (cs := WD) hll (by rw [byte_at s i hlt hll]; exact hp)
    have hN' : Hid (i = R) := by show _ = _; have := hN.out; omega
    have hq := fun w => rpart s[i] w
    rw [hp] at hq
    clear hN e
    go_wp2_with (go_at_call 107; first | (refine (hq _).mono ?_; clear hq; rintro e w1 ⟨rfl, hb⟩; have hB := bux w zq2 hb; clear hb))
    go_ret
    exact ⟨by apply ret1; have := hN'.out; omega, zq15⟩
   ·have e := run_yes (cs := WD) hll (by rw [byte_at s i hlt hll]; exact hp)
    have HN : Hid (i + 1 + runL (s.data.toList.drop (i + 1)) WD = R) := by show _ = _; have := hN.out; omega
    have hq := fun w => rpart s[i] w
    rw [hp] at hq
    clear hN e
    go_wp2_with (go_at_call 107; first | (refine (hq _).mono ?_; clear hq; rintro e w1 ⟨rfl, hb⟩; have hB := bux w zq2 hb; clear hb))
    exact ⟨⟨i + 1, by go_num, zq17, HN, zq15⟩, by simp [intOf]; omega⟩
  ·have hlt' : ¬ (i : Int) < s.size := by omega
   have e := run_out (cs := WD) (l := s.data.toList) (i := i) (by rw [← size_len]; exact hlt)
   have hN' : Hid (i = R) := by show _ = _; have := hN.out; omega
   clear hN e
   go_wp2
   go_ret
   exact ⟨by apply ret1; have := hN'.out; omega, zq15⟩
theorem rwrong (a : Nat) (w : World) : Calls Tryz.prog 69 #[.int .i64 a] w fun e w' => e = .returned (.tuple #[(.agg #[.int .i64 (tkSet (tk0 8) a).kind, .int .i64 (tkSet (tk0 8) a).at', .int .i64 (tkSet (tk0 8) a).num, .string (tkSet (tk0 8) a).str, .int .i64 (tkSet (tk0 8) a).c0, .int .i64 (tkSet (tk0 8) a).c1, .int .i64 (tkSet (tk0 8) a).r0, .int .i64 (tkSet (tk0 8) a).r1, .int .i64 (tkSet (tk0 8) a).r2, .int .i64 (tkSet (tk0 8) a).r3, .int .i64 (tkSet (tk0 8) a).code]), .int .i64 a]) ∧ Below w.heap.size w w' := by
 go_enter Tryz.func69, Tryz.ntmps69
 go_wp2
 have o0 : Own (w.alloc (.cells #[.int .i64 8, .int .i64 a, .int .i64 0, .string ⟨#[]⟩, .int .i64 0, .int .i64 0, .int .i64 0, .int .i64 0, .int .i64 0, .int .i64 0, .int .i64 0] 43)) w.heap.size #[.int .i64 8, .int .i64 a, .int .i64 0, .string ⟨#[]⟩, .int .i64 0, .int .i64 0, .int .i64 0, .int .i64 0, .int .i64 0, .int .i64 0, .int .i64 0] := Own.new _ _ _
 have c0 := o0.cell
 have f0 := o0.fro
 have l0 := o0.lt
 exact bodyPost_ret (v := .tuple #[(.agg #[.int .i64 (tkSet (tk0 8) a).kind, .int .i64 (tkSet (tk0 8) a).at', .int .i64 (tkSet (tk0 8) a).num, .string (tkSet (tk0 8) a).str, .int .i64 (tkSet (tk0 8) a).c0, .int .i64 (tkSet (tk0 8) a).c1, .int .i64 (tkSet (tk0 8) a).r0, .int .i64 (tkSet (tk0 8) a).r1, .int .i64 (tkSet (tk0 8) a).r2, .int .i64 (tkSet (tk0 8) a).r3, .int .i64 (tkSet (tk0 8) a).code]), .int .i64 a]) (by simp [results, Tryz.results69, go_sem, c0, f0, l0, tk0, tkSet]) rfl ⟨rfl, bal _ _⟩
end Go.Proofs.YtcmjhjnpcogmgaaGreatDoor
namespace Go.Proofs.YtcmjhjnpcogmgaaGreatDoor
open Go.Shelf Go.RowKit
theorem rdparse (s : ByteArray) (w : World) (hs : s.size ≤ maxLen) : Calls Tryz.prog 68 #[.string s] w fun e w' => e = .returned (.tuple #[.int .i64 (Dc.parseV s), .bool (Dc.parseOk s)]) ∧ Below w.heap.size w w' :=
 (Dc.rparse_any s w hs).mono fun e w' ⟨he, hw⟩ => ⟨he, by rw [hw]; exact Below.refl _ _⟩
def endAt (t : Tk) (a n : Nat) : Nat := if t.kind = 8 then a else a + n
theorem rnumber_f (s : ByteArray) (a K : Nat) (w : World) (hs : s.size < 4294967281) (ha : a ≤ s.size) (hK : runL (s.data.toList.drop a) NB = K) (hk : Dc.parseOk (s.extract a (a + K)) = false) :
  Calls Tryz.prog 40 #[.string s, .int .i64 a] w fun e w' => e = .returned (.tuple #[(.agg #[.int .i64 (tkSet (tk0 8) a).kind, .int .i64 (tkSet (tk0 8) a).at', .int .i64 (tkSet (tk0 8) a).num, .string (tkSet (tk0 8) a).str, .int .i64 (tkSet (tk0 8) a).c0, .int .i64 (tkSet (tk0 8) a).c1, .int .i64 (tkSet (tk0 8) a).r0, .int .i64 (tkSet (tk0 8) a).r1, .int .i64 (tkSet (tk0 8) a).r2, .int .i64 (tkSet (tk0 8) a).r3, .int .i64 (tkSet (tk0 8) a).code]), .int .i64 (a : Nat)]) ∧ Below w.heap.size w w' := by
 have hrl := runL_le (s.data.toList.drop a) NB
 rw [List.length_drop, ← size_len, hK] at hrl
 have HR : Hid (a + runL (s.data.toList.drop a) NB = a + K) := by show _ = _; rw [hK]
 clear hK
 have hq := fun w => rdparse (s.extract a (a + K)) w (by rw [ByteArray.size_extract]; unfold maxLen; omega)
 rw [hk] at hq
 clear hk
 have hwr := fun w => rwrong a w
 have hKs : (a : Int) + (K : Int) ≤ s.size := by omega
 go_enter Tryz.func40, Tryz.ntmps40
 go_wp2
 go_loopw [6] (fun v w' => ∃ i : Nat, v = .int .i64 i ∧ a ≤ i ∧ i ≤ s.size ∧ Hid (i + runL (s.data.toList.drop i) NB = a + K) ∧ Below w.heap.size w w' ∧ Own w' w.heap.size #[.int .i64 0, .int .i64 0, .int .i64 0, .string ⟨#[]⟩, .int .i64 0, .int .i64 0, .int .i64 0, .int .i64 0, .int .i64 0, .int .i64 0, .int .i64 0]) (fun v _ => s.size - (intOf v).toNat)
 case atStart => exact ⟨a, rfl, Nat.le_refl _, ha, HR, bal _ _, Own.new _ _ _⟩
 case round =>
  obtain ⟨i, rfl, hia, hi, hN, hB, o0⟩ := hrel
  have c0 := o0.cell
  have f0 := o0.fro
  have l0 := o0.lt
  by_cases hlt : i < s.size
  ·have hlt' : (i : Int) < s.size := by omega
   have hll : i < s.data.toList.length := by rw [← size_len]; exact hlt
   have hnb := nb_iff s[i]
   have hd := fun w => rdigit s[i] w
   cases hp : DG.contains s[i]
   ·rw [hp] at hd hnb
    by_cases h46 : s[i].toNat = 46
    ·have e := run_yes (cs := NB) hll (by rw [byte_at s i hlt hll, hnb]; simp [h46])
     have HN : Hid (i + 1 + runL (s.data.toList.drop (i + 1)) NB = a + K) := by show _ = _; have := hN.out; omega
     have h46' : (s[i].toNat : Int) = 46 := by omega
     have h46b : ((s[i].toNat : Int) == 46) = true := by simpa using h46'
     clear hN e hnb h46 h46' hq hwr hp
     go_wp2_with (go_at_call 39; first | (refine (hd _).mono ?_; clear hd; rintro e w1 ⟨rfl, hb⟩; have hB1 := bux w zq2 hb; have o1 := keepZ w.heap.size zq5 hb; have c0 := o1.cell; have f0 := o1.fro; have l0 := o1.lt; clear hb))
     exact ⟨⟨i + 1, by go_num, zq17, zq17, HN, zq15, zq15⟩, by simp [intOf]; omega⟩
    ·have e := run_no (cs := NB) hll (by rw [byte_at s i hlt hll, hnb]; simp [h46])
     obtain rfl : i = a + K := by have := hN.out; omega
     have h46' : ¬ (s[a + K].toNat : Int) = 46 := by omega
     have h46b : ((s[a + K].toNat : Int) == 46) = false := by simpa using h46'
     clear hN e hnb h46 h46' hp
     go_wp2_with (first | (go_at_call 39; first | (refine (hd _).mono ?_; clear hd; rintro e w1 ⟨rfl, hb⟩; have hB1 := bux w zq2 hb; have o1 := keepZ w.heap.size zq5 hb; have c0 := o1.cell; have f0 := o1.fro; have l0 := o1.lt; clear hb)) | (go_at_call 68; first | (refine (hq _).mono ?_; clear hq; rintro e w1 ⟨rfl, hb⟩; have hB1 := bux w zq2 hb; have o1 := keepZ w.heap.size zq5 hb; have c0 := o1.cell; have f0 := o1.fro; have l0 := o1.lt; clear hb)) | (go_at_call 69; first | (refine (hwr _).mono ?_; clear hwr; rintro e w1 ⟨rfl, hb⟩; have hB1 := bux w zq2 hb; have o1 := keepZ w.heap.size zq5 hb; have c0 := o1.cell; have f0 := o1.fro; have l0 := o1.lt; clear hb)))
     exact bodyPost_ret (v := .tuple #[(.agg #[.int .i64 (tkSet (tk0 8) a).kind, .int .i64 (tkSet (tk0 8) a).at', .int .i64 (tkSet (tk0 8) a).num, .string (tkSet (tk0 8) a).str, .int .i64 (tkSet (tk0 8) a).c0, .int .i64 (tkSet (tk0 8) a).c1, .int .i64 (tkSet (tk0 8) a).r0, .int .i64 (tkSet (tk0 8) a).r1, .int .i64 (tkSet (tk0 8) a).r2, .int .i64 (tkSet (tk0 8) a).r3, .int .i64 (tkSet (tk0 8) a).code]), .int .i64 (a : Nat)]) (by simp [results, Tryz.results40, go_sem, c0, f0, l0, tk0, tkSet]) rfl ⟨rfl, zq2⟩
   ·rw [hp] at hd hnb
    have e := run_yes (cs := NB) hll (by rw [byte_at s i hlt hll, hnb]; simp)
    have HN : Hid (i + 1 + runL (s.data.toList.drop (i + 1)) NB = a + K) := by show _ = _; have := hN.out; omega
    clear hN e hnb hq hwr hp
    go_wp2_with (go_at_call 39; first | (refine (hd _).mono ?_; clear hd; rintro e w1 ⟨rfl, hb⟩; have hB1 := bux w zq2 hb; have o1 := keepZ w.heap.size zq5 hb; have c0 := o1.cell; have f0 := o1.fro; have l0 := o1.lt; clear hb))
    exact ⟨⟨i + 1, by go_num, zq17, zq17, HN, zq15, zq15⟩, by simp [intOf]; omega⟩
  ·have hlt' : ¬ (i : Int) < s.size := by omega
   have e := run_out (cs := NB) (l := s.data.toList) (i := i) (by rw [← size_len]; exact hlt)
   obtain rfl : i = a + K := by have := hN.out; omega
   clear hN e
   go_wp2_with (first | (go_at_call 39; first | (refine (hd _).mono ?_; clear hd; rintro e w1 ⟨rfl, hb⟩; have hB1 := bux w zq2 hb; have o1 := keepZ w.heap.size zq5 hb; have c0 := o1.cell; have f0 := o1.fro; have l0 := o1.lt; clear hb)) | (go_at_call 68; first | (refine (hq _).mono ?_; clear hq; rintro e w1 ⟨rfl, hb⟩; have hB1 := bux w zq2 hb; have o1 := keepZ w.heap.size zq5 hb; have c0 := o1.cell; have f0 := o1.fro; have l0 := o1.lt; clear hb)) | (go_at_call 69; first | (refine (hwr _).mono ?_; clear hwr; rintro e w1 ⟨rfl, hb⟩; have hB1 := bux w zq2 hb; have o1 := keepZ w.heap.size zq5 hb; have c0 := o1.cell; have f0 := o1.fro; have l0 := o1.lt; clear hb)))
   exact bodyPost_ret (v := .tuple #[(.agg #[.int .i64 (tkSet (tk0 8) a).kind, .int .i64 (tkSet (tk0 8) a).at', .int .i64 (tkSet (tk0 8) a).num, .string (tkSet (tk0 8) a).str, .int .i64 (tkSet (tk0 8) a).c0, .int .i64 (tkSet (tk0 8) a).c1, .int .i64 (tkSet (tk0 8) a).r0, .int .i64 (tkSet (tk0 8) a).r1, .int .i64 (tkSet (tk0 8) a).r2, .int .i64 (tkSet (tk0 8) a).r3, .int .i64 (tkSet (tk0 8) a).code]), .int .i64 (a : Nat)]) (by simp [results, Tryz.results40, go_sem, c0, f0, l0, tk0, tkSet]) rfl ⟨rfl, zq2⟩
theorem rnumber_t (s : ByteArray) (a K : Nat) (w : World) (hs : s.size < 4294967281) (ha : a ≤ s.size) (hK : runL (s.data.toList.drop a) NB = K) (hk : Dc.parseOk (s.extract a (a + K)) = true) :
  Calls Tryz.prog 40 #[.string s, .int .i64 a] w fun e w' => e = .returned (.tuple #[(.agg #[.int .i64 (tkSet (tkNum (Dc.parseV (s.extract a (a + K)))) a).kind, .int .i64 (tkSet (tkNum (Dc.parseV (s.extract a (a + K)))) a).at', .int .i64 (tkSet (tkNum (Dc.parseV (s.extract a (a + K)))) a).num, .string (tkSet (tkNum (Dc.parseV (s.extract a (a + K)))) a).str, .int .i64 (tkSet (tkNum (Dc.parseV (s.extract a (a + K)))) a).c0, .int .i64 (tkSet (tkNum (Dc.parseV (s.extract a (a + K)))) a).c1, .int .i64 (tkSet (tkNum (Dc.parseV (s.extract a (a + K)))) a).r0, .int .i64 (tkSet (tkNum (Dc.parseV (s.extract a (a + K)))) a).r1, .int .i64 (tkSet (tkNum (Dc.parseV (s.extract a (a + K)))) a).r2, .int .i64 (tkSet (tkNum (Dc.parseV (s.extract a (a + K)))) a).r3, .int .i64 (tkSet (tkNum (Dc.parseV (s.extract a (a + K)))) a).code]), .int .i64 (a + K : Nat)]) ∧ Below w.heap.size w w' := by
 have hrl := runL_le (s.data.toList.drop a) NB
 rw [List.length_drop, ← size_len, hK] at hrl
 have HR : Hid (a + runL (s.data.toList.drop a) NB = a + K) := by show _ = _; rw [hK]
 clear hK
 have hq := fun w => rdparse (s.extract a (a + K)) w (by rw [ByteArray.size_extract]; unfold maxLen; omega)
 rw [hk] at hq
 clear hk
 have hwr := fun w => rwrong a w
 have hKs : (a : Int) + (K : Int) ≤ s.size := by omega
 go_enter Tryz.func40, Tryz.ntmps40
 go_wp2
 go_loopw [6] (fun v w' => ∃ i : Nat, v = .int .i64 i ∧ a ≤ i ∧ i ≤ s.size ∧ Hid (i + runL (s.data.toList.drop i) NB = a + K) ∧ Below w.heap.size w w' ∧ Own w' w.heap.size #[.int .i64 0, .int .i64 0, .int .i64 0, .string ⟨#[]⟩, .int .i64 0, .int .i64 0, .int .i64 0, .int .i64 0, .int .i64 0, .int .i64 0, .int .i64 0]) (fun v _ => s.size - (intOf v).toNat)
 case atStart => exact ⟨a, rfl, Nat.le_refl _, ha, HR, bal _ _, Own.new _ _ _⟩
 case round =>
  obtain ⟨i, rfl, hia, hi, hN, hB, o0⟩ := hrel
  have c0 := o0.cell
  have f0 := o0.fro
  have l0 := o0.lt
  by_cases hlt : i < s.size
  ·have hlt' : (i : Int) < s.size := by omega
   have hll : i < s.data.toList.length := by rw [← size_len]; exact hlt
   have hnb := nb_iff s[i]
   have hd := fun w => rdigit s[i] w
   cases hp : DG.contains s[i]
   ·rw [hp] at hd hnb
    by_cases h46 : s[i].toNat = 46
    ·have e := run_yes (cs := NB) hll (by rw [byte_at s i hlt hll, hnb]; simp [h46])
     have HN : Hid (i + 1 + runL (s.data.toList.drop (i + 1)) NB = a + K) := by show _ = _; have := hN.out; omega
     have h46' : (s[i].toNat : Int) = 46 := by omega
     have h46b : ((s[i].toNat : Int) == 46) = true := by simpa using h46'
     clear hN e hnb h46 h46' hq hwr hp
     go_wp2_with (go_at_call 39; first | (refine (hd _).mono ?_; clear hd; rintro e w1 ⟨rfl, hb⟩; have hB1 := bux w zq2 hb; have o1 := keepZ w.heap.size zq5 hb; have c0 := o1.cell; have f0 := o1.fro; have l0 := o1.lt; clear hb))
     exact ⟨⟨i + 1, by go_num, zq17, zq17, HN, zq15, zq15⟩, by simp [intOf]; omega⟩
    ·have e := run_no (cs := NB) hll (by rw [byte_at s i hlt hll, hnb]; simp [h46])
     obtain rfl : i = a + K := by have := hN.out; omega
     have h46' : ¬ (s[a + K].toNat : Int) = 46 := by omega
     have h46b : ((s[a + K].toNat : Int) == 46) = false := by simpa using h46'
     clear hN e hnb h46 h46' hp
     go_wp2_with (first | (go_at_call 39; first | (refine (hd _).mono ?_; clear hd; rintro e w1 ⟨rfl, hb⟩; have hB1 := bux w zq2 hb; have o1 := keepZ w.heap.size zq5 hb; have c0 := o1.cell; have f0 := o1.fro; have l0 := o1.lt; clear hb)) | (go_at_call 68; first | (refine (hq _).mono ?_; clear hq; rintro e w1 ⟨rfl, hb⟩; have hB1 := bux w zq2 hb; have o1 := keepZ w.heap.size zq5 hb; have c0 := o1.cell; have f0 := o1.fro; have l0 := o1.lt; clear hb)) | (go_at_call 69; first | (refine (hwr _).mono ?_; clear hwr; rintro e w1 ⟨rfl, hb⟩; have hB1 := bux w zq2 hb; have o1 := keepZ w.heap.size zq5 hb; have c0 := o1.cell; have f0 := o1.fro; have l0 := o1.lt; clear hb)))
     exact bodyPost_ret (v := .tuple #[(.agg #[.int .i64 (tkSet (tkNum (Dc.parseV (s.extract a (a + K)))) a).kind, .int .i64 (tkSet (tkNum (Dc.parseV (s.extract a (a + K)))) a).at', .int .i64 (tkSet (tkNum (Dc.parseV (s.extract a (a + K)))) a).num, .string (tkSet (tkNum (Dc.parseV (s.extract a (a + K)))) a).str, .int .i64 (tkSet (tkNum (Dc.parseV (s.extract a (a + K)))) a).c0, .int .i64 (tkSet (tkNum (Dc.parseV (s.extract a (a + K)))) a).c1, .int .i64 (tkSet (tkNum (Dc.parseV (s.extract a (a + K)))) a).r0, .int .i64 (tkSet (tkNum (Dc.parseV (s.extract a (a + K)))) a).r1, .int .i64 (tkSet (tkNum (Dc.parseV (s.extract a (a + K)))) a).r2, .int .i64 (tkSet (tkNum (Dc.parseV (s.extract a (a + K)))) a).r3, .int .i64 (tkSet (tkNum (Dc.parseV (s.extract a (a + K)))) a).code]), .int .i64 (a + K : Nat)]) (by simp [results, Tryz.results40, go_sem, c0, f0, l0, tkNum, tkSet]) rfl ⟨rfl, zq2⟩
   ·rw [hp] at hd hnb
    have e := run_yes (cs := NB) hll (by rw [byte_at s i hlt hll, hnb]; simp)
    have HN : Hid (i + 1 + runL (s.data.toList.drop (i + 1)) NB = a + K) := by show _ = _; have := hN.out; omega
    clear hN e hnb hq hwr hp
    go_wp2_with (go_at_call 39; first | (refine (hd _).mono ?_; clear hd; rintro e w1 ⟨rfl, hb⟩; have hB1 := bux w zq2 hb; have o1 := keepZ w.heap.size zq5 hb; have c0 := o1.cell; have f0 := o1.fro; have l0 := o1.lt; clear hb))
    exact ⟨⟨i + 1, by go_num, zq17, zq17, HN, zq15, zq15⟩, by simp [intOf]; omega⟩
  ·have hlt' : ¬ (i : Int) < s.size := by omega
   have e := run_out (cs := NB) (l := s.data.toList) (i := i) (by rw [← size_len]; exact hlt)
   obtain rfl : i = a + K := by have := hN.out; omega
   clear hN e
   go_wp2_with (first | (go_at_call 39; first | (refine (hd _).mono ?_; clear hd; rintro e w1 ⟨rfl, hb⟩; have hB1 := bux w zq2 hb; have o1 := keepZ w.heap.size zq5 hb; have c0 := o1.cell; have f0 := o1.fro; have l0 := o1.lt; clear hb)) | (go_at_call 68; first | (refine (hq _).mono ?_; clear hq; rintro e w1 ⟨rfl, hb⟩; have hB1 := bux w zq2 hb; have o1 := keepZ w.heap.size zq5 hb; have c0 := o1.cell; have f0 := o1.fro; have l0 := o1.lt; clear hb)) | (go_at_call 69; first | (refine (hwr _).mono ?_; clear hwr; rintro e w1 ⟨rfl, hb⟩; have hB1 := bux w zq2 hb; have o1 := keepZ w.heap.size zq5 hb; have c0 := o1.cell; have f0 := o1.fro; have l0 := o1.lt; clear hb)))
   exact bodyPost_ret (v := .tuple #[(.agg #[.int .i64 (tkSet (tkNum (Dc.parseV (s.extract a (a + K)))) a).kind, .int .i64 (tkSet (tkNum (Dc.parseV (s.extract a (a + K)))) a).at', .int .i64 (tkSet (tkNum (Dc.parseV (s.extract a (a + K)))) a).num, .string (tkSet (tkNum (Dc.parseV (s.extract a (a + K)))) a).str, .int .i64 (tkSet (tkNum (Dc.parseV (s.extract a (a + K)))) a).c0, .int .i64 (tkSet (tkNum (Dc.parseV (s.extract a (a + K)))) a).c1, .int .i64 (tkSet (tkNum (Dc.parseV (s.extract a (a + K)))) a).r0, .int .i64 (tkSet (tkNum (Dc.parseV (s.extract a (a + K)))) a).r1, .int .i64 (tkSet (tkNum (Dc.parseV (s.extract a (a + K)))) a).r2, .int .i64 (tkSet (tkNum (Dc.parseV (s.extract a (a + K)))) a).r3, .int .i64 (tkSet (tkNum (Dc.parseV (s.extract a (a + K)))) a).code]), .int .i64 (a + K : Nat)]) (by simp [results, Tryz.results40, go_sem, c0, f0, l0, tkNum, tkSet]) rfl ⟨rfl, zq2⟩
theorem rnumber (s : ByteArray) (a : Nat) (w : World) (hs : s.size < 4294967281) (ha : a ≤ s.size) :
  Calls Tryz.prog 40 #[.string s, .int .i64 a] w fun e w' => e = .returned (.tuple #[(.agg #[.int .i64 (tkSet (rdNum (s.extract a (a + runL (s.data.toList.drop a) NB))) a).kind, .int .i64 (tkSet (rdNum (s.extract a (a + runL (s.data.toList.drop a) NB))) a).at', .int .i64 (tkSet (rdNum (s.extract a (a + runL (s.data.toList.drop a) NB))) a).num, .string (tkSet (rdNum (s.extract a (a + runL (s.data.toList.drop a) NB))) a).str, .int .i64 (tkSet (rdNum (s.extract a (a + runL (s.data.toList.drop a) NB))) a).c0, .int .i64 (tkSet (rdNum (s.extract a (a + runL (s.data.toList.drop a) NB))) a).c1, .int .i64 (tkSet (rdNum (s.extract a (a + runL (s.data.toList.drop a) NB))) a).r0, .int .i64 (tkSet (rdNum (s.extract a (a + runL (s.data.toList.drop a) NB))) a).r1, .int .i64 (tkSet (rdNum (s.extract a (a + runL (s.data.toList.drop a) NB))) a).r2, .int .i64 (tkSet (rdNum (s.extract a (a + runL (s.data.toList.drop a) NB))) a).r3, .int .i64 (tkSet (rdNum (s.extract a (a + runL (s.data.toList.drop a) NB))) a).code]), .int .i64 (endAt (rdNum (s.extract a (a + runL (s.data.toList.drop a) NB))) a (runL (s.data.toList.drop a) NB) : Nat)]) ∧ Below w.heap.size w w' := by
 cases hk : Dc.parseOk (s.extract a (a + runL (s.data.toList.drop a) NB))
 ·have e : rdNum (s.extract a (a + runL (s.data.toList.drop a) NB)) = tk0 8 := by simp [rdNum, hk]
  rw [e]
  exact rnumber_f s a _ w hs ha rfl hk
 ·have e : rdNum (s.extract a (a + runL (s.data.toList.drop a) NB)) = tkNum (Dc.parseV (s.extract a (a + runL (s.data.toList.drop a) NB))) := by simp [rdNum, hk]
  rw [e]
  exact rnumber_t s a _ w hs ha rfl hk
end Go.Proofs.YtcmjhjnpcogmgaaGreatDoor
namespace Go.Proofs.YtcmjhjnpcogmgaaGreatDoor
open Go.Shelf Go.RowKit
def skL (l : List UInt8) : Nat := (l.takeWhile (fun c => !(c == 33))).length
theorem skL_le (l : List UInt8) : skL l ≤ l.length := (List.takeWhile_sublist _).length_le
theorem sk_yes {l : List UInt8} {i : Nat} (hi : i < l.length) (h : ¬ l[i] = 33) : skL (l.drop i) = 1 + skL (l.drop (i + 1)) := by
 unfold skL; rw [List.drop_eq_getElem_cons hi, List.takeWhile_cons]; simp [h]; omega
theorem sk_no {l : List UInt8} {i : Nat} (hi : i < l.length) (h : l[i] = 33) : skL (l.drop i) = 0 := by
 unfold skL; rw [List.drop_eq_getElem_cons hi, List.takeWhile_cons]; simp [h]
theorem sk_out {l : List UInt8} {i : Nat} (hi : ¬ i < l.length) : skL (l.drop i) = 0 := by
 rw [List.drop_of_length_le zq17]; rfl
theorem sk_idx : ∀ l : List UInt8, (skL l < l.length → Lib.indexByte l 33 = skL l) ∧ (¬ skL l < l.length → Lib.indexByte l 33 = -1 ∧ ¬ (33 : UInt8) ∈ l)
 | [] => ⟨fun h => by simp at h, fun _ => ⟨rfl, by simp⟩⟩
 | c :: t => by
  have ih := sk_idx t
  by_cases hc : c = 33
  ·subst hc
   have e : skL (33 :: t) = 0 := by unfold skL; rw [List.takeWhile_cons]; rfl
   rw [e]
   exact ⟨fun _ => by simp [Lib.indexByte], fun h => by simp at h⟩
  ·have e : skL (c :: t) = skL t + 1 := by unfold skL; rw [List.takeWhile_cons]; simp [hc]
   rw [e, List.length_cons]
   constructor
   ·intro h
    have h1 := ih.1 zq17
    first | (simp [Lib.indexByte, hc, h1]; done) | (simp [Lib.indexByte, hc, h1]; omega)
   ·intro h
    have h1 := ih.2 zq17
    exact ⟨by simp [Lib.indexByte, hc, h1.1], by simp [h1.2]; exact fun e => hc e.symm⟩
theorem frL_sk (l : List UInt8) : frL l = if skL l < l.length then skL l + 1 else l.length := by
 unfold frL
 by_cases h : skL l < l.length
 ·rw [if_pos h, (sk_idx l).1 h, if_pos zq17]; omega
 ·rw [if_neg h, ((sk_idx l).2 h).1, if_neg zq17]
theorem rfault_n (s : ByteArray) (a S : Nat) (w : World) (hs : s.size < 4294967281) (ha : a ≤ s.size) (hS : skL (s.data.toList.drop a) = S) (hnf : a + S = s.size) :
  Calls Tryz.prog 42 #[.string s, .int .i64 a] w fun e w' => e = .returned (.tuple #[(.agg #[.int .i64 (tkSet (tk0 8) a).kind, .int .i64 (tkSet (tk0 8) a).at', .int .i64 (tkSet (tk0 8) a).num, .string (tkSet (tk0 8) a).str, .int .i64 (tkSet (tk0 8) a).c0, .int .i64 (tkSet (tk0 8) a).c1, .int .i64 (tkSet (tk0 8) a).r0, .int .i64 (tkSet (tk0 8) a).r1, .int .i64 (tkSet (tk0 8) a).r2, .int .i64 (tkSet (tk0 8) a).r3, .int .i64 (tkSet (tk0 8) a).code]), .int .i64 (a : Nat)]) ∧ Below w.heap.size w w' := by
 have hrl := skL_le (s.data.toList.drop a)
 rw [List.length_drop, ← size_len, hS] at hrl
 have HR : Hid (a + skL (s.data.toList.drop a) = a + S) := by show _ = _; rw [hS]
 clear hS
 have hwr := fun w => rwrong a w
 go_enter Tryz.func42, Tryz.ntmps42
 go_wp2
 go_loopw [6] (fun v w' => ∃ i : Nat, v = .int .i64 i ∧ a ≤ i ∧ i ≤ s.size ∧ Hid (i + skL (s.data.toList.drop i) = a + S) ∧ Below w.heap.size w w' ∧ Own w' w.heap.size #[.int .i64 0, .int .i64 0, .int .i64 0, .string ⟨#[]⟩, .int .i64 0, .int .i64 0, .int .i64 0, .int .i64 0, .int .i64 0, .int .i64 0, .int .i64 0]) (fun v _ => s.size - (intOf v).toNat)
 case atStart => exact ⟨a, rfl, Nat.le_refl _, ha, HR, bal _ _, Own.new _ _ _⟩
 case round =>
  obtain ⟨i, rfl, hia, hi, hN, hB, o0⟩ := hrel
  have c0 := o0.cell
  have f0 := o0.fro
  have l0 := o0.lt
  by_cases hlt : i < s.size
  ·have hlt' : (i : Int) < s.size := by omega
   have hll : i < s.data.toList.length := by rw [← size_len]; exact hlt
   by_cases h33 : s[i].toNat = 33
   ·have e := sk_no hll (by rw [byte_at s i hlt hll, ← UInt8.toNat_inj]; exact h33)
    obtain rfl : i = a + S := by have := hN.out; omega
    have h33b : ((s[a + S].toNat : Int) == 33) = true := by simp; omega
    have hne : ¬ (a : Int) + (S : Int) = s.size := by omega
    have hneb : ((a : Int) + (S : Int) == (s.size : Int)) = false := by simpa using hne
    clear hN e h33
    omega
   ·have e := sk_yes hll (by rw [byte_at s i hlt hll, ← UInt8.toNat_inj]; exact h33)
    have HN : Hid (i + 1 + skL (s.data.toList.drop (i + 1)) = a + S) := by show _ = _; have := hN.out; omega
    have h33' : ¬ (s[i].toNat : Int) = 33 := by omega
    have h33b : ((s[i].toNat : Int) == 33) = false := by simpa using h33'
    clear hN e h33
    go_wp2
    exact ⟨⟨i + 1, by go_num, zq17, zq17, HN, zq15, zq15⟩, by simp [intOf]; omega⟩
  ·have hlt' : ¬ (i : Int) < s.size := by omega
   have e := sk_out (l := s.data.toList) (i := i) (by rw [← size_len]; exact hlt)
   have hie : i = a + S := by have := hN.out; omega
   obtain rfl : i = s.size := by omega
   clear hN e
   clear hie hnf
   go_wp2_with (first | (go_at_call 70; first | (refine (hq _).mono ?_; clear hq; rintro e w1 ⟨rfl, hb⟩; have hB1 := bux w zq2 hb; have o1 := keepZ w.heap.size zq5 hb; have c0 := o1.cell; have f0 := o1.fro; have l0 := o1.lt; clear hb)) | (go_at_call 69; first | (refine (hwr _).mono ?_; clear hwr; rintro e w1 ⟨rfl, hb⟩; have hB1 := bux w zq2 hb; have o1 := keepZ w.heap.size zq5 hb; have c0 := o1.cell; have f0 := o1.fro; have l0 := o1.lt; clear hb)))
   exact bodyPost_ret (v := .tuple #[(.agg #[.int .i64 (tkSet (tk0 8) a).kind, .int .i64 (tkSet (tk0 8) a).at', .int .i64 (tkSet (tk0 8) a).num, .string (tkSet (tk0 8) a).str, .int .i64 (tkSet (tk0 8) a).c0, .int .i64 (tkSet (tk0 8) a).c1, .int .i64 (tkSet (tk0 8) a).r0, .int .i64 (tkSet (tk0 8) a).r1, .int .i64 (tkSet (tk0 8) a).r2, .int .i64 (tkSet (tk0 8) a).r3, .int .i64 (tkSet (tk0 8) a).code]), .int .i64 (a : Nat)]) (by simp [results, Tryz.results42, go_sem, c0, f0, l0, tk0, tkSet]) rfl ⟨rfl, zq2⟩
theorem rfault_f (s : ByteArray) (a S : Nat) (w : World) (hs : s.size < 4294967281) (ha : a ≤ s.size) (hS : skL (s.data.toList.drop a) = S) (hnf : a + S < s.size) (hk : Vv.namedOk (s.extract a (a + S + 1)) = false) :
  Calls Tryz.prog 42 #[.string s, .int .i64 a] w fun e w' => e = .returned (.tuple #[(.agg #[.int .i64 (tkSet (tk0 8) a).kind, .int .i64 (tkSet (tk0 8) a).at', .int .i64 (tkSet (tk0 8) a).num, .string (tkSet (tk0 8) a).str, .int .i64 (tkSet (tk0 8) a).c0, .int .i64 (tkSet (tk0 8) a).c1, .int .i64 (tkSet (tk0 8) a).r0, .int .i64 (tkSet (tk0 8) a).r1, .int .i64 (tkSet (tk0 8) a).r2, .int .i64 (tkSet (tk0 8) a).r3, .int .i64 (tkSet (tk0 8) a).code]), .int .i64 (a : Nat)]) ∧ Below w.heap.size w w' := by
 have hrl := skL_le (s.data.toList.drop a)
 rw [List.length_drop, ← size_len, hS] at hrl
 have HR : Hid (a + skL (s.data.toList.drop a) = a + S) := by show _ = _; rw [hS]
 clear hS
 have hq := fun w => Vv.rnamedAny (s.extract a (a + S + 1)) w
 have hSs : (a : Int) + (S : Int) + 1 ≤ s.size := by omega
 rw [hk] at hq
 clear hk
 have hwr := fun w => rwrong a w
 go_enter Tryz.func42, Tryz.ntmps42
 go_wp2
 go_loopw [6] (fun v w' => ∃ i : Nat, v = .int .i64 i ∧ a ≤ i ∧ i ≤ s.size ∧ Hid (i + skL (s.data.toList.drop i) = a + S) ∧ Below w.heap.size w w' ∧ Own w' w.heap.size #[.int .i64 0, .int .i64 0, .int .i64 0, .string ⟨#[]⟩, .int .i64 0, .int .i64 0, .int .i64 0, .int .i64 0, .int .i64 0, .int .i64 0, .int .i64 0]) (fun v _ => s.size - (intOf v).toNat)
 case atStart => exact ⟨a, rfl, Nat.le_refl _, ha, HR, bal _ _, Own.new _ _ _⟩
 case round =>
  obtain ⟨i, rfl, hia, hi, hN, hB, o0⟩ := hrel
  have c0 := o0.cell
  have f0 := o0.fro
  have l0 := o0.lt
  by_cases hlt : i < s.size
  ·have hlt' : (i : Int) < s.size := by omega
   have hll : i < s.data.toList.length := by rw [← size_len]; exact hlt
   by_cases h33 : s[i].toNat = 33
   ·have e := sk_no hll (by rw [byte_at s i hlt hll, ← UInt8.toNat_inj]; exact h33)
    obtain rfl : i = a + S := by have := hN.out; omega
    have h33b : ((s[a + S].toNat : Int) == 33) = true := by simp; omega
    have hne : ¬ (a : Int) + (S : Int) = s.size := by omega
    have hneb : ((a : Int) + (S : Int) == (s.size : Int)) = false := by simpa using hne
    clear hN e h33
    go_wp2_with (first | (go_at_call 70; first | (refine (hq _).mono ?_; clear hq; rintro e w1 ⟨rfl, hb⟩; have hB1 := bux w zq2 hb; have o1 := keepZ w.heap.size zq5 hb; have c0 := o1.cell; have f0 := o1.fro; have l0 := o1.lt; clear hb)) | (go_at_call 69; first | (refine (hwr _).mono ?_; clear hwr; rintro e w1 ⟨rfl, hb⟩; have hB1 := bux w zq2 hb; have o1 := keepZ w.heap.size zq5 hb; have c0 := o1.cell; have f0 := o1.fro; have l0 := o1.lt; clear hb)))
    exact bodyPost_ret (v := .tuple #[(.agg #[.int .i64 (tkSet (tk0 8) a).kind, .int .i64 (tkSet (tk0 8) a).at', .int .i64 (tkSet (tk0 8) a).num, .string (tkSet (tk0 8) a).str, .int .i64 (tkSet (tk0 8) a).c0, .int .i64 (tkSet (tk0 8) a).c1, .int .i64 (tkSet (tk0 8) a).r0, .int .i64 (tkSet (tk0 8) a).r1, .int .i64 (tkSet (tk0 8) a).r2, .int .i64 (tkSet (tk0 8) a).r3, .int .i64 (tkSet (tk0 8) a).code]), .int .i64 (a : Nat)]) (by simp [results, Tryz.results42, go_sem, c0, f0, l0, tk0, tkSet]) rfl ⟨rfl, zq2⟩
   ·have e := sk_yes hll (by rw [byte_at s i hlt hll, ← UInt8.toNat_inj]; exact h33)
    have HN : Hid (i + 1 + skL (s.data.toList.drop (i + 1)) = a + S) := by show _ = _; have := hN.out; omega
    have h33' : ¬ (s[i].toNat : Int) = 33 := by omega
    have h33b : ((s[i].toNat : Int) == 33) = false := by simpa using h33'
    clear hN e h33
    go_wp2
    exact ⟨⟨i + 1, by go_num, zq17, zq17, HN, zq15, zq15⟩, by simp [intOf]; omega⟩
  ·have hlt' : ¬ (i : Int) < s.size := by omega
   have e := sk_out (l := s.data.toList) (i := i) (by rw [← size_len]; exact hlt)
   have hie : i = a + S := by have := hN.out; omega
   obtain rfl : i = s.size := by omega
   clear hN e
   omega
theorem rfault_c (s : ByteArray) (a S : Nat) (w : World) (hs : s.size < 4294967281) (ha : a ≤ s.size) (hS : skL (s.data.toList.drop a) = S) (hnf : a + S < s.size) (hk : Vv.namedOk (s.extract a (a + S + 1)) = true) (hc : Vv.namedC (s.extract a (a + S + 1)) = 1) :
  Calls Tryz.prog 42 #[.string s, .int .i64 a] w fun e w' => e = .returned (.tuple #[(.agg #[.int .i64 (tkSet (tk0 8) a).kind, .int .i64 (tkSet (tk0 8) a).at', .int .i64 (tkSet (tk0 8) a).num, .string (tkSet (tk0 8) a).str, .int .i64 (tkSet (tk0 8) a).c0, .int .i64 (tkSet (tk0 8) a).c1, .int .i64 (tkSet (tk0 8) a).r0, .int .i64 (tkSet (tk0 8) a).r1, .int .i64 (tkSet (tk0 8) a).r2, .int .i64 (tkSet (tk0 8) a).r3, .int .i64 (tkSet (tk0 8) a).code]), .int .i64 (a : Nat)]) ∧ Below w.heap.size w w' := by
 have hrl := skL_le (s.data.toList.drop a)
 rw [List.length_drop, ← size_len, hS] at hrl
 have HR : Hid (a + skL (s.data.toList.drop a) = a + S) := by show _ = _; rw [hS]
 clear hS
 have hq := fun w => Vv.rnamedAny (s.extract a (a + S + 1)) w
 have hSs : (a : Int) + (S : Int) + 1 ≤ s.size := by omega
 rw [hk, hc] at hq
 clear hk hc
 have hwr := fun w => rwrong a w
 go_enter Tryz.func42, Tryz.ntmps42
 go_wp2
 go_loopw [6] (fun v w' => ∃ i : Nat, v = .int .i64 i ∧ a ≤ i ∧ i ≤ s.size ∧ Hid (i + skL (s.data.toList.drop i) = a + S) ∧ Below w.heap.size w w' ∧ Own w' w.heap.size #[.int .i64 0, .int .i64 0, .int .i64 0, .string ⟨#[]⟩, .int .i64 0, .int .i64 0, .int .i64 0, .int .i64 0, .int .i64 0, .int .i64 0, .int .i64 0]) (fun v _ => s.size - (intOf v).toNat)
 case atStart => exact ⟨a, rfl, Nat.le_refl _, ha, HR, bal _ _, Own.new _ _ _⟩
 case round =>
  obtain ⟨i, rfl, hia, hi, hN, hB, o0⟩ := hrel
  have c0 := o0.cell
  have f0 := o0.fro
  have l0 := o0.lt
  by_cases hlt : i < s.size
  ·have hlt' : (i : Int) < s.size := by omega
   have hll : i < s.data.toList.length := by rw [← size_len]; exact hlt
   by_cases h33 : s[i].toNat = 33
   ·have e := sk_no hll (by rw [byte_at s i hlt hll, ← UInt8.toNat_inj]; exact h33)
    obtain rfl : i = a + S := by have := hN.out; omega
    have h33b : ((s[a + S].toNat : Int) == 33) = true := by simp; omega
    have hne : ¬ (a : Int) + (S : Int) = s.size := by omega
    have hneb : ((a : Int) + (S : Int) == (s.size : Int)) = false := by simpa using hne
    clear hN e h33
    go_wp2_with (first | (go_at_call 70; first | (refine (hq _).mono ?_; clear hq; rintro e w1 ⟨rfl, hb⟩; have hB1 := bux w zq2 hb; have o1 := keepZ w.heap.size zq5 hb; have c0 := o1.cell; have f0 := o1.fro; have l0 := o1.lt; clear hb)) | (go_at_call 69; first | (refine (hwr _).mono ?_; clear hwr; rintro e w1 ⟨rfl, hb⟩; have hB1 := bux w zq2 hb; have o1 := keepZ w.heap.size zq5 hb; have c0 := o1.cell; have f0 := o1.fro; have l0 := o1.lt; clear hb)))
    exact bodyPost_ret (v := .tuple #[(.agg #[.int .i64 (tkSet (tk0 8) a).kind, .int .i64 (tkSet (tk0 8) a).at', .int .i64 (tkSet (tk0 8) a).num, .string (tkSet (tk0 8) a).str, .int .i64 (tkSet (tk0 8) a).c0, .int .i64 (tkSet (tk0 8) a).c1, .int .i64 (tkSet (tk0 8) a).r0, .int .i64 (tkSet (tk0 8) a).r1, .int .i64 (tkSet (tk0 8) a).r2, .int .i64 (tkSet (tk0 8) a).r3, .int .i64 (tkSet (tk0 8) a).code]), .int .i64 (a : Nat)]) (by simp [results, Tryz.results42, go_sem, c0, f0, l0, tk0, tkSet]) rfl ⟨rfl, zq2⟩
   ·have e := sk_yes hll (by rw [byte_at s i hlt hll, ← UInt8.toNat_inj]; exact h33)
    have HN : Hid (i + 1 + skL (s.data.toList.drop (i + 1)) = a + S) := by show _ = _; have := hN.out; omega
    have h33' : ¬ (s[i].toNat : Int) = 33 := by omega
    have h33b : ((s[i].toNat : Int) == 33) = false := by simpa using h33'
    clear hN e h33
    go_wp2
    exact ⟨⟨i + 1, by go_num, zq17, zq17, HN, zq15, zq15⟩, by simp [intOf]; omega⟩
  ·have hlt' : ¬ (i : Int) < s.size := by omega
   have e := sk_out (l := s.data.toList) (i := i) (by rw [← size_len]; exact hlt)
   have hie : i = a + S := by have := hN.out; omega
   obtain rfl : i = s.size := by omega
   clear hN e
   omega
theorem rfault_t (s : ByteArray) (a S : Nat) (w : World) (hs : s.size < 4294967281) (ha : a ≤ s.size) (hS : skL (s.data.toList.drop a) = S) (hnf : a + S < s.size) (hk : Vv.namedOk (s.extract a (a + S + 1)) = true) (hc : ¬ Vv.namedC (s.extract a (a + S + 1)) = 1) :
  Calls Tryz.prog 42 #[.string s, .int .i64 a] w fun e w' => e = .returned (.tuple #[(.agg #[.int .i64 (tkSet (tkCode (Vv.namedC (s.extract a (a + S + 1)))) a).kind, .int .i64 (tkSet (tkCode (Vv.namedC (s.extract a (a + S + 1)))) a).at', .int .i64 (tkSet (tkCode (Vv.namedC (s.extract a (a + S + 1)))) a).num, .string (tkSet (tkCode (Vv.namedC (s.extract a (a + S + 1)))) a).str, .int .i64 (tkSet (tkCode (Vv.namedC (s.extract a (a + S + 1)))) a).c0, .int .i64 (tkSet (tkCode (Vv.namedC (s.extract a (a + S + 1)))) a).c1, .int .i64 (tkSet (tkCode (Vv.namedC (s.extract a (a + S + 1)))) a).r0, .int .i64 (tkSet (tkCode (Vv.namedC (s.extract a (a + S + 1)))) a).r1, .int .i64 (tkSet (tkCode (Vv.namedC (s.extract a (a + S + 1)))) a).r2, .int .i64 (tkSet (tkCode (Vv.namedC (s.extract a (a + S + 1)))) a).r3, .int .i64 (tkSet (tkCode (Vv.namedC (s.extract a (a + S + 1)))) a).code]), .int .i64 (a + S + 1 : Nat)]) ∧ Below w.heap.size w w' := by
 have hrl := skL_le (s.data.toList.drop a)
 rw [List.length_drop, ← size_len, hS] at hrl
 have HR : Hid (a + skL (s.data.toList.drop a) = a + S) := by show _ = _; rw [hS]
 clear hS
 have hq := fun w => Vv.rnamedAny (s.extract a (a + S + 1)) w
 have hSs : (a : Int) + (S : Int) + 1 ≤ s.size := by omega
 rw [hk] at hq
 clear hk
 obtain ⟨C, hC⟩ : ∃ C, Vv.namedC (s.extract a (a + S + 1)) = C := ⟨_, rfl⟩
 rw [hC] at hq hc ⊢
 clear hC
 have hcb : (C == 1) = false := by simpa using hc
 have hwr := fun w => rwrong a w
 go_enter Tryz.func42, Tryz.ntmps42
 go_wp2
 go_loopw [6] (fun v w' => ∃ i : Nat, v = .int .i64 i ∧ a ≤ i ∧ i ≤ s.size ∧ Hid (i + skL (s.data.toList.drop i) = a + S) ∧ Below w.heap.size w w' ∧ Own w' w.heap.size #[.int .i64 0, .int .i64 0, .int .i64 0, .string ⟨#[]⟩, .int .i64 0, .int .i64 0, .int .i64 0, .int .i64 0, .int .i64 0, .int .i64 0, .int .i64 0]) (fun v _ => s.size - (intOf v).toNat)
 case atStart => exact ⟨a, rfl, Nat.le_refl _, ha, HR, bal _ _, Own.new _ _ _⟩
 case round =>
  obtain ⟨i, rfl, hia, hi, hN, hB, o0⟩ := hrel
  have c0 := o0.cell
  have f0 := o0.fro
  have l0 := o0.lt
  by_cases hlt : i < s.size
  ·have hlt' : (i : Int) < s.size := by omega
   have hll : i < s.data.toList.length := by rw [← size_len]; exact hlt
   by_cases h33 : s[i].toNat = 33
   ·have e := sk_no hll (by rw [byte_at s i hlt hll, ← UInt8.toNat_inj]; exact h33)
    obtain rfl : i = a + S := by have := hN.out; omega
    have h33b : ((s[a + S].toNat : Int) == 33) = true := by simp; omega
    have hne : ¬ (a : Int) + (S : Int) = s.size := by omega
    have hneb : ((a : Int) + (S : Int) == (s.size : Int)) = false := by simpa using hne
    clear hN e h33
    go_wp2_with (first | (go_at_call 70; first | (refine (hq _).mono ?_; clear hq; rintro e w1 ⟨rfl, hb⟩; have hB1 := bux w zq2 hb; have o1 := keepZ w.heap.size zq5 hb; have c0 := o1.cell; have f0 := o1.fro; have l0 := o1.lt; clear hb)) | (go_at_call 69; first | (refine (hwr _).mono ?_; clear hwr; rintro e w1 ⟨rfl, hb⟩; have hB1 := bux w zq2 hb; have o1 := keepZ w.heap.size zq5 hb; have c0 := o1.cell; have f0 := o1.fro; have l0 := o1.lt; clear hb)))
    exact bodyPost_ret (v := .tuple #[(.agg #[.int .i64 (tkSet (tkCode C) a).kind, .int .i64 (tkSet (tkCode C) a).at', .int .i64 (tkSet (tkCode C) a).num, .string (tkSet (tkCode C) a).str, .int .i64 (tkSet (tkCode C) a).c0, .int .i64 (tkSet (tkCode C) a).c1, .int .i64 (tkSet (tkCode C) a).r0, .int .i64 (tkSet (tkCode C) a).r1, .int .i64 (tkSet (tkCode C) a).r2, .int .i64 (tkSet (tkCode C) a).r3, .int .i64 (tkSet (tkCode C) a).code]), .int .i64 (a + S + 1 : Nat)]) (by simp [results, Tryz.results42, go_sem, c0, f0, l0, tkCode, tkSet]) rfl ⟨rfl, zq2⟩
   ·have e := sk_yes hll (by rw [byte_at s i hlt hll, ← UInt8.toNat_inj]; exact h33)
    have HN : Hid (i + 1 + skL (s.data.toList.drop (i + 1)) = a + S) := by show _ = _; have := hN.out; omega
    have h33' : ¬ (s[i].toNat : Int) = 33 := by omega
    have h33b : ((s[i].toNat : Int) == 33) = false := by simpa using h33'
    clear hN e h33
    go_wp2
    exact ⟨⟨i + 1, by go_num, zq17, zq17, HN, zq15, zq15⟩, by simp [intOf]; omega⟩
  ·have hlt' : ¬ (i : Int) < s.size := by omega
   have e := sk_out (l := s.data.toList) (i := i) (by rw [← size_len]; exact hlt)
   have hie : i = a + S := by have := hN.out; omega
   obtain rfl : i = s.size := by omega
   clear hN e
   omega
theorem rfault (s : ByteArray) (a : Nat) (w : World) (hs : s.size < 4294967281) (ha : a ≤ s.size) :
  Calls Tryz.prog 42 #[.string s, .int .i64 a] w fun e w' => e = .returned (.tuple #[(.agg #[.int .i64 (tkSet (rdF (s.extract a (a + frL (s.data.toList.drop a)))) a).kind, .int .i64 (tkSet (rdF (s.extract a (a + frL (s.data.toList.drop a)))) a).at', .int .i64 (tkSet (rdF (s.extract a (a + frL (s.data.toList.drop a)))) a).num, .string (tkSet (rdF (s.extract a (a + frL (s.data.toList.drop a)))) a).str, .int .i64 (tkSet (rdF (s.extract a (a + frL (s.data.toList.drop a)))) a).c0, .int .i64 (tkSet (rdF (s.extract a (a + frL (s.data.toList.drop a)))) a).c1, .int .i64 (tkSet (rdF (s.extract a (a + frL (s.data.toList.drop a)))) a).r0, .int .i64 (tkSet (rdF (s.extract a (a + frL (s.data.toList.drop a)))) a).r1, .int .i64 (tkSet (rdF (s.extract a (a + frL (s.data.toList.drop a)))) a).r2, .int .i64 (tkSet (rdF (s.extract a (a + frL (s.data.toList.drop a)))) a).r3, .int .i64 (tkSet (rdF (s.extract a (a + frL (s.data.toList.drop a)))) a).code]), .int .i64 (endAt (rdF (s.extract a (a + frL (s.data.toList.drop a)))) a (frL (s.data.toList.drop a)) : Nat)]) ∧ Below w.heap.size w w' := by
 have hl : (s.data.toList.drop a).length = s.size - a := by rw [List.length_drop, ← size_len]
 have hle := skL_le (s.data.toList.drop a)
 rw [frL_sk]
 by_cases h : skL (s.data.toList.drop a) < (s.data.toList.drop a).length
 ·rw [if_pos h, ← Nat.add_assoc]
  cases hk : Vv.namedOk (s.extract a (a + skL (s.data.toList.drop a) + 1))
  ·have e : rdF (s.extract a (a + skL (s.data.toList.drop a) + 1)) = tk0 8 := by simp [rdF, hk]
   rw [e]
   exact rfault_f s a _ w hs ha rfl zq17 hk
  ·by_cases hc : Vv.namedC (s.extract a (a + skL (s.data.toList.drop a) + 1)) = 1
   ·have e : rdF (s.extract a (a + skL (s.data.toList.drop a) + 1)) = tk0 8 := by simp [rdF, hc]
    rw [e]
    exact rfault_c s a _ w hs ha rfl zq17 hk hc
   ·have e : rdF (s.extract a (a + skL (s.data.toList.drop a) + 1)) = tkCode (Vv.namedC (s.extract a (a + skL (s.data.toList.drop a) + 1))) := by simp [rdF, hk, hc]
    rw [e]
    exact rfault_t s a _ w hs ha rfl zq17 hk hc
 ·rw [if_neg h, hl]
  have hz : a + (s.size - a) = s.size := by omega
  rw [hz]
  have hk : Vv.namedOk (s.extract a s.size) = false := by
   cases hk : Vv.namedOk (s.extract a s.size)
   ·rfl
   ·have := named_has _ hk
    rw [ext_from] at this
    exact absurd this ((sk_idx _).2 h).2
  have e : rdF (s.extract a s.size) = tk0 8 := by simp [rdF, hk]
  rw [e]
  exact rfault_n s a _ w hs ha rfl zq17
end Go.Proofs.YtcmjhjnpcogmgaaGreatDoor
namespace Go.Proofs.YtcmjhjnpcogmgaaGreatDoor
open Go.Shelf Go.RowKit
theorem meant_is (l : List UInt8) : (bgn l LT && meant l) = decide (0 < runL l LT ∧ runL l LT < l.length ∧ runL l LT + runL (l.drop (runL l LT)) DG = l.length) := by
 have h1 := runL_le l LT
 have h2 : bgn l LT = decide (0 < runL l LT) := by
  cases l with
  | nil => rfl
  | cons c t =>
   unfold runL
   rw [List.takeWhile_cons]
   cases hc : LT.contains c
   ·simp only [bgn, hc]; rfl
   ·simp only [bgn, hc]; simp
 have h3 := List.length_drop (l := l) (i := runL l LT)
 have h4 : (l.drop (runL l LT)).isEmpty = decide ((l.drop (runL l LT)).length = 0) := by
  cases l.drop (runL l LT) <;> rfl
 have h5 := runL_le (l.drop (runL l LT)) DG
 unfold meant
 rw [h2, h4, Bool.eq_iff_iff]
 simp only [Bool.and_eq_true, decide_eq_true_eq, beq_iff_eq, Bool.not_eq_true', decide_eq_false_iff_not]
 omega
theorem rmeant (s : ByteArray) (w : World) (hs : s.size < 4294967281) :
  Calls Tryz.prog 72 #[.string s] w fun e w' => e = .returned (.bool (bgn s.data.toList LT && meant s.data.toList)) ∧ Below w.heap.size w w' := by
 rw [meant_is, ← size_len]
 have hk := runL_le s.data.toList LT
 have hd := runL_le (s.data.toList.drop (runL s.data.toList LT)) DG
 rw [List.length_drop] at hd
 rw [← size_len] at hk hd
 have HR : Hid (0 + runL (s.data.toList.drop 0) LT = runL s.data.toList LT) := by show _ = _; rw [List.drop_zero]; omega
 have HD0 : Hid (∀ k, runL s.data.toList LT = k → k + runL (s.data.toList.drop k) DG = k + runL (s.data.toList.drop (runL s.data.toList LT)) DG) := fun k e => by rw [e]
 obtain ⟨k, hke⟩ : ∃ k, runL s.data.toList LT = k := ⟨_, rfl⟩
 have HD := HD0.out k hke
 rw [hke] at hk hd HR HD ⊢
 obtain ⟨D, hDe⟩ : ∃ D, runL (s.data.toList.drop k) DG = D := ⟨_, rfl⟩
 rw [hDe] at hd ⊢
 have HDD : Hid (k + runL (s.data.toList.drop k) DG = k + D) := by show _ = _; rw [hDe]
 clear HD HD0 hke hDe
 obtain ⟨B, hBe⟩ : ∃ B, decide (0 < k ∧ k < s.size ∧ k + D = s.size) = B := ⟨_, rfl⟩
 rw [hBe]
 have HB : Hid (decide (0 < k ∧ k < s.size ∧ k + D = s.size) = B) := hBe
 clear hBe
 go_enter Tryz.func72, Tryz.ntmps72
 go_wp2
 go_loopw [3] (fun v w' => ∃ i : Nat, v = .int .i64 i ∧ i ≤ s.size ∧ Hid (i + runL (s.data.toList.drop i) LT = k) ∧ Below w.heap.size w w') (fun v _ => s.size - (intOf v).toNat)
 case atStart => exact ⟨0, rfl, zq17, HR, Below.refl _ _⟩
 case round =>
  obtain ⟨i, rfl, hi, hN, hB⟩ := hrel
  have hfin : ∀ (i : Nat), i = k → True := fun _ _ => trivial
  by_cases hlt : i < s.size
  ·have hlt' : (i : Int) < s.size := by omega
   have hll : i < s.data.toList.length := by rw [← size_len]; exact hlt
   have hq := fun w => rletter s[i] w
   cases hp : LT.contains s[i]
   ·rw [hp] at hq
    have e := run_no (cs := LT) hll (by rw [byte_at s i hlt hll]; exact hp)
    obtain rfl : i = k := by have := hN.out; omega
    clear hN e hp hfin
    by_cases hi0 : (i : Int) = 0
    ·have HF : Hid (decide (0 < i ∧ i < s.size ∧ i + D = s.size) = false) := by show _ = _; simp; omega
     have hi0b : ((i : Int) == 0) = true := by simpa using hi0
     clear hi0
     go_wp2_with (go_at_call 43; first | (refine (hq _).mono ?_; clear hq; rintro e w1 ⟨rfl, hb⟩; have hB := bux w zq2 hb; clear hb))
     go_ret
     exact ⟨by apply retB; rw [← HB.out, HF.out], zq15⟩
    ·have hi0b : ((i : Int) == 0) = false := by simpa using hi0
     have hne : ¬ (i : Int) = (s.size : Int) := by omega
     have hneb : ((i : Int) == (s.size : Int)) = false := by simpa using hne
     have hii : i < s.size := hlt
     go_wp2_with (go_at_call 43; first | (refine (hq _).mono ?_; clear hq; rintro e w1 ⟨rfl, hb⟩; have hB := bux w zq2 hb; clear hb))
     go_loopw [3] (fun v w' => ∃ j : Nat, v = .int .i64 j ∧ j ≤ s.size ∧ Hid (j + runL (s.data.toList.drop j) DG = i + D) ∧ Below w.heap.size w w') (fun v _ => s.size - (intOf v).toNat)
     case atStart => exact ⟨i, rfl, zq17, HDD, zq15⟩
     case round =>
      obtain ⟨j, rfl, hj, hN2, hB2⟩ := hrel
      by_cases hjl : j < s.size
      ·have hjl' : (j : Int) < s.size := by omega
       have hjll : j < s.data.toList.length := by rw [← size_len]; exact hjl
       have hq2 := fun w => rdigit s[j] w
       cases hp2 : DG.contains s[j]
       ·rw [hp2] at hq2
        have e2 := run_no (cs := DG) hjll (by rw [byte_at s j hjl hjll]; exact hp2)
        have HF : Hid (decide (0 < i ∧ i < s.size ∧ i + D = s.size) = false) := by show _ = _; have := hN2.out; simp; omega
        clear hN2 e2 hp2
        go_wp2_with (go_at_call 39; first | (refine (hq2 _).mono ?_; clear hq2; rintro e w1 ⟨rfl, hb⟩; have hB := bux w zq2 hb; clear hb))
        go_ret
        exact ⟨by apply retB; rw [← HB.out, HF.out], zq15⟩
       ·rw [hp2] at hq2
        have e2 := run_yes (cs := DG) hjll (by rw [byte_at s j hjl hjll]; exact hp2)
        have HN2 : Hid (j + 1 + runL (s.data.toList.drop (j + 1)) DG = i + D) := by show _ = _; have := hN2.out; omega
        clear hN2 e2 hp2
        go_wp2_with (go_at_call 39; first | (refine (hq2 _).mono ?_; clear hq2; rintro e w1 ⟨rfl, hb⟩; have hB := bux w zq2 hb; clear hb))
        exact ⟨⟨j + 1, by go_num, zq17, HN2, zq15⟩, by simp [intOf]; omega⟩
      ·have hjl' : ¬ (j : Int) < s.size := by omega
       have e2 := run_out (cs := DG) (l := s.data.toList) (i := j) (by rw [← size_len]; exact hjl)
       have HF : Hid (decide (0 < i ∧ i < s.size ∧ i + D = s.size) = true) := by show _ = _; have := hN2.out; simp; omega
       clear hN2 e2
       go_wp2
       go_ret
       exact ⟨by apply retB; rw [← HB.out, HF.out], zq15⟩
   ·rw [hp] at hq
    have e := run_yes (cs := LT) hll (by rw [byte_at s i hlt hll]; exact hp)
    have HN : Hid (i + 1 + runL (s.data.toList.drop (i + 1)) LT = k) := by show _ = _; have := hN.out; omega
    clear hN e hp hfin
    go_wp2_with (go_at_call 43; first | (refine (hq _).mono ?_; clear hq; rintro e w1 ⟨rfl, hb⟩; have hB := bux w zq2 hb; clear hb))
    exact ⟨⟨i + 1, by go_num, zq17, HN, zq15⟩, by simp [intOf]; omega⟩
  ·have hlt' : ¬ (i : Int) < s.size := by omega
   have e := run_out (cs := LT) (l := s.data.toList) (i := i) (by rw [← size_len]; exact hlt)
   have hie : i = k := by have := hN.out; omega
   have hks : k = s.size := by omega
   have hks' : (i : Int) = (s.size : Int) := by omega
   have hksb : ((i : Int) == (s.size : Int)) = true := by simpa using hks'
   have HF : Hid (decide (0 < k ∧ k < s.size ∧ k + D = s.size) = false) := by show _ = _; simp; omega
   clear hN e hie hks hks' hfin
   by_cases hi0 : (i : Int) = 0
   ·have hi0b : ((i : Int) == 0) = true := by simpa using hi0
    clear hi0
    go_wp2
    go_ret
    exact ⟨by apply retB; rw [← HB.out, HF.out], zq15⟩
   ·have hi0b : ((i : Int) == 0) = false := by simpa using hi0
    go_wp2
    go_ret
    exact ⟨by apply retB; rw [← HB.out, HF.out], zq15⟩
end Go.Proofs.YtcmjhjnpcogmgaaGreatDoor
