/- The document's name, in the words of the program's reader of a word -/
import Derived.Test.YtcmjhjnpcogmgaaGreatDoorUAuto
import Derived.Test.YtcmjhjnpcogmgaaGreatDoorURL1RL2RL3RL4
import Derived.Test.YtcmjhjnpcogmgaaGreatDoorUN1N2ANRP1RP2A3RP3
set_option linter.all false
set_option maxRecDepth 100000
set_option maxHeartbeats 4000000
namespace Go.Proofs.YtcmjhjnpcogmgaaGreatDoor
open Go.Shelf Go.RowKit
theorem ext_mid2 (s : ByteArray) (a b : Nat) : (s.extract a b).data.toList = (s.data.toList.drop a).take (b - a) := by
 rw [ByteArray.data_extract, Array.toList_extract, List.extract_eq_take_drop]
theorem rword' (s : ByteArray) (a : Nat) (x : Int) (w : World) (hx : x = (a : Int)) (hs : s.size < 4294967281) (ha : a ≤ s.size) :
  Calls Tryz.prog 71 #[.string s, .int .i64 x] w fun e w' => e = .returned (.int .i64 ((a + runL (s.data.toList.drop a) WD : Nat) : Int)) ∧ Below w.heap.size w w' := by subst hx; exact rword s a w hs ha
theorem rname_w (s : ByteArray) (a K : Nat) (w : World) (hs : s.size < 4294967281) (hK : runL (s.data.toList.drop a) WD = K) (hKs : a + K ≤ s.size) (hmt : (bgn (s.extract a (a + K)).data.toList LT && meant (s.extract a (a + K)).data.toList) = false) :
  Calls Tryz.prog 44 #[.string s, .int .i64 a] w fun e w' => e = .returned (.tuple #[(.agg #[.int .i64 (tkSet (tkStr 3 (s.extract a (a + K))) a).kind, .int .i64 (tkSet (tkStr 3 (s.extract a (a + K))) a).at', .int .i64 (tkSet (tkStr 3 (s.extract a (a + K))) a).num, .string (tkSet (tkStr 3 (s.extract a (a + K))) a).str, .int .i64 (tkSet (tkStr 3 (s.extract a (a + K))) a).c0, .int .i64 (tkSet (tkStr 3 (s.extract a (a + K))) a).c1, .int .i64 (tkSet (tkStr 3 (s.extract a (a + K))) a).r0, .int .i64 (tkSet (tkStr 3 (s.extract a (a + K))) a).r1, .int .i64 (tkSet (tkStr 3 (s.extract a (a + K))) a).r2, .int .i64 (tkSet (tkStr 3 (s.extract a (a + K))) a).r3, .int .i64 (tkSet (tkStr 3 (s.extract a (a + K))) a).code]), .int .i64 (a + K : Nat)]) ∧ Below w.heap.size w w' := by
 have hw1 := fun w => rword s a w hs zq17
 rw [hK] at hw1
 clear hK
 have hm := fun w => rmeant (s.extract a (a + K)) w (by rw [ByteArray.size_extract]; omega)
 have hwr := fun w => rwrong a w
 have hKi : (a : Int) + (K : Int) ≤ s.size := by omega
 have hcast : ((a + K : Nat) : Int) = (a : Int) + (K : Int) := by omega
 rw [hcast] at hw1
 clear hcast
 rw [hmt] at hm
 clear hmt
 go_enter Tryz.func44, Tryz.ntmps44
 go_wp2_with (first | (go_at_call 71; first | (refine (hw1 _).mono ?_; clear hw1; rintro e w1 ⟨rfl, hb⟩; have hB1 := bux w zq2 hb; have o1 := keepZ w.heap.size zq5 hb; have c0 := o1.cell; have f0 := o1.fro; have l0 := o1.lt; clear hb)| (refine (hw2 _).mono ?_; clear hw2; rintro e w1 ⟨rfl, hb⟩; have hB1 := bux w zq2 hb; have o1 := keepZ w.heap.size zq5 hb; have c0 := o1.cell; have f0 := o1.fro; have l0 := o1.lt; clear hb)) | (go_at_call 72; first | (refine (hm _).mono ?_; clear hm; rintro e w1 ⟨rfl, hb⟩; have hB1 := bux w zq2 hb; have o1 := keepZ w.heap.size zq5 hb; have c0 := o1.cell; have f0 := o1.fro; have l0 := o1.lt; clear hb)) | (go_at_call 73; first | (refine (hpr _).mono ?_; clear hpr; rintro e w1 ⟨rfl, hb⟩; have hB1 := bux w zq2 hb; have o1 := keepZ w.heap.size zq5 hb; have c0 := o1.cell; have f0 := o1.fro; have l0 := o1.lt; clear hb)) | (go_at_call 74; first | (refine (hpc _).mono ?_; clear hpc; rintro e w1 ⟨rfl, hb⟩; have hB1 := bux w zq2 hb; have o1 := keepZ w.heap.size zq5 hb; have c0 := o1.cell; have f0 := o1.fro; have l0 := o1.lt; clear hb)) | (go_at_call 69; first | (refine (hwr _).mono ?_; clear hwr; rintro e w1 ⟨rfl, hb⟩; have hB1 := bux w zq2 hb; have o1 := keepZ w.heap.size zq5 hb; have c0 := o1.cell; have f0 := o1.fro; have l0 := o1.lt; clear hb)))
 exact bodyPost_ret (v := .tuple #[(.agg #[.int .i64 (tkSet (tkStr 3 (s.extract a (a + K))) a).kind, .int .i64 (tkSet (tkStr 3 (s.extract a (a + K))) a).at', .int .i64 (tkSet (tkStr 3 (s.extract a (a + K))) a).num, .string (tkSet (tkStr 3 (s.extract a (a + K))) a).str, .int .i64 (tkSet (tkStr 3 (s.extract a (a + K))) a).c0, .int .i64 (tkSet (tkStr 3 (s.extract a (a + K))) a).c1, .int .i64 (tkSet (tkStr 3 (s.extract a (a + K))) a).r0, .int .i64 (tkSet (tkStr 3 (s.extract a (a + K))) a).r1, .int .i64 (tkSet (tkStr 3 (s.extract a (a + K))) a).r2, .int .i64 (tkSet (tkStr 3 (s.extract a (a + K))) a).r3, .int .i64 (tkSet (tkStr 3 (s.extract a (a + K))) a).code]), .int .i64 (a + K : Nat)]) (by simp [results, Tryz.results44, go_sem, c0, f0, l0, tkStr, tkSet]) rfl ⟨rfl, zq2⟩
theorem rname_cf1 (s : ByteArray) (a K : Nat) (w : World) (hs : s.size < 4294967281) (hK : runL (s.data.toList.drop a) WD = K) (hKs : a + K ≤ s.size) (hmt : (bgn (s.extract a (a + K)).data.toList LT && meant (s.extract a (a + K)).data.toList) = true) (hend : ¬ a + K < s.size) (hk : pB (s.extract a (a + K)) = false) :
  Calls Tryz.prog 44 #[.string s, .int .i64 a] w fun e w' => e = .returned (.tuple #[(.agg #[.int .i64 (tkSet (tk0 8) a).kind, .int .i64 (tkSet (tk0 8) a).at', .int .i64 (tkSet (tk0 8) a).num, .string (tkSet (tk0 8) a).str, .int .i64 (tkSet (tk0 8) a).c0, .int .i64 (tkSet (tk0 8) a).c1, .int .i64 (tkSet (tk0 8) a).r0, .int .i64 (tkSet (tk0 8) a).r1, .int .i64 (tkSet (tk0 8) a).r2, .int .i64 (tkSet (tk0 8) a).r3, .int .i64 (tkSet (tk0 8) a).code]), .int .i64 (a : Nat)]) ∧ Below w.heap.size w w' := by
 have hw1 := fun w => rword s a w hs zq17
 rw [hK] at hw1
 clear hK
 have hm := fun w => rmeant (s.extract a (a + K)) w (by rw [ByteArray.size_extract]; omega)
 have hwr := fun w => rwrong a w
 have hKi : (a : Int) + (K : Int) ≤ s.size := by omega
 have hcast : ((a + K : Nat) : Int) = (a : Int) + (K : Int) := by omega
 rw [hcast] at hw1
 clear hcast
 rw [hmt] at hm
 clear hmt
 have hpc := fun w => rparse_any (s.extract a (a + K)) w (by rw [ByteArray.size_extract]; unfold maxLen; omega)
 rw [hk] at hpc
 clear hk
 have hlt' : ¬ (a : Int) + (K : Int) < s.size := by omega
 go_enter Tryz.func44, Tryz.ntmps44
 go_wp2_with (first | (go_at_call 71; first | (refine (hw1 _).mono ?_; clear hw1; rintro e w1 ⟨rfl, hb⟩; have hB1 := bux w zq2 hb; have o1 := keepZ w.heap.size zq5 hb; have c0 := o1.cell; have f0 := o1.fro; have l0 := o1.lt; clear hb)| (refine (hw2 _).mono ?_; clear hw2; rintro e w1 ⟨rfl, hb⟩; have hB1 := bux w zq2 hb; have o1 := keepZ w.heap.size zq5 hb; have c0 := o1.cell; have f0 := o1.fro; have l0 := o1.lt; clear hb)) | (go_at_call 72; first | (refine (hm _).mono ?_; clear hm; rintro e w1 ⟨rfl, hb⟩; have hB1 := bux w zq2 hb; have o1 := keepZ w.heap.size zq5 hb; have c0 := o1.cell; have f0 := o1.fro; have l0 := o1.lt; clear hb)) | (go_at_call 73; first | (refine (hpr _).mono ?_; clear hpr; rintro e w1 ⟨rfl, hb⟩; have hB1 := bux w zq2 hb; have o1 := keepZ w.heap.size zq5 hb; have c0 := o1.cell; have f0 := o1.fro; have l0 := o1.lt; clear hb)) | (go_at_call 74; first | (refine (hpc _).mono ?_; clear hpc; rintro e w1 ⟨rfl, hb⟩; have hB1 := bux w zq2 hb; have o1 := keepZ w.heap.size zq5 hb; have c0 := o1.cell; have f0 := o1.fro; have l0 := o1.lt; clear hb)) | (go_at_call 69; first | (refine (hwr _).mono ?_; clear hwr; rintro e w1 ⟨rfl, hb⟩; have hB1 := bux w zq2 hb; have o1 := keepZ w.heap.size zq5 hb; have c0 := o1.cell; have f0 := o1.fro; have l0 := o1.lt; clear hb)))
 exact bodyPost_ret (v := .tuple #[(.agg #[.int .i64 (tkSet (tk0 8) a).kind, .int .i64 (tkSet (tk0 8) a).at', .int .i64 (tkSet (tk0 8) a).num, .string (tkSet (tk0 8) a).str, .int .i64 (tkSet (tk0 8) a).c0, .int .i64 (tkSet (tk0 8) a).c1, .int .i64 (tkSet (tk0 8) a).r0, .int .i64 (tkSet (tk0 8) a).r1, .int .i64 (tkSet (tk0 8) a).r2, .int .i64 (tkSet (tk0 8) a).r3, .int .i64 (tkSet (tk0 8) a).code]), .int .i64 (a : Nat)]) (by simp [results, Tryz.results44, go_sem, c0, f0, l0, tk0, tkSet]) rfl ⟨rfl, zq2⟩
theorem rname_cf2 (s : ByteArray) (a K : Nat) (w : World) (hs : s.size < 4294967281) (hK : runL (s.data.toList.drop a) WD = K) (hKs : a + K ≤ s.size) (hmt : (bgn (s.extract a (a + K)).data.toList LT && meant (s.extract a (a + K)).data.toList) = true) (hend : a + K < s.size) (hcol : s[a + K].toNat ≠ 58) (hk : pB (s.extract a (a + K)) = false) :
  Calls Tryz.prog 44 #[.string s, .int .i64 a] w fun e w' => e = .returned (.tuple #[(.agg #[.int .i64 (tkSet (tk0 8) a).kind, .int .i64 (tkSet (tk0 8) a).at', .int .i64 (tkSet (tk0 8) a).num, .string (tkSet (tk0 8) a).str, .int .i64 (tkSet (tk0 8) a).c0, .int .i64 (tkSet (tk0 8) a).c1, .int .i64 (tkSet (tk0 8) a).r0, .int .i64 (tkSet (tk0 8) a).r1, .int .i64 (tkSet (tk0 8) a).r2, .int .i64 (tkSet (tk0 8) a).r3, .int .i64 (tkSet (tk0 8) a).code]), .int .i64 (a : Nat)]) ∧ Below w.heap.size w w' := by
 have hw1 := fun w => rword s a w hs zq17
 rw [hK] at hw1
 clear hK
 have hm := fun w => rmeant (s.extract a (a + K)) w (by rw [ByteArray.size_extract]; omega)
 have hwr := fun w => rwrong a w
 have hKi : (a : Int) + (K : Int) ≤ s.size := by omega
 have hcast : ((a + K : Nat) : Int) = (a : Int) + (K : Int) := by omega
 rw [hcast] at hw1
 clear hcast
 rw [hmt] at hm
 clear hmt
 have hpc := fun w => rparse_any (s.extract a (a + K)) w (by rw [ByteArray.size_extract]; unfold maxLen; omega)
 rw [hk] at hpc
 clear hk
 have hlt' : (a : Int) + (K : Int) < s.size := by omega
 have h58 : ¬ (s[a + K].toNat : Int) = 58 := by omega
 have h58b : ((s[a + K].toNat : Int) == 58) = false := by simpa using h58
 clear hcol
 go_enter Tryz.func44, Tryz.ntmps44
 go_wp2_with (first | (go_at_call 71; first | (refine (hw1 _).mono ?_; clear hw1; rintro e w1 ⟨rfl, hb⟩; have hB1 := bux w zq2 hb; have o1 := keepZ w.heap.size zq5 hb; have c0 := o1.cell; have f0 := o1.fro; have l0 := o1.lt; clear hb)| (refine (hw2 _).mono ?_; clear hw2; rintro e w1 ⟨rfl, hb⟩; have hB1 := bux w zq2 hb; have o1 := keepZ w.heap.size zq5 hb; have c0 := o1.cell; have f0 := o1.fro; have l0 := o1.lt; clear hb)) | (go_at_call 72; first | (refine (hm _).mono ?_; clear hm; rintro e w1 ⟨rfl, hb⟩; have hB1 := bux w zq2 hb; have o1 := keepZ w.heap.size zq5 hb; have c0 := o1.cell; have f0 := o1.fro; have l0 := o1.lt; clear hb)) | (go_at_call 73; first | (refine (hpr _).mono ?_; clear hpr; rintro e w1 ⟨rfl, hb⟩; have hB1 := bux w zq2 hb; have o1 := keepZ w.heap.size zq5 hb; have c0 := o1.cell; have f0 := o1.fro; have l0 := o1.lt; clear hb)) | (go_at_call 74; first | (refine (hpc _).mono ?_; clear hpc; rintro e w1 ⟨rfl, hb⟩; have hB1 := bux w zq2 hb; have o1 := keepZ w.heap.size zq5 hb; have c0 := o1.cell; have f0 := o1.fro; have l0 := o1.lt; clear hb)) | (go_at_call 69; first | (refine (hwr _).mono ?_; clear hwr; rintro e w1 ⟨rfl, hb⟩; have hB1 := bux w zq2 hb; have o1 := keepZ w.heap.size zq5 hb; have c0 := o1.cell; have f0 := o1.fro; have l0 := o1.lt; clear hb)))
 exact bodyPost_ret (v := .tuple #[(.agg #[.int .i64 (tkSet (tk0 8) a).kind, .int .i64 (tkSet (tk0 8) a).at', .int .i64 (tkSet (tk0 8) a).num, .string (tkSet (tk0 8) a).str, .int .i64 (tkSet (tk0 8) a).c0, .int .i64 (tkSet (tk0 8) a).c1, .int .i64 (tkSet (tk0 8) a).r0, .int .i64 (tkSet (tk0 8) a).r1, .int .i64 (tkSet (tk0 8) a).r2, .int .i64 (tkSet (tk0 8) a).r3, .int .i64 (tkSet (tk0 8) a).code]), .int .i64 (a : Nat)]) (by simp [results, Tryz.results44, go_sem, c0, f0, l0, tk0, tkSet]) rfl ⟨rfl, zq2⟩
theorem rname_ct1 (s : ByteArray) (a K : Nat) (w : World) (hs : s.size < 4294967281) (hK : runL (s.data.toList.drop a) WD = K) (hKs : a + K ≤ s.size) (hmt : (bgn (s.extract a (a + K)).data.toList LT && meant (s.extract a (a + K)).data.toList) = true) (hend : ¬ a + K < s.size) (hk : pB (s.extract a (a + K)) = true) :
  Calls Tryz.prog 44 #[.string s, .int .i64 a] w fun e w' => e = .returned (.tuple #[(.agg #[.int .i64 (tkSet (tkCell (pR (s.extract a (a + K))) (pC (s.extract a (a + K)))) a).kind, .int .i64 (tkSet (tkCell (pR (s.extract a (a + K))) (pC (s.extract a (a + K)))) a).at', .int .i64 (tkSet (tkCell (pR (s.extract a (a + K))) (pC (s.extract a (a + K)))) a).num, .string (tkSet (tkCell (pR (s.extract a (a + K))) (pC (s.extract a (a + K)))) a).str, .int .i64 (tkSet (tkCell (pR (s.extract a (a + K))) (pC (s.extract a (a + K)))) a).c0, .int .i64 (tkSet (tkCell (pR (s.extract a (a + K))) (pC (s.extract a (a + K)))) a).c1, .int .i64 (tkSet (tkCell (pR (s.extract a (a + K))) (pC (s.extract a (a + K)))) a).r0, .int .i64 (tkSet (tkCell (pR (s.extract a (a + K))) (pC (s.extract a (a + K)))) a).r1, .int .i64 (tkSet (tkCell (pR (s.extract a (a + K))) (pC (s.extract a (a + K)))) a).r2, .int .i64 (tkSet (tkCell (pR (s.extract a (a + K))) (pC (s.extract a (a + K)))) a).r3, .int .i64 (tkSet (tkCell (pR (s.extract a (a + K))) (pC (s.extract a (a + K)))) a).code]), .int .i64 (a + K : Nat)]) ∧ Below w.heap.size w w' := by
 have hw1 := fun w => rword s a w hs zq17
 rw [hK] at hw1
 clear hK
 have hm := fun w => rmeant (s.extract a (a + K)) w (by rw [ByteArray.size_extract]; omega)
 have hwr := fun w => rwrong a w
 have hKi : (a : Int) + (K : Int) ≤ s.size := by omega
 have hcast : ((a + K : Nat) : Int) = (a : Int) + (K : Int) := by omega
 rw [hcast] at hw1
 clear hcast
 rw [hmt] at hm
 clear hmt
 have hpc := fun w => rparse_any (s.extract a (a + K)) w (by rw [ByteArray.size_extract]; unfold maxLen; omega)
 rw [hk] at hpc
 clear hk
 have hlt' : ¬ (a : Int) + (K : Int) < s.size := by omega
 go_enter Tryz.func44, Tryz.ntmps44
 go_wp2_with (first | (go_at_call 71; first | (refine (hw1 _).mono ?_; clear hw1; rintro e w1 ⟨rfl, hb⟩; have hB1 := bux w zq2 hb; have o1 := keepZ w.heap.size zq5 hb; have c0 := o1.cell; have f0 := o1.fro; have l0 := o1.lt; clear hb)| (refine (hw2 _).mono ?_; clear hw2; rintro e w1 ⟨rfl, hb⟩; have hB1 := bux w zq2 hb; have o1 := keepZ w.heap.size zq5 hb; have c0 := o1.cell; have f0 := o1.fro; have l0 := o1.lt; clear hb)) | (go_at_call 72; first | (refine (hm _).mono ?_; clear hm; rintro e w1 ⟨rfl, hb⟩; have hB1 := bux w zq2 hb; have o1 := keepZ w.heap.size zq5 hb; have c0 := o1.cell; have f0 := o1.fro; have l0 := o1.lt; clear hb)) | (go_at_call 73; first | (refine (hpr _).mono ?_; clear hpr; rintro e w1 ⟨rfl, hb⟩; have hB1 := bux w zq2 hb; have o1 := keepZ w.heap.size zq5 hb; have c0 := o1.cell; have f0 := o1.fro; have l0 := o1.lt; clear hb)) | (go_at_call 74; first | (refine (hpc _).mono ?_; clear hpc; rintro e w1 ⟨rfl, hb⟩; have hB1 := bux w zq2 hb; have o1 := keepZ w.heap.size zq5 hb; have c0 := o1.cell; have f0 := o1.fro; have l0 := o1.lt; clear hb)) | (go_at_call 69; first | (refine (hwr _).mono ?_; clear hwr; rintro e w1 ⟨rfl, hb⟩; have hB1 := bux w zq2 hb; have o1 := keepZ w.heap.size zq5 hb; have c0 := o1.cell; have f0 := o1.fro; have l0 := o1.lt; clear hb)))
 exact bodyPost_ret (v := .tuple #[(.agg #[.int .i64 (tkSet (tkCell (pR (s.extract a (a + K))) (pC (s.extract a (a + K)))) a).kind, .int .i64 (tkSet (tkCell (pR (s.extract a (a + K))) (pC (s.extract a (a + K)))) a).at', .int .i64 (tkSet (tkCell (pR (s.extract a (a + K))) (pC (s.extract a (a + K)))) a).num, .string (tkSet (tkCell (pR (s.extract a (a + K))) (pC (s.extract a (a + K)))) a).str, .int .i64 (tkSet (tkCell (pR (s.extract a (a + K))) (pC (s.extract a (a + K)))) a).c0, .int .i64 (tkSet (tkCell (pR (s.extract a (a + K))) (pC (s.extract a (a + K)))) a).c1, .int .i64 (tkSet (tkCell (pR (s.extract a (a + K))) (pC (s.extract a (a + K)))) a).r0, .int .i64 (tkSet (tkCell (pR (s.extract a (a + K))) (pC (s.extract a (a + K)))) a).r1, .int .i64 (tkSet (tkCell (pR (s.extract a (a + K))) (pC (s.extract a (a + K)))) a).r2, .int .i64 (tkSet (tkCell (pR (s.extract a (a + K))) (pC (s.extract a (a + K)))) a).r3, .int .i64 (tkSet (tkCell (pR (s.extract a (a + K))) (pC (s.extract a (a + K)))) a).code]), .int .i64 (a + K : Nat)]) (by simp [results, Tryz.results44, go_sem, c0, f0, l0, tkCell, tkSet]) rfl ⟨rfl, zq2⟩
theorem rname_ct2 (s : ByteArray) (a K : Nat) (w : World) (hs : s.size < 4294967281) (hK : runL (s.data.toList.drop a) WD = K) (hKs : a + K ≤ s.size) (hmt : (bgn (s.extract a (a + K)).data.toList LT && meant (s.extract a (a + K)).data.toList) = true) (hend : a + K < s.size) (hcol : s[a + K].toNat ≠ 58) (hk : pB (s.extract a (a + K)) = true) :
  Calls Tryz.prog 44 #[.string s, .int .i64 a] w fun e w' => e = .returned (.tuple #[(.agg #[.int .i64 (tkSet (tkCell (pR (s.extract a (a + K))) (pC (s.extract a (a + K)))) a).kind, .int .i64 (tkSet (tkCell (pR (s.extract a (a + K))) (pC (s.extract a (a + K)))) a).at', .int .i64 (tkSet (tkCell (pR (s.extract a (a + K))) (pC (s.extract a (a + K)))) a).num, .string (tkSet (tkCell (pR (s.extract a (a + K))) (pC (s.extract a (a + K)))) a).str, .int .i64 (tkSet (tkCell (pR (s.extract a (a + K))) (pC (s.extract a (a + K)))) a).c0, .int .i64 (tkSet (tkCell (pR (s.extract a (a + K))) (pC (s.extract a (a + K)))) a).c1, .int .i64 (tkSet (tkCell (pR (s.extract a (a + K))) (pC (s.extract a (a + K)))) a).r0, .int .i64 (tkSet (tkCell (pR (s.extract a (a + K))) (pC (s.extract a (a + K)))) a).r1, .int .i64 (tkSet (tkCell (pR (s.extract a (a + K))) (pC (s.extract a (a + K)))) a).r2, .int .i64 (tkSet (tkCell (pR (s.extract a (a + K))) (pC (s.extract a (a + K)))) a).r3, .int .i64 (tkSet (tkCell (pR (s.extract a (a + K))) (pC (s.extract a (a + K)))) a).code]), .int .i64 (a + K : Nat)]) ∧ Below w.heap.size w w' := by
 have hw1 := fun w => rword s a w hs zq17
 rw [hK] at hw1
 clear hK
 have hm := fun w => rmeant (s.extract a (a + K)) w (by rw [ByteArray.size_extract]; omega)
 have hwr := fun w => rwrong a w
 have hKi : (a : Int) + (K : Int) ≤ s.size := by omega
 have hcast : ((a + K : Nat) : Int) = (a : Int) + (K : Int) := by omega
 rw [hcast] at hw1
 clear hcast
 rw [hmt] at hm
 clear hmt
 have hpc := fun w => rparse_any (s.extract a (a + K)) w (by rw [ByteArray.size_extract]; unfold maxLen; omega)
 rw [hk] at hpc
 clear hk
 have hlt' : (a : Int) + (K : Int) < s.size := by omega
 have h58 : ¬ (s[a + K].toNat : Int) = 58 := by omega
 have h58b : ((s[a + K].toNat : Int) == 58) = false := by simpa using h58
 clear hcol
 go_enter Tryz.func44, Tryz.ntmps44
 go_wp2_with (first | (go_at_call 71; first | (refine (hw1 _).mono ?_; clear hw1; rintro e w1 ⟨rfl, hb⟩; have hB1 := bux w zq2 hb; have o1 := keepZ w.heap.size zq5 hb; have c0 := o1.cell; have f0 := o1.fro; have l0 := o1.lt; clear hb)| (refine (hw2 _).mono ?_; clear hw2; rintro e w1 ⟨rfl, hb⟩; have hB1 := bux w zq2 hb; have o1 := keepZ w.heap.size zq5 hb; have c0 := o1.cell; have f0 := o1.fro; have l0 := o1.lt; clear hb)) | (go_at_call 72; first | (refine (hm _).mono ?_; clear hm; rintro e w1 ⟨rfl, hb⟩; have hB1 := bux w zq2 hb; have o1 := keepZ w.heap.size zq5 hb; have c0 := o1.cell; have f0 := o1.fro; have l0 := o1.lt; clear hb)) | (go_at_call 73; first | (refine (hpr _).mono ?_; clear hpr; rintro e w1 ⟨rfl, hb⟩; have hB1 := bux w zq2 hb; have o1 := keepZ w.heap.size zq5 hb; have c0 := o1.cell; have f0 := o1.fro; have l0 := o1.lt; clear hb)) | (go_at_call 74; first | (refine (hpc _).mono ?_; clear hpc; rintro e w1 ⟨rfl, hb⟩; have hB1 := bux w zq2 hb; have o1 := keepZ w.heap.size zq5 hb; have c0 := o1.cell; have f0 := o1.fro; have l0 := o1.lt; clear hb)) | (go_at_call 69; first | (refine (hwr _).mono ?_; clear hwr; rintro e w1 ⟨rfl, hb⟩; have hB1 := bux w zq2 hb; have o1 := keepZ w.heap.size zq5 hb; have c0 := o1.cell; have f0 := o1.fro; have l0 := o1.lt; clear hb)))
 exact bodyPost_ret (v := .tuple #[(.agg #[.int .i64 (tkSet (tkCell (pR (s.extract a (a + K))) (pC (s.extract a (a + K)))) a).kind, .int .i64 (tkSet (tkCell (pR (s.extract a (a + K))) (pC (s.extract a (a + K)))) a).at', .int .i64 (tkSet (tkCell (pR (s.extract a (a + K))) (pC (s.extract a (a + K)))) a).num, .string (tkSet (tkCell (pR (s.extract a (a + K))) (pC (s.extract a (a + K)))) a).str, .int .i64 (tkSet (tkCell (pR (s.extract a (a + K))) (pC (s.extract a (a + K)))) a).c0, .int .i64 (tkSet (tkCell (pR (s.extract a (a + K))) (pC (s.extract a (a + K)))) a).c1, .int .i64 (tkSet (tkCell (pR (s.extract a (a + K))) (pC (s.extract a (a + K)))) a).r0, .int .i64 (tkSet (tkCell (pR (s.extract a (a + K))) (pC (s.extract a (a + K)))) a).r1, .int .i64 (tkSet (tkCell (pR (s.extract a (a + K))) (pC (s.extract a (a + K)))) a).r2, .int .i64 (tkSet (tkCell (pR (s.extract a (a + K))) (pC (s.extract a (a + K)))) a).r3, .int .i64 (tkSet (tkCell (pR (s.extract a (a + K))) (pC (s.extract a (a + K)))) a).code]), .int .i64 (a + K : Nat)]) (by simp [results, Tryz.results44, go_sem, c0, f0, l0, tkCell, tkSet]) rfl ⟨rfl, zq2⟩
theorem rname_rf (s : ByteArray) (a K : Nat) (w : World) (hs : s.size < 4294967281) (hK : runL (s.data.toList.drop a) WD = K) (hKs : a + K ≤ s.size) (hend : a + K < s.size) (hcol : s[a + K].toNat = 58) (J : Nat) (hJ : runL (s.data.toList.drop (a + K + 1)) WD = J) (hJs : a + K + 1 + J ≤ s.size) (hmt : (bgn (s.extract a (a + K)).data.toList LT && meant (s.extract a (a + K)).data.toList) = true) (hk : qB (s.extract a (a + K + 1 + J)) = false) :
  Calls Tryz.prog 44 #[.string s, .int .i64 a] w fun e w' => e = .returned (.tuple #[(.agg #[.int .i64 (tkSet (tk0 8) a).kind, .int .i64 (tkSet (tk0 8) a).at', .int .i64 (tkSet (tk0 8) a).num, .string (tkSet (tk0 8) a).str, .int .i64 (tkSet (tk0 8) a).c0, .int .i64 (tkSet (tk0 8) a).c1, .int .i64 (tkSet (tk0 8) a).r0, .int .i64 (tkSet (tk0 8) a).r1, .int .i64 (tkSet (tk0 8) a).r2, .int .i64 (tkSet (tk0 8) a).r3, .int .i64 (tkSet (tk0 8) a).code]), .int .i64 (a : Nat)]) ∧ Below w.heap.size w w' := by
 have hw1 := fun w => rword s a w hs zq17
 rw [hK] at hw1
 clear hK
 have hm := fun w => rmeant (s.extract a (a + K)) w (by rw [ByteArray.size_extract]; omega)
 have hwr := fun w => rwrong a w
 have hKi : (a : Int) + (K : Int) ≤ s.size := by omega
 have hcast : ((a + K : Nat) : Int) = (a : Int) + (K : Int) := by omega
 rw [hcast] at hw1
 clear hcast
 rw [hmt] at hm
 clear hmt
 have hw2 := fun w => rword' s (a + K + 1) ((a : Int) + (K : Int) + 1) w zq17 hs zq17
 rw [hJ] at hw2
 clear hJ
 have hcast : ((a + K + 1 + J : Nat) : Int) = (a : Int) + (K : Int) + 1 + (J : Int) := by omega
 rw [hcast] at hw2
 clear hcast
 have hpr := fun w => rprect_any (s.extract a (a + K + 1 + J)) w (by rw [ByteArray.size_extract]; unfold maxLen; omega)
 rw [hk] at hpr
 clear hk
 have hlt' : (a : Int) + (K : Int) < s.size := by omega
 have h58 : (s[a + K].toNat : Int) = 58 := by omega
 have h58b : ((s[a + K].toNat : Int) == 58) = true := by simpa using h58
 have hJi : (a : Int) + (K : Int) + 1 + (J : Int) ≤ s.size := by omega
 have hJa : (a : Int) ≤ (a : Int) + (K : Int) + 1 + (J : Int) := by omega
 clear hcol h58
 go_enter Tryz.func44, Tryz.ntmps44
 go_wp2_with (first | (go_at_call 71; first | (refine (hw1 _).mono ?_; clear hw1; rintro e w1 ⟨rfl, hb⟩; have hB1 := bux w zq2 hb; have o1 := keepZ w.heap.size zq5 hb; have c0 := o1.cell; have f0 := o1.fro; have l0 := o1.lt; clear hb)| (refine (hw2 _).mono ?_; clear hw2; rintro e w1 ⟨rfl, hb⟩; have hB1 := bux w zq2 hb; have o1 := keepZ w.heap.size zq5 hb; have c0 := o1.cell; have f0 := o1.fro; have l0 := o1.lt; clear hb)) | (go_at_call 72; first | (refine (hm _).mono ?_; clear hm; rintro e w1 ⟨rfl, hb⟩; have hB1 := bux w zq2 hb; have o1 := keepZ w.heap.size zq5 hb; have c0 := o1.cell; have f0 := o1.fro; have l0 := o1.lt; clear hb)) | (go_at_call 73; first | (refine (hpr _).mono ?_; clear hpr; rintro e w1 ⟨rfl, hb⟩; have hB1 := bux w zq2 hb; have o1 := keepZ w.heap.size zq5 hb; have c0 := o1.cell; have f0 := o1.fro; have l0 := o1.lt; clear hb)) | (go_at_call 74; first | (refine (hpc _).mono ?_; clear hpc; rintro e w1 ⟨rfl, hb⟩; have hB1 := bux w zq2 hb; have o1 := keepZ w.heap.size zq5 hb; have c0 := o1.cell; have f0 := o1.fro; have l0 := o1.lt; clear hb)) | (go_at_call 69; first | (refine (hwr _).mono ?_; clear hwr; rintro e w1 ⟨rfl, hb⟩; have hB1 := bux w zq2 hb; have o1 := keepZ w.heap.size zq5 hb; have c0 := o1.cell; have f0 := o1.fro; have l0 := o1.lt; clear hb)))
 exact bodyPost_ret (v := .tuple #[(.agg #[.int .i64 (tkSet (tk0 8) a).kind, .int .i64 (tkSet (tk0 8) a).at', .int .i64 (tkSet (tk0 8) a).num, .string (tkSet (tk0 8) a).str, .int .i64 (tkSet (tk0 8) a).c0, .int .i64 (tkSet (tk0 8) a).c1, .int .i64 (tkSet (tk0 8) a).r0, .int .i64 (tkSet (tk0 8) a).r1, .int .i64 (tkSet (tk0 8) a).r2, .int .i64 (tkSet (tk0 8) a).r3, .int .i64 (tkSet (tk0 8) a).code]), .int .i64 (a : Nat)]) (by simp [results, Tryz.results44, go_sem, c0, f0, l0, tk0, tkSet]) rfl ⟨rfl, zq2⟩
theorem rname_rt (s : ByteArray) (a K : Nat) (w : World) (hs : s.size < 4294967281) (hK : runL (s.data.toList.drop a) WD = K) (hKs : a + K ≤ s.size) (hend : a + K < s.size) (hcol : s[a + K].toNat = 58) (J : Nat) (hJ : runL (s.data.toList.drop (a + K + 1)) WD = J) (hJs : a + K + 1 + J ≤ s.size) (hmt : (bgn (s.extract a (a + K)).data.toList LT && meant (s.extract a (a + K)).data.toList) = true) (hk : qB (s.extract a (a + K + 1 + J)) = true) :
  Calls Tryz.prog 44 #[.string s, .int .i64 a] w fun e w' => e = .returned (.tuple #[(.agg #[.int .i64 (tkSet (tkRect (qT (s.extract a (a + K + 1 + J))) (qL (s.extract a (a + K + 1 + J))) (qO (s.extract a (a + K + 1 + J))) (qR (s.extract a (a + K + 1 + J)))) a).kind, .int .i64 (tkSet (tkRect (qT (s.extract a (a + K + 1 + J))) (qL (s.extract a (a + K + 1 + J))) (qO (s.extract a (a + K + 1 + J))) (qR (s.extract a (a + K + 1 + J)))) a).at', .int .i64 (tkSet (tkRect (qT (s.extract a (a + K + 1 + J))) (qL (s.extract a (a + K + 1 + J))) (qO (s.extract a (a + K + 1 + J))) (qR (s.extract a (a + K + 1 + J)))) a).num, .string (tkSet (tkRect (qT (s.extract a (a + K + 1 + J))) (qL (s.extract a (a + K + 1 + J))) (qO (s.extract a (a + K + 1 + J))) (qR (s.extract a (a + K + 1 + J)))) a).str, .int .i64 (tkSet (tkRect (qT (s.extract a (a + K + 1 + J))) (qL (s.extract a (a + K + 1 + J))) (qO (s.extract a (a + K + 1 + J))) (qR (s.extract a (a + K + 1 + J)))) a).c0, .int .i64 (tkSet (tkRect (qT (s.extract a (a + K + 1 + J))) (qL (s.extract a (a + K + 1 + J))) (qO (s.extract a (a + K + 1 + J))) (qR (s.extract a (a + K + 1 + J)))) a).c1, .int .i64 (tkSet (tkRect (qT (s.extract a (a + K + 1 + J))) (qL (s.extract a (a + K + 1 + J))) (qO (s.extract a (a + K + 1 + J))) (qR (s.extract a (a + K + 1 + J)))) a).r0, .int .i64 (tkSet (tkRect (qT (s.extract a (a + K + 1 + J))) (qL (s.extract a (a + K + 1 + J))) (qO (s.extract a (a + K + 1 + J))) (qR (s.extract a (a + K + 1 + J)))) a).r1, .int .i64 (tkSet (tkRect (qT (s.extract a (a + K + 1 + J))) (qL (s.extract a (a + K + 1 + J))) (qO (s.extract a (a + K + 1 + J))) (qR (s.extract a (a + K + 1 + J)))) a).r2, .int .i64 (tkSet (tkRect (qT (s.extract a (a + K + 1 + J))) (qL (s.extract a (a + K + 1 + J))) (qO (s.extract a (a + K + 1 + J))) (qR (s.extract a (a + K + 1 + J)))) a).r3, .int .i64 (tkSet (tkRect (qT (s.extract a (a + K + 1 + J))) (qL (s.extract a (a + K + 1 + J))) (qO (s.extract a (a + K + 1 + J))) (qR (s.extract a (a + K + 1 + J)))) a).code]), .int .i64 (a + K + 1 + J : Nat)]) ∧ Below w.heap.size w w' := by
 have hw1 := fun w => rword s a w hs zq17
 rw [hK] at hw1
 clear hK
 have hm := fun w => rmeant (s.extract a (a + K)) w (by rw [ByteArray.size_extract]; omega)
 have hwr := fun w => rwrong a w
 have hKi : (a : Int) + (K : Int) ≤ s.size := by omega
 have hcast : ((a + K : Nat) : Int) = (a : Int) + (K : Int) := by omega
 rw [hcast] at hw1
 clear hcast
 rw [hmt] at hm
 clear hmt
 have hw2 := fun w => rword' s (a + K + 1) ((a : Int) + (K : Int) + 1) w zq17 hs zq17
 rw [hJ] at hw2
 clear hJ
 have hcast : ((a + K + 1 + J : Nat) : Int) = (a : Int) + (K : Int) + 1 + (J : Int) := by omega
 rw [hcast] at hw2
 clear hcast
 have hpr := fun w => rprect_any (s.extract a (a + K + 1 + J)) w (by rw [ByteArray.size_extract]; unfold maxLen; omega)
 rw [hk] at hpr
 clear hk
 have hlt' : (a : Int) + (K : Int) < s.size := by omega
 have h58 : (s[a + K].toNat : Int) = 58 := by omega
 have h58b : ((s[a + K].toNat : Int) == 58) = true := by simpa using h58
 have hJi : (a : Int) + (K : Int) + 1 + (J : Int) ≤ s.size := by omega
 have hJa : (a : Int) ≤ (a : Int) + (K : Int) + 1 + (J : Int) := by omega
 clear hcol h58
 go_enter Tryz.func44, Tryz.ntmps44
 go_wp2_with (first | (go_at_call 71; first | (refine (hw1 _).mono ?_; clear hw1; rintro e w1 ⟨rfl, hb⟩; have hB1 := bux w zq2 hb; have o1 := keepZ w.heap.size zq5 hb; have c0 := o1.cell; have f0 := o1.fro; have l0 := o1.lt; clear hb)| (refine (hw2 _).mono ?_; clear hw2; rintro e w1 ⟨rfl, hb⟩; have hB1 := bux w zq2 hb; have o1 := keepZ w.heap.size zq5 hb; have c0 := o1.cell; have f0 := o1.fro; have l0 := o1.lt; clear hb)) | (go_at_call 72; first | (refine (hm _).mono ?_; clear hm; rintro e w1 ⟨rfl, hb⟩; have hB1 := bux w zq2 hb; have o1 := keepZ w.heap.size zq5 hb; have c0 := o1.cell; have f0 := o1.fro; have l0 := o1.lt; clear hb)) | (go_at_call 73; first | (refine (hpr _).mono ?_; clear hpr; rintro e w1 ⟨rfl, hb⟩; have hB1 := bux w zq2 hb; have o1 := keepZ w.heap.size zq5 hb; have c0 := o1.cell; have f0 := o1.fro; have l0 := o1.lt; clear hb)) | (go_at_call 74; first | (refine (hpc _).mono ?_; clear hpc; rintro e w1 ⟨rfl, hb⟩; have hB1 := bux w zq2 hb; have o1 := keepZ w.heap.size zq5 hb; have c0 := o1.cell; have f0 := o1.fro; have l0 := o1.lt; clear hb)) | (go_at_call 69; first | (refine (hwr _).mono ?_; clear hwr; rintro e w1 ⟨rfl, hb⟩; have hB1 := bux w zq2 hb; have o1 := keepZ w.heap.size zq5 hb; have c0 := o1.cell; have f0 := o1.fro; have l0 := o1.lt; clear hb)))
 exact bodyPost_ret (v := .tuple #[(.agg #[.int .i64 (tkSet (tkRect (qT (s.extract a (a + K + 1 + J))) (qL (s.extract a (a + K + 1 + J))) (qO (s.extract a (a + K + 1 + J))) (qR (s.extract a (a + K + 1 + J)))) a).kind, .int .i64 (tkSet (tkRect (qT (s.extract a (a + K + 1 + J))) (qL (s.extract a (a + K + 1 + J))) (qO (s.extract a (a + K + 1 + J))) (qR (s.extract a (a + K + 1 + J)))) a).at', .int .i64 (tkSet (tkRect (qT (s.extract a (a + K + 1 + J))) (qL (s.extract a (a + K + 1 + J))) (qO (s.extract a (a + K + 1 + J))) (qR (s.extract a (a + K + 1 + J)))) a).num, .string (tkSet (tkRect (qT (s.extract a (a + K + 1 + J))) (qL (s.extract a (a + K + 1 + J))) (qO (s.extract a (a + K + 1 + J))) (qR (s.extract a (a + K + 1 + J)))) a).str, .int .i64 (tkSet (tkRect (qT (s.extract a (a + K + 1 + J))) (qL (s.extract a (a + K + 1 + J))) (qO (s.extract a (a + K + 1 + J))) (qR (s.extract a (a + K + 1 + J)))) a).c0, .int .i64 (tkSet (tkRect (qT (s.extract a (a + K + 1 + J))) (qL (s.extract a (a + K + 1 + J))) (qO (s.extract a (a + K + 1 + J))) (qR (s.extract a (a + K + 1 + J)))) a).c1, .int .i64 (tkSet (tkRect (qT (s.extract a (a + K + 1 + J))) (qL (s.extract a (a + K + 1 + J))) (qO (s.extract a (a + K + 1 + J))) (qR (s.extract a (a + K + 1 + J)))) a).r0, .int .i64 (tkSet (tkRect (qT (s.extract a (a + K + 1 + J))) (qL (s.extract a (a + K + 1 + J))) (qO (s.extract a (a + K + 1 + J))) (qR (s.extract a (a + K + 1 + J)))) a).r1, .int .i64 (tkSet (tkRect (qT (s.extract a (a + K + 1 + J))) (qL (s.extract a (a + K + 1 + J))) (qO (s.extract a (a + K + 1 + J))) (qR (s.extract a (a + K + 1 + J)))) a).r2, .int .i64 (tkSet (tkRect (qT (s.extract a (a + K + 1 + J))) (qL (s.extract a (a + K + 1 + J))) (qO (s.extract a (a + K + 1 + J))) (qR (s.extract a (a + K + 1 + J)))) a).r3, .int .i64 (tkSet (tkRect (qT (s.extract a (a + K + 1 + J))) (qL (s.extract a (a + K + 1 + J))) (qO (s.extract a (a + K + 1 + J))) (qR (s.extract a (a + K + 1 + J)))) a).code]), .int .i64 (a + K + 1 + J : Nat)]) (by simp [results, Tryz.results44, go_sem, c0, f0, l0, tkRect, tkSet]) rfl ⟨rfl, zq2⟩
end Go.Proofs.YtcmjhjnpcogmgaaGreatDoor
