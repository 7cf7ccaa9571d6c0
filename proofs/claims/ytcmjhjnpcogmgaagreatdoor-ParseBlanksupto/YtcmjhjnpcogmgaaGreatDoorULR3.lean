/- Contracts of lex's readers of a word and of any piece -/
import Derived.Test.YtcmjhjnpcogmgaaGreatDoorUAuto
import Derived.Test.YtcmjhjnpcogmgaaGreatDoorULRLR2
set_option linter.all false
set_option maxRecDepth 100000
set_option maxHeartbeats 4000000
namespace Go.Proofs.YtcmjhjnpcogmgaaGreatDoor
open Go.Shelf Go.RowKit
theorem rdw_any (s : ByteArray) (w : World) (hs : s.size ≤ maxLen) : Calls Tryz.prog 87 #[.string s] w fun e w' => e = .returned (.agg #[.int .i64 (rdW s).kind, .int .i64 (rdW s).at', .int .i64 (rdW s).num, .string (rdW s).str, .int .i64 (rdW s).c0, .int .i64 (rdW s).c1, .int .i64 (rdW s).r0, .int .i64 (rdW s).r1, .int .i64 (rdW s).r2, .int .i64 (rdW s).r3, .int .i64 (rdW s).code]) ∧ Below w.heap.size w w' := by
 have hc := fun w => cont_any s w
 have hm := fun w => meant_any s w hs
 have hr := fun w => rdrect_any s w hs
 have hl := fun w => rdcell_any s w
 have e : rdW s = if decide (0 ≤ Lib.indexByte s.data.toList 58) then rdRect s else if meant s.data.toList then rdCell s else tkStr 3 s := rfl
 rw [e]
 clear e
 revert hc hm hr hl
 generalize decide (0 ≤ Lib.indexByte s.data.toList 58) = b1
 generalize meant s.data.toList = b2
 generalize rdRect s = t1
 generalize rdCell s = t2
 intro hc hm hr hl
 cases b1
 ·cases b2
  ·rw [if_neg (by simp), if_neg (by simp)]
   go_enter Tryz.func87, Tryz.ntmps87
   go_wp2_with (first | (go_at_call 130; first | (refine (hc _).mono ?_; clear hc; rintro e w1 ⟨rfl, hb⟩; have hB := bux w zq2 hb; have o0 := keepZ w.heap.size zq5 hb; have c0 := o0.cell; have f0 := o0.fro; have l0 := o0.lt)) | (go_at_call 132; first | (refine (hm _).mono ?_; clear hm; rintro e w1 ⟨rfl, hb⟩; have hB := bux w zq2 hb; have o0 := keepZ w.heap.size zq5 hb; have c0 := o0.cell; have f0 := o0.fro; have l0 := o0.lt)) | (go_at_call 131; first | (refine (hr _).mono ?_; clear hr; rintro e w1 ⟨rfl, hb⟩; have hB := bux w zq2 hb; have o0 := keepZ w.heap.size zq5 hb; have c0 := o0.cell; have f0 := o0.fro; have l0 := o0.lt)) | (go_at_call 133; first | (refine (hl _).mono ?_; clear hl; rintro e w1 ⟨rfl, hb⟩; have hB := bux w zq2 hb; have o0 := keepZ w.heap.size zq5 hb; have c0 := o0.cell; have f0 := o0.fro; have l0 := o0.lt)))
   exact bodyPost_ret (v := (.agg #[.int .i64 (tkStr 3 s).kind, .int .i64 (tkStr 3 s).at', .int .i64 (tkStr 3 s).num, .string (tkStr 3 s).str, .int .i64 (tkStr 3 s).c0, .int .i64 (tkStr 3 s).c1, .int .i64 (tkStr 3 s).r0, .int .i64 (tkStr 3 s).r1, .int .i64 (tkStr 3 s).r2, .int .i64 (tkStr 3 s).r3, .int .i64 (tkStr 3 s).code])) (by simp [results, Tryz.results87, go_sem, c0, f0, l0, tkStr]) rfl ⟨rfl, zq2⟩
  ·rw [if_neg (by simp), if_pos rfl]
   go_enter Tryz.func87, Tryz.ntmps87
   go_wp2_with (first | (go_at_call 130; first | (refine (hc _).mono ?_; clear hc; rintro e w1 ⟨rfl, hb⟩; have hB := bux w zq2 hb; have o0 := keepZ w.heap.size zq5 hb; have c0 := o0.cell; have f0 := o0.fro; have l0 := o0.lt)) | (go_at_call 132; first | (refine (hm _).mono ?_; clear hm; rintro e w1 ⟨rfl, hb⟩; have hB := bux w zq2 hb; have o0 := keepZ w.heap.size zq5 hb; have c0 := o0.cell; have f0 := o0.fro; have l0 := o0.lt)) | (go_at_call 131; first | (refine (hr _).mono ?_; clear hr; rintro e w1 ⟨rfl, hb⟩; have hB := bux w zq2 hb; have o0 := keepZ w.heap.size zq5 hb; have c0 := o0.cell; have f0 := o0.fro; have l0 := o0.lt)) | (go_at_call 133; first | (refine (hl _).mono ?_; clear hl; rintro e w1 ⟨rfl, hb⟩; have hB := bux w zq2 hb; have o0 := keepZ w.heap.size zq5 hb; have c0 := o0.cell; have f0 := o0.fro; have l0 := o0.lt)))
   exact bodyPost_ret (v := (.agg #[.int .i64 t2.kind, .int .i64 t2.at', .int .i64 t2.num, .string t2.str, .int .i64 t2.c0, .int .i64 t2.c1, .int .i64 t2.r0, .int .i64 t2.r1, .int .i64 t2.r2, .int .i64 t2.r3, .int .i64 t2.code])) (by simp [results, Tryz.results87, go_sem, c0, f0, l0, Tk.val]) rfl ⟨rfl, zq2⟩
 ·rw [if_pos rfl]
  go_enter Tryz.func87, Tryz.ntmps87
  go_wp2_with (first | (go_at_call 130; first | (refine (hc _).mono ?_; clear hc; rintro e w1 ⟨rfl, hb⟩; have hB := bux w zq2 hb; have o0 := keepZ w.heap.size zq5 hb; have c0 := o0.cell; have f0 := o0.fro; have l0 := o0.lt)) | (go_at_call 132; first | (refine (hm _).mono ?_; clear hm; rintro e w1 ⟨rfl, hb⟩; have hB := bux w zq2 hb; have o0 := keepZ w.heap.size zq5 hb; have c0 := o0.cell; have f0 := o0.fro; have l0 := o0.lt)) | (go_at_call 131; first | (refine (hr _).mono ?_; clear hr; rintro e w1 ⟨rfl, hb⟩; have hB := bux w zq2 hb; have o0 := keepZ w.heap.size zq5 hb; have c0 := o0.cell; have f0 := o0.fro; have l0 := o0.lt)) | (go_at_call 133; first | (refine (hl _).mono ?_; clear hl; rintro e w1 ⟨rfl, hb⟩; have hB := bux w zq2 hb; have o0 := keepZ w.heap.size zq5 hb; have c0 := o0.cell; have f0 := o0.fro; have l0 := o0.lt)))
  exact bodyPost_ret (v := (.agg #[.int .i64 t1.kind, .int .i64 t1.at', .int .i64 t1.num, .string t1.str, .int .i64 t1.c0, .int .i64 t1.c1, .int .i64 t1.r0, .int .i64 t1.r1, .int .i64 t1.r2, .int .i64 t1.r3, .int .i64 t1.code])) (by simp [results, Tryz.results87, go_sem, c0, f0, l0, Tk.val]) rfl ⟨rfl, zq2⟩
theorem read_any (s : ByteArray) (w : World) (hs : s.size < 4294967281) (hN : Vv.Nam w) (hM : Mx w) : Calls Tryz.prog 52 #[.string s] w fun e w' => e = .returned (.agg #[.int .i64 (rdT s).kind, .int .i64 (rdT s).at', .int .i64 (rdT s).num, .string (rdT s).str, .int .i64 (rdT s).c0, .int .i64 (rdT s).c1, .int .i64 (rdT s).r0, .int .i64 (rdT s).r1, .int .i64 (rdT s).r2, .int .i64 (rdT s).r3, .int .i64 (rdT s).code]) ∧ Below w.heap.size w w' := by
 have hs' : s.size ≤ maxLen := by unfold maxLen; omega
 by_cases hne : s.toList = []
 ·have e : rdT s = tk0 0 := by unfold rdT; rw [← toL, if_pos hne]
  have he : s.toList.isEmpty = true := by rw [hne]; rfl
  rw [e]
  go_enter Tryz.func52, Tryz.ntmps52
  go_wp2
  have o0 : Own (w.alloc (.cells #[.int .i64 0, .int .i64 0, .int .i64 0, .string ⟨#[]⟩, .int .i64 0, .int .i64 0, .int .i64 0, .int .i64 0, .int .i64 0, .int .i64 0, .int .i64 0] 43)) w.heap.size #[.int .i64 0, .int .i64 0, .int .i64 0, .string ⟨#[]⟩, .int .i64 0, .int .i64 0, .int .i64 0, .int .i64 0, .int .i64 0, .int .i64 0, .int .i64 0] := Own.new _ _ _
  have c0 := o0.cell
  have f0 := o0.fro
  have l0 := o0.lt
  exact bodyPost_ret (v := (.agg #[.int .i64 (tk0 0).kind, .int .i64 (tk0 0).at', .int .i64 (tk0 0).num, .string (tk0 0).str, .int .i64 (tk0 0).c0, .int .i64 (tk0 0).c1, .int .i64 (tk0 0).r0, .int .i64 (tk0 0).r1, .int .i64 (tk0 0).r2, .int .i64 (tk0 0).r3, .int .i64 (tk0 0).code])) (by simp [results, Tryz.results52, go_sem, c0, f0, l0, tk0]) rfl ⟨rfl, zq2⟩
 ·have he : s.toList.isEmpty = false := by cases h2 : s.toList; exact absurd h2 hne; rfl
  have e : rdT s = if bgn s.data.toList DG then rdNum s else if bgn s.data.toList [34] then rdQ s.data.toList else if bgn s.data.toList [35] then rdF s else if bgn s.data.toList LT then rdW s else if bgn s.data.toList SG then tkStr 7 s else tk0 8 := by
   unfold rdT; rw [if_neg (by rw [← toL]; exact hne)]
  rw [e]
  clear e
  have hD := fun w => begins_D s w
  have hQ := fun w => begins_Q s w
  have hF := fun w => begins_F s w
  have hL := fun w => begins_L s w
  have hS := fun w => begins_S s w
  have hn := fun w => rdnum_any s w hs'
  have hq : bgn s.data.toList [34] = true → ∀ w1, Below w.heap.size w w1 → _ := fun hb w1 hB => rdq_any s w1 hs hb (hM.stays hB)
  have hf : ∀ w1, Below w.heap.size w w1 → _ := fun w1 hB => rdfault_any s w1 (hN.stays hB)
  have hw := fun w => rdw_any s w hs'
  have hwr := fun w => wrong_any w
  clear hN hM
  revert hD hQ hF hL hS hn hq hf hw
  generalize bgn s.data.toList DG = b1
  generalize bgn s.data.toList [34] = b2
  generalize bgn s.data.toList [35] = b3
  generalize bgn s.data.toList LT = b4
  generalize bgn s.data.toList SG = b5
  generalize rdNum s = t1
  generalize rdQ s.data.toList = t2
  generalize rdF s = t3
  generalize rdW s = t4
  intro hD hQ hF hL hS hn hq hf hw
  cases b1
  ·cases b2
   ·cases b3
    ·cases b4
     ·cases b5
      ·clear hq
       rw [if_neg (by simp), if_neg (by simp), if_neg (by simp), if_neg (by simp), if_neg (by simp)]
       go_enter Tryz.func52, Tryz.ntmps52
       go_wp2_with (first | (go_at_call 83; first | (refine (hD _).mono ?_; clear hD; rintro e w1 ⟨rfl, hb⟩; have hB := bux w zq2 hb; have o0 := keepZ w.heap.size zq5 hb; have c0 := o0.cell; have f0 := o0.fro; have l0 := o0.lt)| (refine (hQ _).mono ?_; clear hQ; rintro e w1 ⟨rfl, hb⟩; have hB := bux w zq2 hb; have o0 := keepZ w.heap.size zq5 hb; have c0 := o0.cell; have f0 := o0.fro; have l0 := o0.lt)| (refine (hF _).mono ?_; clear hF; rintro e w1 ⟨rfl, hb⟩; have hB := bux w zq2 hb; have o0 := keepZ w.heap.size zq5 hb; have c0 := o0.cell; have f0 := o0.fro; have l0 := o0.lt)| (refine (hL _).mono ?_; clear hL; rintro e w1 ⟨rfl, hb⟩; have hB := bux w zq2 hb; have o0 := keepZ w.heap.size zq5 hb; have c0 := o0.cell; have f0 := o0.fro; have l0 := o0.lt)| (refine (hS _).mono ?_; clear hS; rintro e w1 ⟨rfl, hb⟩; have hB := bux w zq2 hb; have o0 := keepZ w.heap.size zq5 hb; have c0 := o0.cell; have f0 := o0.fro; have l0 := o0.lt)) | (go_at_call 84; first | (refine (hn _).mono ?_; clear hn; rintro e w1 ⟨rfl, hb⟩; have hB := bux w zq2 hb; have o0 := keepZ w.heap.size zq5 hb; have c0 := o0.cell; have f0 := o0.fro; have l0 := o0.lt)) | (go_at_call 85; refine (hq _ zq2).mono ?_; clear hq; rintro e w1 ⟨rfl, hb⟩; have hB := bux w zq2 hb; have o0 := keepZ w.heap.size zq5 hb; have c0 := o0.cell; have f0 := o0.fro; have l0 := o0.lt) | (go_at_call 86; refine (hf _ zq2).mono ?_; clear hf; rintro e w1 ⟨rfl, hb⟩; have hB := bux w zq2 hb; have o0 := keepZ w.heap.size zq5 hb; have c0 := o0.cell; have f0 := o0.fro; have l0 := o0.lt) | (go_at_call 87; first | (refine (hw _).mono ?_; clear hw; rintro e w1 ⟨rfl, hb⟩; have hB := bux w zq2 hb; have o0 := keepZ w.heap.size zq5 hb; have c0 := o0.cell; have f0 := o0.fro; have l0 := o0.lt)) | (go_at_call 50; first | (refine (hwr _).mono ?_; clear hwr; rintro e w1 ⟨rfl, hb⟩; have hB := bux w zq2 hb; have o0 := keepZ w.heap.size zq5 hb; have c0 := o0.cell; have f0 := o0.fro; have l0 := o0.lt)))
       exact bodyPost_ret (v := (.agg #[.int .i64 (tk0 8).kind, .int .i64 (tk0 8).at', .int .i64 (tk0 8).num, .string (tk0 8).str, .int .i64 (tk0 8).c0, .int .i64 (tk0 8).c1, .int .i64 (tk0 8).r0, .int .i64 (tk0 8).r1, .int .i64 (tk0 8).r2, .int .i64 (tk0 8).r3, .int .i64 (tk0 8).code])) (by simp [results, Tryz.results52, go_sem, c0, f0, l0, tk0]) rfl ⟨rfl, zq2⟩
      ·clear hq
       rw [if_neg (by simp), if_neg (by simp), if_neg (by simp), if_neg (by simp), if_pos rfl]
       go_enter Tryz.func52, Tryz.ntmps52
       go_wp2_with (first | (go_at_call 83; first | (refine (hD _).mono ?_; clear hD; rintro e w1 ⟨rfl, hb⟩; have hB := bux w zq2 hb; have o0 := keepZ w.heap.size zq5 hb; have c0 := o0.cell; have f0 := o0.fro; have l0 := o0.lt)| (refine (hQ _).mono ?_; clear hQ; rintro e w1 ⟨rfl, hb⟩; have hB := bux w zq2 hb; have o0 := keepZ w.heap.size zq5 hb; have c0 := o0.cell; have f0 := o0.fro; have l0 := o0.lt)| (refine (hF _).mono ?_; clear hF; rintro e w1 ⟨rfl, hb⟩; have hB := bux w zq2 hb; have o0 := keepZ w.heap.size zq5 hb; have c0 := o0.cell; have f0 := o0.fro; have l0 := o0.lt)| (refine (hL _).mono ?_; clear hL; rintro e w1 ⟨rfl, hb⟩; have hB := bux w zq2 hb; have o0 := keepZ w.heap.size zq5 hb; have c0 := o0.cell; have f0 := o0.fro; have l0 := o0.lt)| (refine (hS _).mono ?_; clear hS; rintro e w1 ⟨rfl, hb⟩; have hB := bux w zq2 hb; have o0 := keepZ w.heap.size zq5 hb; have c0 := o0.cell; have f0 := o0.fro; have l0 := o0.lt)) | (go_at_call 84; first | (refine (hn _).mono ?_; clear hn; rintro e w1 ⟨rfl, hb⟩; have hB := bux w zq2 hb; have o0 := keepZ w.heap.size zq5 hb; have c0 := o0.cell; have f0 := o0.fro; have l0 := o0.lt)) | (go_at_call 85; refine (hq _ zq2).mono ?_; clear hq; rintro e w1 ⟨rfl, hb⟩; have hB := bux w zq2 hb; have o0 := keepZ w.heap.size zq5 hb; have c0 := o0.cell; have f0 := o0.fro; have l0 := o0.lt) | (go_at_call 86; refine (hf _ zq2).mono ?_; clear hf; rintro e w1 ⟨rfl, hb⟩; have hB := bux w zq2 hb; have o0 := keepZ w.heap.size zq5 hb; have c0 := o0.cell; have f0 := o0.fro; have l0 := o0.lt) | (go_at_call 87; first | (refine (hw _).mono ?_; clear hw; rintro e w1 ⟨rfl, hb⟩; have hB := bux w zq2 hb; have o0 := keepZ w.heap.size zq5 hb; have c0 := o0.cell; have f0 := o0.fro; have l0 := o0.lt)) | (go_at_call 50; first | (refine (hwr _).mono ?_; clear hwr; rintro e w1 ⟨rfl, hb⟩; have hB := bux w zq2 hb; have o0 := keepZ w.heap.size zq5 hb; have c0 := o0.cell; have f0 := o0.fro; have l0 := o0.lt)))
       exact bodyPost_ret (v := (.agg #[.int .i64 (tkStr 7 s).kind, .int .i64 (tkStr 7 s).at', .int .i64 (tkStr 7 s).num, .string (tkStr 7 s).str, .int .i64 (tkStr 7 s).c0, .int .i64 (tkStr 7 s).c1, .int .i64 (tkStr 7 s).r0, .int .i64 (tkStr 7 s).r1, .int .i64 (tkStr 7 s).r2, .int .i64 (tkStr 7 s).r3, .int .i64 (tkStr 7 s).code])) (by simp [results, Tryz.results52, go_sem, c0, f0, l0, tkStr]) rfl ⟨rfl, zq2⟩
     ·clear hq
      rw [if_neg (by simp), if_neg (by simp), if_neg (by simp), if_pos rfl]
      go_enter Tryz.func52, Tryz.ntmps52
      go_wp2_with (first | (go_at_call 83; first | (refine (hD _).mono ?_; clear hD; rintro e w1 ⟨rfl, hb⟩; have hB := bux w zq2 hb; have o0 := keepZ w.heap.size zq5 hb; have c0 := o0.cell; have f0 := o0.fro; have l0 := o0.lt)| (refine (hQ _).mono ?_; clear hQ; rintro e w1 ⟨rfl, hb⟩; have hB := bux w zq2 hb; have o0 := keepZ w.heap.size zq5 hb; have c0 := o0.cell; have f0 := o0.fro; have l0 := o0.lt)| (refine (hF _).mono ?_; clear hF; rintro e w1 ⟨rfl, hb⟩; have hB := bux w zq2 hb; have o0 := keepZ w.heap.size zq5 hb; have c0 := o0.cell; have f0 := o0.fro; have l0 := o0.lt)| (refine (hL _).mono ?_; clear hL; rintro e w1 ⟨rfl, hb⟩; have hB := bux w zq2 hb; have o0 := keepZ w.heap.size zq5 hb; have c0 := o0.cell; have f0 := o0.fro; have l0 := o0.lt)| (refine (hS _).mono ?_; clear hS; rintro e w1 ⟨rfl, hb⟩; have hB := bux w zq2 hb; have o0 := keepZ w.heap.size zq5 hb; have c0 := o0.cell; have f0 := o0.fro; have l0 := o0.lt)) | (go_at_call 84; first | (refine (hn _).mono ?_; clear hn; rintro e w1 ⟨rfl, hb⟩; have hB := bux w zq2 hb; have o0 := keepZ w.heap.size zq5 hb; have c0 := o0.cell; have f0 := o0.fro; have l0 := o0.lt)) | (go_at_call 85; refine (hq _ zq2).mono ?_; clear hq; rintro e w1 ⟨rfl, hb⟩; have hB := bux w zq2 hb; have o0 := keepZ w.heap.size zq5 hb; have c0 := o0.cell; have f0 := o0.fro; have l0 := o0.lt) | (go_at_call 86; refine (hf _ zq2).mono ?_; clear hf; rintro e w1 ⟨rfl, hb⟩; have hB := bux w zq2 hb; have o0 := keepZ w.heap.size zq5 hb; have c0 := o0.cell; have f0 := o0.fro; have l0 := o0.lt) | (go_at_call 87; first | (refine (hw _).mono ?_; clear hw; rintro e w1 ⟨rfl, hb⟩; have hB := bux w zq2 hb; have o0 := keepZ w.heap.size zq5 hb; have c0 := o0.cell; have f0 := o0.fro; have l0 := o0.lt)) | (go_at_call 50; first | (refine (hwr _).mono ?_; clear hwr; rintro e w1 ⟨rfl, hb⟩; have hB := bux w zq2 hb; have o0 := keepZ w.heap.size zq5 hb; have c0 := o0.cell; have f0 := o0.fro; have l0 := o0.lt)))
      exact bodyPost_ret (v := (.agg #[.int .i64 t4.kind, .int .i64 t4.at', .int .i64 t4.num, .string t4.str, .int .i64 t4.c0, .int .i64 t4.c1, .int .i64 t4.r0, .int .i64 t4.r1, .int .i64 t4.r2, .int .i64 t4.r3, .int .i64 t4.code])) (by simp [results, Tryz.results52, go_sem, c0, f0, l0, Tk.val]) rfl ⟨rfl, zq2⟩
    ·clear hq
     rw [if_neg (by simp), if_neg (by simp), if_pos rfl]
     go_enter Tryz.func52, Tryz.ntmps52
     go_wp2_with (first | (go_at_call 83; first | (refine (hD _).mono ?_; clear hD; rintro e w1 ⟨rfl, hb⟩; have hB := bux w zq2 hb; have o0 := keepZ w.heap.size zq5 hb; have c0 := o0.cell; have f0 := o0.fro; have l0 := o0.lt)| (refine (hQ _).mono ?_; clear hQ; rintro e w1 ⟨rfl, hb⟩; have hB := bux w zq2 hb; have o0 := keepZ w.heap.size zq5 hb; have c0 := o0.cell; have f0 := o0.fro; have l0 := o0.lt)| (refine (hF _).mono ?_; clear hF; rintro e w1 ⟨rfl, hb⟩; have hB := bux w zq2 hb; have o0 := keepZ w.heap.size zq5 hb; have c0 := o0.cell; have f0 := o0.fro; have l0 := o0.lt)| (refine (hL _).mono ?_; clear hL; rintro e w1 ⟨rfl, hb⟩; have hB := bux w zq2 hb; have o0 := keepZ w.heap.size zq5 hb; have c0 := o0.cell; have f0 := o0.fro; have l0 := o0.lt)| (refine (hS _).mono ?_; clear hS; rintro e w1 ⟨rfl, hb⟩; have hB := bux w zq2 hb; have o0 := keepZ w.heap.size zq5 hb; have c0 := o0.cell; have f0 := o0.fro; have l0 := o0.lt)) | (go_at_call 84; first | (refine (hn _).mono ?_; clear hn; rintro e w1 ⟨rfl, hb⟩; have hB := bux w zq2 hb; have o0 := keepZ w.heap.size zq5 hb; have c0 := o0.cell; have f0 := o0.fro; have l0 := o0.lt)) | (go_at_call 85; refine (hq _ zq2).mono ?_; clear hq; rintro e w1 ⟨rfl, hb⟩; have hB := bux w zq2 hb; have o0 := keepZ w.heap.size zq5 hb; have c0 := o0.cell; have f0 := o0.fro; have l0 := o0.lt) | (go_at_call 86; refine (hf _ zq2).mono ?_; clear hf; rintro e w1 ⟨rfl, hb⟩; have hB := bux w zq2 hb; have o0 := keepZ w.heap.size zq5 hb; have c0 := o0.cell; have f0 := o0.fro; have l0 := o0.lt) | (go_at_call 87; first | (refine (hw _).mono ?_; clear hw; rintro e w1 ⟨rfl, hb⟩; have hB := bux w zq2 hb; have o0 := keepZ w.heap.size zq5 hb; have c0 := o0.cell; have f0 := o0.fro; have l0 := o0.lt)) | (go_at_call 50; first | (refine (hwr _).mono ?_; clear hwr; rintro e w1 ⟨rfl, hb⟩; have hB := bux w zq2 hb; have o0 := keepZ w.heap.size zq5 hb; have c0 := o0.cell; have f0 := o0.fro; have l0 := o0.lt)))
     exact bodyPost_ret (v := (.agg #[.int .i64 t3.kind, .int .i64 t3.at', .int .i64 t3.num, .string t3.str, .int .i64 t3.c0, .int .i64 t3.c1, .int .i64 t3.r0, .int .i64 t3.r1, .int .i64 t3.r2, .int .i64 t3.r3, .int .i64 t3.code])) (by simp [results, Tryz.results52, go_sem, c0, f0, l0, Tk.val]) rfl ⟨rfl, zq2⟩
   ·replace hq := hq rfl
    rw [if_neg (by simp), if_pos rfl]
    go_enter Tryz.func52, Tryz.ntmps52
    go_wp2_with (first | (go_at_call 83; first | (refine (hD _).mono ?_; clear hD; rintro e w1 ⟨rfl, hb⟩; have hB := bux w zq2 hb; have o0 := keepZ w.heap.size zq5 hb; have c0 := o0.cell; have f0 := o0.fro; have l0 := o0.lt)| (refine (hQ _).mono ?_; clear hQ; rintro e w1 ⟨rfl, hb⟩; have hB := bux w zq2 hb; have o0 := keepZ w.heap.size zq5 hb; have c0 := o0.cell; have f0 := o0.fro; have l0 := o0.lt)| (refine (hF _).mono ?_; clear hF; rintro e w1 ⟨rfl, hb⟩; have hB := bux w zq2 hb; have o0 := keepZ w.heap.size zq5 hb; have c0 := o0.cell; have f0 := o0.fro; have l0 := o0.lt)| (refine (hL _).mono ?_; clear hL; rintro e w1 ⟨rfl, hb⟩; have hB := bux w zq2 hb; have o0 := keepZ w.heap.size zq5 hb; have c0 := o0.cell; have f0 := o0.fro; have l0 := o0.lt)| (refine (hS _).mono ?_; clear hS; rintro e w1 ⟨rfl, hb⟩; have hB := bux w zq2 hb; have o0 := keepZ w.heap.size zq5 hb; have c0 := o0.cell; have f0 := o0.fro; have l0 := o0.lt)) | (go_at_call 84; first | (refine (hn _).mono ?_; clear hn; rintro e w1 ⟨rfl, hb⟩; have hB := bux w zq2 hb; have o0 := keepZ w.heap.size zq5 hb; have c0 := o0.cell; have f0 := o0.fro; have l0 := o0.lt)) | (go_at_call 85; refine (hq _ zq2).mono ?_; clear hq; rintro e w1 ⟨rfl, hb⟩; have hB := bux w zq2 hb; have o0 := keepZ w.heap.size zq5 hb; have c0 := o0.cell; have f0 := o0.fro; have l0 := o0.lt) | (go_at_call 86; refine (hf _ zq2).mono ?_; clear hf; rintro e w1 ⟨rfl, hb⟩; have hB := bux w zq2 hb; have o0 := keepZ w.heap.size zq5 hb; have c0 := o0.cell; have f0 := o0.fro; have l0 := o0.lt) | (go_at_call 87; first | (refine (hw _).mono ?_; clear hw; rintro e w1 ⟨rfl, hb⟩; have hB := bux w zq2 hb; have o0 := keepZ w.heap.size zq5 hb; have c0 := o0.cell; have f0 := o0.fro; have l0 := o0.lt)) | (go_at_call 50; first | (refine (hwr _).mono ?_; clear hwr; rintro e w1 ⟨rfl, hb⟩; have hB := bux w zq2 hb; have o0 := keepZ w.heap.size zq5 hb; have c0 := o0.cell; have f0 := o0.fro; have l0 := o0.lt)))
    exact bodyPost_ret (v := (.agg #[.int .i64 t2.kind, .int .i64 t2.at', .int .i64 t2.num, .string t2.str, .int .i64 t2.c0, .int .i64 t2.c1, .int .i64 t2.r0, .int .i64 t2.r1, .int .i64 t2.r2, .int .i64 t2.r3, .int .i64 t2.code])) (by simp [results, Tryz.results52, go_sem, c0, f0, l0, Tk.val]) rfl ⟨rfl, zq2⟩
  ·clear hq
   rw [if_pos rfl]
   go_enter Tryz.func52, Tryz.ntmps52
   go_wp2_with (first | (go_at_call 83; first | (refine (hD _).mono ?_; clear hD; rintro e w1 ⟨rfl, hb⟩; have hB := bux w zq2 hb; have o0 := keepZ w.heap.size zq5 hb; have c0 := o0.cell; have f0 := o0.fro; have l0 := o0.lt)| (refine (hQ _).mono ?_; clear hQ; rintro e w1 ⟨rfl, hb⟩; have hB := bux w zq2 hb; have o0 := keepZ w.heap.size zq5 hb; have c0 := o0.cell; have f0 := o0.fro; have l0 := o0.lt)| (refine (hF _).mono ?_; clear hF; rintro e w1 ⟨rfl, hb⟩; have hB := bux w zq2 hb; have o0 := keepZ w.heap.size zq5 hb; have c0 := o0.cell; have f0 := o0.fro; have l0 := o0.lt)| (refine (hL _).mono ?_; clear hL; rintro e w1 ⟨rfl, hb⟩; have hB := bux w zq2 hb; have o0 := keepZ w.heap.size zq5 hb; have c0 := o0.cell; have f0 := o0.fro; have l0 := o0.lt)| (refine (hS _).mono ?_; clear hS; rintro e w1 ⟨rfl, hb⟩; have hB := bux w zq2 hb; have o0 := keepZ w.heap.size zq5 hb; have c0 := o0.cell; have f0 := o0.fro; have l0 := o0.lt)) | (go_at_call 84; first | (refine (hn _).mono ?_; clear hn; rintro e w1 ⟨rfl, hb⟩; have hB := bux w zq2 hb; have o0 := keepZ w.heap.size zq5 hb; have c0 := o0.cell; have f0 := o0.fro; have l0 := o0.lt)) | (go_at_call 85; refine (hq _ zq2).mono ?_; clear hq; rintro e w1 ⟨rfl, hb⟩; have hB := bux w zq2 hb; have o0 := keepZ w.heap.size zq5 hb; have c0 := o0.cell; have f0 := o0.fro; have l0 := o0.lt) | (go_at_call 86; refine (hf _ zq2).mono ?_; clear hf; rintro e w1 ⟨rfl, hb⟩; have hB := bux w zq2 hb; have o0 := keepZ w.heap.size zq5 hb; have c0 := o0.cell; have f0 := o0.fro; have l0 := o0.lt) | (go_at_call 87; first | (refine (hw _).mono ?_; clear hw; rintro e w1 ⟨rfl, hb⟩; have hB := bux w zq2 hb; have o0 := keepZ w.heap.size zq5 hb; have c0 := o0.cell; have f0 := o0.fro; have l0 := o0.lt)) | (go_at_call 50; first | (refine (hwr _).mono ?_; clear hwr; rintro e w1 ⟨rfl, hb⟩; have hB := bux w zq2 hb; have o0 := keepZ w.heap.size zq5 hb; have c0 := o0.cell; have f0 := o0.fro; have l0 := o0.lt)))
   exact bodyPost_ret (v := (.agg #[.int .i64 t1.kind, .int .i64 t1.at', .int .i64 t1.num, .string t1.str, .int .i64 t1.c0, .int .i64 t1.c1, .int .i64 t1.r0, .int .i64 t1.r1, .int .i64 t1.r2, .int .i64 t1.r3, .int .i64 t1.code])) (by simp [results, Tryz.results52, go_sem, c0, f0, l0, Tk.val]) rfl ⟨rfl, zq2⟩
end Go.Proofs.YtcmjhjnpcogmgaaGreatDoor
