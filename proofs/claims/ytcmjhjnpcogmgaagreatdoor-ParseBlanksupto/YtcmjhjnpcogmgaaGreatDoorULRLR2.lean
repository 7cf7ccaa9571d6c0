/- Contracts of lex's wrong and of the readers of a number, a quoted text, a fault, a cell an -/
import Derived.Test.YtcmjhjnpcogmgaaGreatDoorUAuto
import Derived.Test.YtcmjhjnpcogmgaaGreatDoorULB2LB3
import Derived.Test.YtcmjhjnpcogmgaaGreatDoorULFLFp
import Derived.Lib.CountLaws
set_option linter.all false
set_option maxRecDepth 100000
set_option maxHeartbeats 4000000
namespace Go.Proofs.YtcmjhjnpcogmgaaGreatDoor
open Go.Shelf Go.RowKit
def Mx (w : World) : Prop := ∃ m : Int, w.cell? ⟨1, 0, none⟩ = some (.int .i64 m)
theorem Mx.stays {w w' : World} (h : Mx w) (hb : Below w.heap.size w w') : Mx w' := by
 obtain ⟨m, hm⟩ := h
 refine ⟨m, ?_⟩
 obtain ⟨o, ho, _⟩ := cells_of_cell hm
 exact (hb.cell (p := ⟨1, 0, none⟩) (Array.getElem?_eq_some_iff.1 ho).1).trans hm
theorem dparse (s : ByteArray) (w : World) (hs : s.size ≤ maxLen) : Calls Tryz.prog 126 #[.string s] w fun e w' => e = .returned (.tuple #[.int .i64 (Dc.parseV s), .bool (Dc.parseOk s)]) ∧ Below w.heap.size w w' :=
 (Dc.parse_any s w hs).mono fun e w' ⟨he, n, hn⟩ => ⟨he, by rw [hn]; exact bdrewN (Below.refl _ _) n⟩
theorem wrong_any (w : World) : Calls Tryz.prog 50 #[] w fun e w' => e = .returned (.agg #[.int .i64 (tk0 8).kind, .int .i64 (tk0 8).at', .int .i64 (tk0 8).num, .string (tk0 8).str, .int .i64 (tk0 8).c0, .int .i64 (tk0 8).c1, .int .i64 (tk0 8).r0, .int .i64 (tk0 8).r1, .int .i64 (tk0 8).r2, .int .i64 (tk0 8).r3, .int .i64 (tk0 8).code]) ∧ Below w.heap.size w w' := by
 go_enter Tryz.func50, Tryz.ntmps50
 go_wp2
 have o0 : Own (w.alloc (.cells #[.int .i64 8, .int .i64 0, .int .i64 0, .string ⟨#[]⟩, .int .i64 0, .int .i64 0, .int .i64 0, .int .i64 0, .int .i64 0, .int .i64 0, .int .i64 0] 43)) w.heap.size #[.int .i64 8, .int .i64 0, .int .i64 0, .string ⟨#[]⟩, .int .i64 0, .int .i64 0, .int .i64 0, .int .i64 0, .int .i64 0, .int .i64 0, .int .i64 0] := Own.new _ _ _
 have c0 := o0.cell
 have f0 := o0.fro
 have l0 := o0.lt
 exact bodyPost_ret (v := (.agg #[.int .i64 (tk0 8).kind, .int .i64 (tk0 8).at', .int .i64 (tk0 8).num, .string (tk0 8).str, .int .i64 (tk0 8).c0, .int .i64 (tk0 8).c1, .int .i64 (tk0 8).r0, .int .i64 (tk0 8).r1, .int .i64 (tk0 8).r2, .int .i64 (tk0 8).r3, .int .i64 (tk0 8).code])) (by simp [results, Tryz.results50, go_sem, c0, f0, l0, tk0]) rfl ⟨rfl, zq2⟩
theorem rdnum_any (s : ByteArray) (w : World) (hs : s.size ≤ maxLen) : Calls Tryz.prog 84 #[.string s] w fun e w' => e = .returned (.agg #[.int .i64 (rdNum s).kind, .int .i64 (rdNum s).at', .int .i64 (rdNum s).num, .string (rdNum s).str, .int .i64 (rdNum s).c0, .int .i64 (rdNum s).c1, .int .i64 (rdNum s).r0, .int .i64 (rdNum s).r1, .int .i64 (rdNum s).r2, .int .i64 (rdNum s).r3, .int .i64 (rdNum s).code]) ∧ Below w.heap.size w w' := by
 have hp := fun w => dparse s w hs
 have hwr := fun w => wrong_any w
 cases hk : Dc.parseOk s
 ·have e : rdNum s = tk0 8 := by simp [rdNum, hk]
  rw [e]
  rw [hk] at hp
  clear e hk
  go_enter Tryz.func84, Tryz.ntmps84
  go_wp2_with (first | (go_at_call 126; first | (refine (hp _).mono ?_; clear hp; rintro e w1 ⟨rfl, hb⟩; have hB := bux w zq2 hb; have o0 := keepZ w.heap.size zq5 hb; have c0 := o0.cell; have f0 := o0.fro; have l0 := o0.lt)) | (go_at_call 50; first | (refine (hwr _).mono ?_; clear hwr; rintro e w1 ⟨rfl, hb⟩; have hB := bux w zq2 hb; have o0 := keepZ w.heap.size zq5 hb; have c0 := o0.cell; have f0 := o0.fro; have l0 := o0.lt)))
  exact bodyPost_ret (v := (.agg #[.int .i64 (tk0 8).kind, .int .i64 (tk0 8).at', .int .i64 (tk0 8).num, .string (tk0 8).str, .int .i64 (tk0 8).c0, .int .i64 (tk0 8).c1, .int .i64 (tk0 8).r0, .int .i64 (tk0 8).r1, .int .i64 (tk0 8).r2, .int .i64 (tk0 8).r3, .int .i64 (tk0 8).code])) (by simp [results, Tryz.results84, go_sem, c0, f0, l0, tk0]) rfl ⟨rfl, zq2⟩
 ·have e : rdNum s = tkNum (Dc.parseV s) := by simp [rdNum, hk]
  rw [e]
  rw [hk] at hp
  clear e hk
  go_enter Tryz.func84, Tryz.ntmps84
  go_wp2_with (first | (go_at_call 126; first | (refine (hp _).mono ?_; clear hp; rintro e w1 ⟨rfl, hb⟩; have hB := bux w zq2 hb; have o0 := keepZ w.heap.size zq5 hb; have c0 := o0.cell; have f0 := o0.fro; have l0 := o0.lt)) | (go_at_call 50; first | (refine (hwr _).mono ?_; clear hwr; rintro e w1 ⟨rfl, hb⟩; have hB := bux w zq2 hb; have o0 := keepZ w.heap.size zq5 hb; have c0 := o0.cell; have f0 := o0.fro; have l0 := o0.lt)))
  exact bodyPost_ret (v := (.agg #[.int .i64 (tkNum (Dc.parseV s)).kind, .int .i64 (tkNum (Dc.parseV s)).at', .int .i64 (tkNum (Dc.parseV s)).num, .string (tkNum (Dc.parseV s)).str, .int .i64 (tkNum (Dc.parseV s)).c0, .int .i64 (tkNum (Dc.parseV s)).c1, .int .i64 (tkNum (Dc.parseV s)).r0, .int .i64 (tkNum (Dc.parseV s)).r1, .int .i64 (tkNum (Dc.parseV s)).r2, .int .i64 (tkNum (Dc.parseV s)).r3, .int .i64 (tkNum (Dc.parseV s)).code])) (by simp [results, Tryz.results84, go_sem, c0, f0, l0, tkNum]) rfl ⟨rfl, zq2⟩
theorem rdcell_any (s : ByteArray) (w : World) : Calls Tryz.prog 133 #[.string s] w fun e w' => e = .returned (.agg #[.int .i64 (rdCell s).kind, .int .i64 (rdCell s).at', .int .i64 (rdCell s).num, .string (rdCell s).str, .int .i64 (rdCell s).c0, .int .i64 (rdCell s).c1, .int .i64 (rdCell s).r0, .int .i64 (rdCell s).r1, .int .i64 (rdCell s).r2, .int .i64 (rdCell s).r3, .int .i64 (rdCell s).code]) ∧ Below w.heap.size w w' := by
 have hp := fun w => parse_any s w
 have hwr := fun w => wrong_any w
 cases hk : pB s
 ·have e : rdCell s = tk0 8 := by simp [rdCell, hk]
  rw [e]
  rw [hk] at hp
  clear e hk
  go_enter Tryz.func133, Tryz.ntmps133
  go_wp2_with (first | (go_at_call 172; first | (refine (hp _).mono ?_; clear hp; rintro e w1 ⟨rfl, hb⟩; have hB := bux w zq2 hb; have o0 := keepZ w.heap.size zq5 hb; have c0 := o0.cell; have f0 := o0.fro; have l0 := o0.lt)) | (go_at_call 50; first | (refine (hwr _).mono ?_; clear hwr; rintro e w1 ⟨rfl, hb⟩; have hB := bux w zq2 hb; have o0 := keepZ w.heap.size zq5 hb; have c0 := o0.cell; have f0 := o0.fro; have l0 := o0.lt)))
  exact bodyPost_ret (v := (.agg #[.int .i64 (tk0 8).kind, .int .i64 (tk0 8).at', .int .i64 (tk0 8).num, .string (tk0 8).str, .int .i64 (tk0 8).c0, .int .i64 (tk0 8).c1, .int .i64 (tk0 8).r0, .int .i64 (tk0 8).r1, .int .i64 (tk0 8).r2, .int .i64 (tk0 8).r3, .int .i64 (tk0 8).code])) (by simp [results, Tryz.results133, go_sem, c0, f0, l0, tk0]) rfl ⟨rfl, zq2⟩
 ·have e : rdCell s = tkCell (pR s) (pC s) := by simp [rdCell, hk]
  rw [e]
  rw [hk] at hp
  clear e hk
  go_enter Tryz.func133, Tryz.ntmps133
  go_wp2_with (first | (go_at_call 172; first | (refine (hp _).mono ?_; clear hp; rintro e w1 ⟨rfl, hb⟩; have hB := bux w zq2 hb; have o0 := keepZ w.heap.size zq5 hb; have c0 := o0.cell; have f0 := o0.fro; have l0 := o0.lt)) | (go_at_call 50; first | (refine (hwr _).mono ?_; clear hwr; rintro e w1 ⟨rfl, hb⟩; have hB := bux w zq2 hb; have o0 := keepZ w.heap.size zq5 hb; have c0 := o0.cell; have f0 := o0.fro; have l0 := o0.lt)))
  exact bodyPost_ret (v := (.agg #[.int .i64 (tkCell (pR s) (pC s)).kind, .int .i64 (tkCell (pR s) (pC s)).at', .int .i64 (tkCell (pR s) (pC s)).num, .string (tkCell (pR s) (pC s)).str, .int .i64 (tkCell (pR s) (pC s)).c0, .int .i64 (tkCell (pR s) (pC s)).c1, .int .i64 (tkCell (pR s) (pC s)).r0, .int .i64 (tkCell (pR s) (pC s)).r1, .int .i64 (tkCell (pR s) (pC s)).r2, .int .i64 (tkCell (pR s) (pC s)).r3, .int .i64 (tkCell (pR s) (pC s)).code])) (by simp [results, Tryz.results133, go_sem, c0, f0, l0, tkCell]) rfl ⟨rfl, zq2⟩
theorem rdrect_any (s : ByteArray) (w : World) (hs : s.size ≤ maxLen) : Calls Tryz.prog 131 #[.string s] w fun e w' => e = .returned (.agg #[.int .i64 (rdRect s).kind, .int .i64 (rdRect s).at', .int .i64 (rdRect s).num, .string (rdRect s).str, .int .i64 (rdRect s).c0, .int .i64 (rdRect s).c1, .int .i64 (rdRect s).r0, .int .i64 (rdRect s).r1, .int .i64 (rdRect s).r2, .int .i64 (rdRect s).r3, .int .i64 (rdRect s).code]) ∧ Below w.heap.size w w' := by
 have hp := fun w => prect_any s w hs
 have hwr := fun w => wrong_any w
 cases hk : qB s
 ·have e : rdRect s = tk0 8 := by simp [rdRect, hk]
  rw [e]
  rw [hk] at hp
  clear e hk
  go_enter Tryz.func131, Tryz.ntmps131
  go_wp2_with (first | (go_at_call 171; first | (refine (hp _).mono ?_; clear hp; rintro e w1 ⟨rfl, hb⟩; have hB := bux w zq2 hb; have o0 := keepZ w.heap.size zq5 hb; have c0 := o0.cell; have f0 := o0.fro; have l0 := o0.lt)) | (go_at_call 50; first | (refine (hwr _).mono ?_; clear hwr; rintro e w1 ⟨rfl, hb⟩; have hB := bux w zq2 hb; have o0 := keepZ w.heap.size zq5 hb; have c0 := o0.cell; have f0 := o0.fro; have l0 := o0.lt)))
  exact bodyPost_ret (v := (.agg #[.int .i64 (tk0 8).kind, .int .i64 (tk0 8).at', .int .i64 (tk0 8).num, .string (tk0 8).str, .int .i64 (tk0 8).c0, .int .i64 (tk0 8).c1, .int .i64 (tk0 8).r0, .int .i64 (tk0 8).r1, .int .i64 (tk0 8).r2, .int .i64 (tk0 8).r3, .int .i64 (tk0 8).code])) (by simp [results, Tryz.results131, go_sem, c0, f0, l0, tk0]) rfl ⟨rfl, zq2⟩
 ·have e : rdRect s = tkRect (qT s) (qL s) (qO s) (qR s) := by simp [rdRect, hk]
  rw [e]
  rw [hk] at hp
  clear e hk
  go_enter Tryz.func131, Tryz.ntmps131
  go_wp2_with (first | (go_at_call 171; first | (refine (hp _).mono ?_; clear hp; rintro e w1 ⟨rfl, hb⟩; have hB := bux w zq2 hb; have o0 := keepZ w.heap.size zq5 hb; have c0 := o0.cell; have f0 := o0.fro; have l0 := o0.lt)) | (go_at_call 50; first | (refine (hwr _).mono ?_; clear hwr; rintro e w1 ⟨rfl, hb⟩; have hB := bux w zq2 hb; have o0 := keepZ w.heap.size zq5 hb; have c0 := o0.cell; have f0 := o0.fro; have l0 := o0.lt)))
  exact bodyPost_ret (v := (.agg #[.int .i64 (tkRect (qT s) (qL s) (qO s) (qR s)).kind, .int .i64 (tkRect (qT s) (qL s) (qO s) (qR s)).at', .int .i64 (tkRect (qT s) (qL s) (qO s) (qR s)).num, .string (tkRect (qT s) (qL s) (qO s) (qR s)).str, .int .i64 (tkRect (qT s) (qL s) (qO s) (qR s)).c0, .int .i64 (tkRect (qT s) (qL s) (qO s) (qR s)).c1, .int .i64 (tkRect (qT s) (qL s) (qO s) (qR s)).r0, .int .i64 (tkRect (qT s) (qL s) (qO s) (qR s)).r1, .int .i64 (tkRect (qT s) (qL s) (qO s) (qR s)).r2, .int .i64 (tkRect (qT s) (qL s) (qO s) (qR s)).r3, .int .i64 (tkRect (qT s) (qL s) (qO s) (qR s)).code])) (by simp [results, Tryz.results131, go_sem, c0, f0, l0, tkRect]) rfl ⟨rfl, zq2⟩
theorem rdfault_any (s : ByteArray) (w : World) (hN : Vv.Nam w) : Calls Tryz.prog 86 #[.string s] w fun e w' => e = .returned (.agg #[.int .i64 (rdF s).kind, .int .i64 (rdF s).at', .int .i64 (rdF s).num, .string (rdF s).str, .int .i64 (rdF s).c0, .int .i64 (rdF s).c1, .int .i64 (rdF s).r0, .int .i64 (rdF s).r1, .int .i64 (rdF s).r2, .int .i64 (rdF s).r3, .int .i64 (rdF s).code]) ∧ Below w.heap.size w w' := by
 have hp : ∀ w, Vv.Nam w → Calls Tryz.prog 129 #[.string s] w fun e w' => e = .returned (.tuple #[.int .i64 (Vv.namedC s), .bool (Vv.namedOk s)]) ∧ Below w.heap.size w w' := fun w hN => (Vv.namedAny s w hN).mono fun e w' ⟨he, hw⟩ => ⟨he, by rw [hw]; exact Below.refl _ _⟩
 have hN1 : ∀ o, Vv.Nam (w.alloc o) := fun o => hN.stays (bal _ _)
 have HN : Hid (∀ o, Vv.Nam (w.alloc o)) := hN1
 clear hN1 hN
 have hwr := fun w => wrong_any w
 cases hk : Vv.namedOk s
 ·have e : rdF s = tk0 8 := by simp [rdF, hk]
  rw [e]
  rw [hk] at hp
  clear e hk
  go_enter Tryz.func86, Tryz.ntmps86
  go_wp2_with (first | (go_at_call 129; refine (hp _ (HN.out _)).mono ?_; rintro e w1 ⟨rfl, hb⟩; have hB := bux w zq2 hb; have o0 := keepZ w.heap.size zq5 hb; have c0 := o0.cell; have f0 := o0.fro; have l0 := o0.lt) | (go_at_call 50; first | (refine (hwr _).mono ?_; clear hwr; rintro e w1 ⟨rfl, hb⟩; have hB := bux w zq2 hb; have o0 := keepZ w.heap.size zq5 hb; have c0 := o0.cell; have f0 := o0.fro; have l0 := o0.lt)))
  exact bodyPost_ret (v := (.agg #[.int .i64 (tk0 8).kind, .int .i64 (tk0 8).at', .int .i64 (tk0 8).num, .string (tk0 8).str, .int .i64 (tk0 8).c0, .int .i64 (tk0 8).c1, .int .i64 (tk0 8).r0, .int .i64 (tk0 8).r1, .int .i64 (tk0 8).r2, .int .i64 (tk0 8).r3, .int .i64 (tk0 8).code])) (by simp [results, Tryz.results86, go_sem, c0, f0, l0, tk0]) rfl ⟨rfl, zq2⟩
 ·by_cases hc : Vv.namedC s = 1
  ·have e : rdF s = tk0 8 := by simp [rdF, hc]
   rw [e]
   rw [hk] at hp
   clear e hk
   go_enter Tryz.func86, Tryz.ntmps86
   go_wp2_with (first | (go_at_call 129; refine (hp _ (HN.out _)).mono ?_; rintro e w1 ⟨rfl, hb⟩; have hB := bux w zq2 hb; have o0 := keepZ w.heap.size zq5 hb; have c0 := o0.cell; have f0 := o0.fro; have l0 := o0.lt) | (go_at_call 50; first | (refine (hwr _).mono ?_; clear hwr; rintro e w1 ⟨rfl, hb⟩; have hB := bux w zq2 hb; have o0 := keepZ w.heap.size zq5 hb; have c0 := o0.cell; have f0 := o0.fro; have l0 := o0.lt)))
   exact bodyPost_ret (v := (.agg #[.int .i64 (tk0 8).kind, .int .i64 (tk0 8).at', .int .i64 (tk0 8).num, .string (tk0 8).str, .int .i64 (tk0 8).c0, .int .i64 (tk0 8).c1, .int .i64 (tk0 8).r0, .int .i64 (tk0 8).r1, .int .i64 (tk0 8).r2, .int .i64 (tk0 8).r3, .int .i64 (tk0 8).code])) (by simp [results, Tryz.results86, go_sem, c0, f0, l0, tk0]) rfl ⟨rfl, zq2⟩
  ·have e : rdF s = tkCode (Vv.namedC s) := by simp [rdF, hk, hc]
   rw [e]
   rw [hk] at hp
   clear e hk
   go_enter Tryz.func86, Tryz.ntmps86
   go_wp2_with (first | (go_at_call 129; refine (hp _ (HN.out _)).mono ?_; rintro e w1 ⟨rfl, hb⟩; have hB := bux w zq2 hb; have o0 := keepZ w.heap.size zq5 hb; have c0 := o0.cell; have f0 := o0.fro; have l0 := o0.lt) | (go_at_call 50; first | (refine (hwr _).mono ?_; clear hwr; rintro e w1 ⟨rfl, hb⟩; have hB := bux w zq2 hb; have o0 := keepZ w.heap.size zq5 hb; have c0 := o0.cell; have f0 := o0.fro; have l0 := o0.lt)))
   exact bodyPost_ret (v := (.agg #[.int .i64 (tkCode (Vv.namedC s)).kind, .int .i64 (tkCode (Vv.namedC s)).at', .int .i64 (tkCode (Vv.namedC s)).num, .string (tkCode (Vv.namedC s)).str, .int .i64 (tkCode (Vv.namedC s)).c0, .int .i64 (tkCode (Vv.namedC s)).c1, .int .i64 (tkCode (Vv.namedC s)).r0, .int .i64 (tkCode (Vv.namedC s)).r1, .int .i64 (tkCode (Vv.namedC s)).r2, .int .i64 (tkCode (Vv.namedC s)).r3, .int .i64 (tkCode (Vv.namedC s)).code])) (by simp [results, Tryz.results86, go_sem, c0, f0, l0, tkCode]) rfl ⟨rfl, zq2⟩
end Go.Proofs.YtcmjhjnpcogmgaaGreatDoor
namespace Go.Proofs.YtcmjhjnpcogmgaaGreatDoor
open Go.Shelf Go.RowKit
theorem tExtra : Builder.Extra Tryz.prog Tryz.lays155_ren where
 sizeBuilder := by kernel_rfl
 liesBuilder := by kernel_rfl
 t5 := Tryz.underlying5
 a5 := Tryz.isAgg5
 z5 := Tryz.sizeOf5
 v5 := Tryz.zeroValue5
 infoByte := by kernel_rfl
 cellsByte := by kernel_rfl
 sizeByte := by kernel_rfl
 neB5 := by decide
theorem replace_any (s : ByteArray) (w : World) (hs : s.size < 4294967281) (hM : Mx w) :
  Calls Tryz.prog 128 #[.string s, .string ⟨#[34, 34]⟩, .string ⟨#[34]⟩] w fun e w' => e = .returned (.string (bs (Lib.replaceAll s.data.toList [34, 34] [34]))) ∧ Below w.heap.size w w' := by
 obtain ⟨m, hm⟩ := hM
 exact Any.strings_ReplaceAll Tryz.lays155 tExtra s ⟨#[34, 34]⟩ ⟨#[34]⟩ m w hs hm zq16 (by
  have h := Lib.count_le s.data.toList [34, 34]
  have e : Lib.countB s ⟨#[34, 34]⟩ = Lib.count s.data.toList [34, 34] := rfl
  rw [e, ← size_len] at *
  show s.size + _ * 1 ≤ _
  omega)
theorem count_any (s : ByteArray) (w : World) : Calls Tryz.prog 127 #[.string s, .string ⟨#[34]⟩] w fun e w' => e = .returned (.int .i64 (Lib.countByte s.data.toList 34)) ∧ Below w.heap.size w w' := by
 have h : Calls Tryz.prog 127 #[.string s, .string ⟨#[34]⟩] w fun e w' => e = .returned (.int .i64 (Lib.countByte s.data.toList 34)) ∧ w' = w := Any.strings_Count_one Tryz.lays138 s 34 w
 exact h.mono fun e w' ⟨he, hw⟩ => ⟨he, by rw [hw]; exact Below.refl _ _⟩
theorem cont_any (s : ByteArray) (w : World) : Calls Tryz.prog 130 #[.string s, .string ⟨#[58]⟩] w fun e w' => e = .returned (.bool (decide (0 ≤ Lib.indexByte s.data.toList 58))) ∧ Below w.heap.size w w' := by
 have h : Calls Tryz.prog 130 #[.string s, .string ⟨#[58]⟩] w fun e w' => e = .returned (.bool (decide (0 ≤ Lib.indexByte s.data.toList 58))) ∧ w' = w := Any.strings_Contains_one Tryz.lays144 s 58 w
 exact h.mono fun e w' ⟨he, hw⟩ => ⟨he, by rw [hw]; exact Below.refl _ _⟩
theorem even_two {l : List UInt8} (h : bgn l [34] = true) (he : Lib.countByte l 34 % 2 = 0) : 2 ≤ l.length := by
 have h1 : 1 ≤ Lib.countByte l 34 := by
  cases l with
  | nil => simp [bgn] at h
  | cons c t =>
   have hc : c = 34 := by simpa [bgn] using h
   subst hc; unfold Lib.countByte; rw [List.count_cons_self]; omega
 have h2 : Lib.countByte l 34 ≤ l.length := List.count_le_length
 omega
theorem ext_mid (s : ByteArray) (h : 2 ≤ s.size) : (s.extract 1 (s.size - 1)).data.toList = (s.data.toList.drop 1).take (s.data.toList.length - 2) := by
 rw [ByteArray.data_extract, Array.toList_extract, List.extract_eq_take_drop, ← size_len]; congr 1
theorem rdq_any (s : ByteArray) (w : World) (hs : s.size < 4294967281) (hq : bgn s.data.toList [34] = true) (hM : Mx w) : Calls Tryz.prog 85 #[.string s] w fun e w' => e = .returned (.agg #[.int .i64 (rdQ s.data.toList).kind, .int .i64 (rdQ s.data.toList).at', .int .i64 (rdQ s.data.toList).num, .string (rdQ s.data.toList).str, .int .i64 (rdQ s.data.toList).c0, .int .i64 (rdQ s.data.toList).c1, .int .i64 (rdQ s.data.toList).r0, .int .i64 (rdQ s.data.toList).r1, .int .i64 (rdQ s.data.toList).r2, .int .i64 (rdQ s.data.toList).r3, .int .i64 (rdQ s.data.toList).code]) ∧ Below w.heap.size w w' := by
 have HM : Hid (∀ w1, Below w.heap.size w w1 → Mx w1) := fun w1 hb => hM.stays hb
 have hwr := fun w => wrong_any w
 have hc := fun w => count_any s w
 have hcl : Lib.countByte s.data.toList 34 ≤ s.data.toList.length := List.count_le_length
 rw [← size_len] at hcl
 by_cases hev : Lib.countByte s.data.toList 34 % 2 = 0
 ·have e : rdQ s.data.toList = tkStr 2 (bs (Lib.replaceAll ((s.data.toList.drop 1).take (s.data.toList.length - 2)) [34, 34] [34])) := by unfold rdQ; rw [if_pos hev]
  have h2 := even_two hq hev
  rw [← size_len] at h2
  rw [e, ← ext_mid s h2]
  clear e hM hq
  have hr : ∀ w, Mx w → _ := fun w hM => replace_any (s.extract 1 (s.size - 1)) w (by rw [ByteArray.size_extract]; omega) hM
  revert hc hcl hev hr
  generalize bs (Lib.replaceAll (s.extract 1 (s.size - 1)).data.toList [34, 34] [34]) = q
  generalize Lib.countByte s.data.toList 34 = n
  intro hc hcl hev hr
  have h2' : (2 : Int) ≤ s.size := by omega
  have e1 : Int.tmod (n : Int) 2 = 0 := by rw [Int.tmod_eq_emod_of_nonneg zq17]; omega
  have e2 : ((s.size : Int) - 1).toNat = s.size - 1 := by omega
  go_enter Tryz.func85, Tryz.ntmps85
  go_wp2_with (first | (go_at_call 127; first | (refine (hc _).mono ?_; clear hc; rintro e w1 ⟨rfl, hb⟩; have hB := bux w zq2 hb; have o0 := keepZ w.heap.size zq5 hb; have c0 := o0.cell; have f0 := o0.fro; have l0 := o0.lt)) | (go_at_call 128; refine (hr _ (HM.out _ zq15)).mono ?_; rintro e w2 ⟨rfl, hb⟩; have hB2 := bux w zq2 hb; have o1 := keepZ w.heap.size zq5 hb; have c0 := o1.cell; have f0 := o1.fro; have l0 := o1.lt) | (go_at_call 50; first | (refine (hwr _).mono ?_; clear hwr; rintro e w1 ⟨rfl, hb⟩; have hB := bux w zq2 hb; have o0 := keepZ w.heap.size zq5 hb; have c0 := o0.cell; have f0 := o0.fro; have l0 := o0.lt)))
  exact bodyPost_ret (v := (.agg #[.int .i64 (tkStr 2 q).kind, .int .i64 (tkStr 2 q).at', .int .i64 (tkStr 2 q).num, .string (tkStr 2 q).str, .int .i64 (tkStr 2 q).c0, .int .i64 (tkStr 2 q).c1, .int .i64 (tkStr 2 q).r0, .int .i64 (tkStr 2 q).r1, .int .i64 (tkStr 2 q).r2, .int .i64 (tkStr 2 q).r3, .int .i64 (tkStr 2 q).code])) (by simp [results, Tryz.results85, go_sem, c0, f0, l0, tkStr]) rfl ⟨rfl, zq2⟩
 ·have e : rdQ s.data.toList = tk0 8 := by unfold rdQ; rw [if_neg hev]
  rw [e]
  clear e hM hq
  revert hc hcl hev
  generalize Lib.countByte s.data.toList 34 = n
  intro hc hcl hev
  have e1 : ¬ Int.tmod (n : Int) 2 = 0 := by rw [Int.tmod_eq_emod_of_nonneg zq17]; omega
  go_enter Tryz.func85, Tryz.ntmps85
  go_wp2_with (first | (go_at_call 127; first | (refine (hc _).mono ?_; clear hc; rintro e w1 ⟨rfl, hb⟩; have hB := bux w zq2 hb; have o0 := keepZ w.heap.size zq5 hb; have c0 := o0.cell; have f0 := o0.fro; have l0 := o0.lt)) | (go_at_call 50; first | (refine (hwr _).mono ?_; clear hwr; rintro e w1 ⟨rfl, hb⟩; have hB := bux w zq2 hb; have o0 := keepZ w.heap.size zq5 hb; have c0 := o0.cell; have f0 := o0.fro; have l0 := o0.lt)))
  exact bodyPost_ret (v := (.agg #[.int .i64 (tk0 8).kind, .int .i64 (tk0 8).at', .int .i64 (tk0 8).num, .string (tk0 8).str, .int .i64 (tk0 8).c0, .int .i64 (tk0 8).c1, .int .i64 (tk0 8).r0, .int .i64 (tk0 8).r1, .int .i64 (tk0 8).r2, .int .i64 (tk0 8).r3, .int .i64 (tk0 8).code])) (by simp [results, Tryz.results85, go_sem, c0, f0, l0, tk0]) rfl ⟨rfl, zq2⟩
end Go.Proofs.YtcmjhjnpcogmgaaGreatDoor
