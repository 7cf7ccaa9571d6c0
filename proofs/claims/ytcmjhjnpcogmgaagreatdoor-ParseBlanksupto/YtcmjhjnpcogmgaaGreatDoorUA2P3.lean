/- The contracts of corners and MayRect of package addr: of every rectangle its two corners,  -/
import Derived.Test.YtcmjhjnpcogmgaaGreatDoorUAuto
import Derived.Test.YtcmjhjnpcogmgaaGreatDoorUABA1AMP1P2
import Derived.Test.YtcmjhjnpcogmgaaGreatDoorUPC
set_option linter.all false
set_option maxRecDepth 100000
set_option maxHeartbeats 4000000
namespace Go.Proofs.YtcmjhjnpcogmgaaGreatDoor
open Go.RowKit
def mayR (t l b r : Int) : Bool := decide ((1 ≤ t ∧ t ≤ 4096 ∧ 1 ≤ l ∧ l ≤ 256) ∧ (1 ≤ b ∧ b ≤ 4096 ∧ 1 ≤ r ∧ r ≤ 256) ∧ t ≤ b ∧ l ≤ r)
theorem mayR_f {t l b r : Int} (h : ¬ ((1 ≤ t ∧ t ≤ 4096 ∧ 1 ≤ l ∧ l ≤ 256) ∧ (1 ≤ b ∧ b ≤ 4096 ∧ 1 ≤ r ∧ r ≤ 256) ∧ t ≤ b ∧ l ≤ r)) : mayR t l b r = false := by simp only [mayR, decide_eq_false_iff_not]; exact h
theorem mayR_no1 {t l b r : Int} (h : mayC t l = false) : mayR t l b r = false := by simp only [mayC, decide_eq_false_iff_not] at h; exact mayR_f zq17
theorem mayR_no2 {t l b r : Int} (h : mayC b r = false) : mayR t l b r = false := by simp only [mayC, decide_eq_false_iff_not] at h; exact mayR_f zq17
theorem mayR_no3 {t l b r : Int} (h : ¬ t ≤ b) : mayR t l b r = false := mayR_f zq17
theorem mayR_yes {t l b r : Int} (h1 : mayC t l = true) (h2 : mayC b r = true) (h : t ≤ b) : mayR t l b r = decide (l ≤ r) := by
 have := mayC_is h1
 have := mayC_is h2
 rw [Bool.eq_iff_iff]; simp only [mayR, decide_eq_true_eq]; omega
theorem corners_any (t l b r : Int) (w : World) : Calls Tryz.prog 103 #[.agg #[.int .i64 t, .int .i64 l, .int .i64 b, .int .i64 r]] w fun e w' => e = .returned (.tuple #[.agg #[.int .i64 t, .int .i64 l], .agg #[.int .i64 b, .int .i64 r]]) ∧ Below w.heap.size w w' := by
 go_enter Tryz.func103, Tryz.ntmps103
 go_wp2_with fail
 go_region_held3 (fun w' => w'.cell? ⟨w.heap.size, 0, none⟩ = some (.int .i64 t) ∧ w'.cell? ⟨w.heap.size, 1, none⟩ = some (.int .i64 l) ∧ w'.cell? ⟨w.heap.size, 2, none⟩ = some (.int .i64 b) ∧ w'.cell? ⟨w.heap.size, 3, none⟩ = some (.int .i64 r)) ((repeat' apply And.intro) <;> (first | (go_keep; done) | (go_simp; done))) (fail)
 all_goals go_wp2
 all_goals exact bodyPost_ret (v := .tuple #[.agg #[.int .i64 t, .int .i64 l], .agg #[.int .i64 b, .int .i64 r]]) (by simp [results, Tryz.results103, go_sem]) rfl ⟨rfl, ((bal _ _).alloc (by simp) _ |>.alloc (by simp; omega) _).drew⟩
theorem mayR1 (t l b r : Int) (w : World) (h1 : mayC t l = false) : Calls Tryz.prog 63 #[(.agg #[.int .i64 (t), .int .i64 (l), .int .i64 (b), .int .i64 (r)])] w fun e w' => e = .returned (.bool false) ∧ Below w.heap.size w w' := by
 go_enter Tryz.func63, Tryz.ntmps63
 go_wp2_with (first | (go_at_call 103; refine (corners_any _ _ _ _ _).mono ?_; rintro e w1 ⟨rfl, hb⟩; have hB := bux w zq2 hb; have o0 : Own w1 (w.heap.size) #[.int .i64 (t), .int .i64 (l), .int .i64 (b), .int .i64 (r)] := Own.keep zq5 hb; have c0 := o0.cell; have f0 := o0.fro; have l0 := o0.lt) | (go_at_call 62; refine (may_any _ _ _).mono ?_; rintro e w2 ⟨rfl, hb⟩; have hB2 := bux w zq2 hb; have o0 : Own w2 (w.heap.size) #[.int .i64 (t), .int .i64 (l), .int .i64 (b), .int .i64 (r)] := Own.keep zq5 hb; have c0 := o0.cell; have f0 := o0.fro; have l0 := o0.lt; have o1 : Own w2 (w1.heap.size + 1) #[.int .i64 (b), .int .i64 (r)] := Own.keep zq5 hb; have c1 := o1.cell; have f1 := o1.fro; have l1 := o1.lt))
 all_goals go_ret
 all_goals exact ⟨rfl, zq2⟩
theorem mayR2 (t l b r : Int) (w : World) (h1 : mayC t l = true) (h2 : mayC b r = false) : Calls Tryz.prog 63 #[(.agg #[.int .i64 (t), .int .i64 (l), .int .i64 (b), .int .i64 (r)])] w fun e w' => e = .returned (.bool false) ∧ Below w.heap.size w w' := by
 go_enter Tryz.func63, Tryz.ntmps63
 go_wp2_with (first | (go_at_call 103; refine (corners_any _ _ _ _ _).mono ?_; rintro e w1 ⟨rfl, hb⟩; have hB := bux w zq2 hb; have o0 : Own w1 (w.heap.size) #[.int .i64 (t), .int .i64 (l), .int .i64 (b), .int .i64 (r)] := Own.keep zq5 hb; have c0 := o0.cell; have f0 := o0.fro; have l0 := o0.lt) | (go_at_call 62; refine (may_any _ _ _).mono ?_; rintro e w2 ⟨rfl, hb⟩; have hB2 := bux w zq2 hb; have o0 : Own w2 (w.heap.size) #[.int .i64 (t), .int .i64 (l), .int .i64 (b), .int .i64 (r)] := Own.keep zq5 hb; have c0 := o0.cell; have f0 := o0.fro; have l0 := o0.lt; have o1 : Own w2 (w1.heap.size + 1) #[.int .i64 (b), .int .i64 (r)] := Own.keep zq5 hb; have c1 := o1.cell; have f1 := o1.fro; have l1 := o1.lt))
 all_goals go_ret
 all_goals exact ⟨rfl, zq2⟩
theorem mayR3 (t l b r : Int) (w : World) (h1 : mayC t l = true) (h2 : mayC b r = true) (h3 : decide (t ≤ b) = false) : Calls Tryz.prog 63 #[(.agg #[.int .i64 (t), .int .i64 (l), .int .i64 (b), .int .i64 (r)])] w fun e w' => e = .returned (.bool false) ∧ Below w.heap.size w w' := by
 go_enter Tryz.func63, Tryz.ntmps63
 go_wp2_with (first | (go_at_call 103; refine (corners_any _ _ _ _ _).mono ?_; rintro e w1 ⟨rfl, hb⟩; have hB := bux w zq2 hb; have o0 : Own w1 (w.heap.size) #[.int .i64 (t), .int .i64 (l), .int .i64 (b), .int .i64 (r)] := Own.keep zq5 hb; have c0 := o0.cell; have f0 := o0.fro; have l0 := o0.lt) | (go_at_call 62; refine (may_any _ _ _).mono ?_; rintro e w2 ⟨rfl, hb⟩; have hB2 := bux w zq2 hb; have o0 : Own w2 (w.heap.size) #[.int .i64 (t), .int .i64 (l), .int .i64 (b), .int .i64 (r)] := Own.keep zq5 hb; have c0 := o0.cell; have f0 := o0.fro; have l0 := o0.lt; have o1 : Own w2 (w1.heap.size + 1) #[.int .i64 (b), .int .i64 (r)] := Own.keep zq5 hb; have c1 := o1.cell; have f1 := o1.fro; have l1 := o1.lt))
 all_goals go_ret
 all_goals exact ⟨rfl, zq2⟩
theorem mayR4 (t l b r : Int) (w : World) (h1 : mayC t l = true) (h2 : mayC b r = true) (h3 : t ≤ b) : Calls Tryz.prog 63 #[(.agg #[.int .i64 (t), .int .i64 (l), .int .i64 (b), .int .i64 (r)])] w fun e w' => e = .returned (.bool (decide (l ≤ r))) ∧ Below w.heap.size w w' := by
 go_enter Tryz.func63, Tryz.ntmps63
 go_wp2_with (first | (go_at_call 103; refine (corners_any _ _ _ _ _).mono ?_; rintro e w1 ⟨rfl, hb⟩; have hB := bux w zq2 hb; have o0 : Own w1 (w.heap.size) #[.int .i64 (t), .int .i64 (l), .int .i64 (b), .int .i64 (r)] := Own.keep zq5 hb; have c0 := o0.cell; have f0 := o0.fro; have l0 := o0.lt) | (go_at_call 62; refine (may_any _ _ _).mono ?_; rintro e w2 ⟨rfl, hb⟩; have hB2 := bux w zq2 hb; have o0 : Own w2 (w.heap.size) #[.int .i64 (t), .int .i64 (l), .int .i64 (b), .int .i64 (r)] := Own.keep zq5 hb; have c0 := o0.cell; have f0 := o0.fro; have l0 := o0.lt; have o1 : Own w2 (w1.heap.size + 1) #[.int .i64 (b), .int .i64 (r)] := Own.keep zq5 hb; have c1 := o1.cell; have f1 := o1.fro; have l1 := o1.lt))
 all_goals go_ret
 all_goals exact ⟨rfl, zq2⟩
theorem mayR_any (t l b r : Int) (w : World) : Calls Tryz.prog 63 #[(.agg #[.int .i64 (t), .int .i64 (l), .int .i64 (b), .int .i64 (r)])] w fun e w' => e = .returned (.bool (mayR t l b r)) ∧ Below w.heap.size w w' := by
 cases h1 : mayC t l
 ·rw [mayR_no1 h1]; exact mayR1 t l b r w h1
 cases h2 : mayC b r
 ·rw [mayR_no2 h2]; exact mayR2 t l b r w h1 h2
 by_cases h3 : t ≤ b
 ·rw [mayR_yes h1 h2 h3]; exact mayR4 t l b r w h1 h2 h3
 ·rw [mayR_no3 h3]; exact mayR3 t l b r w h1 h2 (by simpa using h3)
end Go.Proofs.YtcmjhjnpcogmgaaGreatDoor
namespace Go.Proofs.YtcmjhjnpcogmgaaGreatDoor
open Go.RowKit
def qB (s : ByteArray) : Bool := pB (cutA s) && (pB (cutB s) && mayR (pR (cutA s)) (pC (cutA s)) (pR (cutB s)) (pC (cutB s)))
def qT (s : ByteArray) : Int := if qB s then pR (cutA s) else 0
def qL (s : ByteArray) : Int := if qB s then pC (cutA s) else 0
def qO (s : ByteArray) : Int := if qB s then pR (cutB s) else 0
def qR (s : ByteArray) : Int := if qB s then pC (cutB s) else 0
theorem qN {s : ByteArray} (h : qB s = false) : qT s = 0 ∧ qL s = 0 ∧ qO s = 0 ∧ qR s = 0 := by simp [qT, qL, qO, qR, h]
theorem qS {s : ByteArray} (h : qB s = true) : qT s = pR (cutA s) ∧ qL s = pC (cutA s) ∧ qO s = pR (cutB s) ∧ qR s = pC (cutB s) := by simp [qT, qL, qO, qR, h]
theorem prect1 (s : ByteArray) (w : World) (hs : s.size ≤ maxLen) (h1 : pB (cutA s) = false) : Calls Tryz.prog 171 #[.string s] w fun e w' => e = .returned (.tuple #[(.agg #[.int .i64 0, .int .i64 0, .int .i64 0, .int .i64 0]), .bool false]) ∧ Below w.heap.size w w' := by
 go_enter Tryz.func171, Tryz.ntmps171
 go_wp2_with (go_at_call 161; refine (cut_bel s hs _).mono ?_; rintro e w0 ⟨rfl, hb⟩; have hB0 := bux w zq2 hb; have o0 : Own w0 (w.heap.size) #[.int .i64 0, .int .i64 0, .int .i64 0, .int .i64 0] := Own.keep zq5 hb; have c0 := o0.cell; have f0 := o0.fro; have l0 := o0.lt)
 all_goals go_at_call 172
 all_goals refine (parse_any _ _).mono ?_
 all_goals rintro e w1 ⟨rfl, hb⟩
 all_goals have hB1 := bux w zq2 hb
 all_goals have o0 : Own w1 (w.heap.size) #[.int .i64 0, .int .i64 0, .int .i64 0, .int .i64 0] := Own.keep zq5 hb
 all_goals have c0 := o0.cell
 all_goals have f0 := o0.fro
 all_goals have l0 := o0.lt
 all_goals go_wp2_with fail
 all_goals go_at_call 172
 all_goals refine (parse_any _ _).mono ?_
 all_goals rintro e w2 ⟨rfl, hb⟩
 all_goals have hB2 := bux w zq2 hb
 all_goals have o0 : Own w2 (w.heap.size) #[.int .i64 0, .int .i64 0, .int .i64 0, .int .i64 0] := Own.keep zq5 hb
 all_goals have c0 := o0.cell
 all_goals have f0 := o0.fro
 all_goals have l0 := o0.lt
 all_goals have o1 : Own w2 (w1.heap.size) #[.int .i64 (pR (cutA s)), .int .i64 (pC (cutA s))] := Own.keep zq5 hb
 all_goals have c1 := o1.cell
 all_goals have f1 := o1.fro
 all_goals have l1 := o1.lt
 all_goals go_wp2_with (go_at_call 63; refine (mayR_any _ _ _ _ _).mono ?_; rintro e w3 ⟨rfl, hb⟩; have hB3 := bux w zq2 hb; have o0 : Own w3 (w.heap.size) #[.int .i64 0, .int .i64 0, .int .i64 0, .int .i64 0] := Own.keep zq5 hb; have c0 := o0.cell; have f0 := o0.fro; have l0 := o0.lt; have o1 : Own w3 (w2.heap.size + 1) #[.int .i64 (pR (cutA s)), .int .i64 (pC (cutA s)), .int .i64 (pR (cutB s)), .int .i64 (pC (cutB s))] := Own.keep zq5 hb; have c1 := o1.cell; have f1 := o1.fro; have l1 := o1.lt)
 all_goals exact bodyPost_ret (v := (.tuple #[(.agg #[.int .i64 0, .int .i64 0, .int .i64 0, .int .i64 0]), .bool false])) (by simp [results, Tryz.results171, go_sem, c0, f0, l0]) rfl ⟨rfl, zq2⟩
theorem prect2 (s : ByteArray) (w : World) (hs : s.size ≤ maxLen) (h1 : pB (cutA s) = true) (h2 : pB (cutB s) = false) : Calls Tryz.prog 171 #[.string s] w fun e w' => e = .returned (.tuple #[(.agg #[.int .i64 0, .int .i64 0, .int .i64 0, .int .i64 0]), .bool false]) ∧ Below w.heap.size w w' := by
 go_enter Tryz.func171, Tryz.ntmps171
 go_wp2_with (go_at_call 161; refine (cut_bel s hs _).mono ?_; rintro e w0 ⟨rfl, hb⟩; have hB0 := bux w zq2 hb; have o0 : Own w0 (w.heap.size) #[.int .i64 0, .int .i64 0, .int .i64 0, .int .i64 0] := Own.keep zq5 hb; have c0 := o0.cell; have f0 := o0.fro; have l0 := o0.lt)
 all_goals go_at_call 172
 all_goals refine (parse_any _ _).mono ?_
 all_goals rintro e w1 ⟨rfl, hb⟩
 all_goals have hB1 := bux w zq2 hb
 all_goals have o0 : Own w1 (w.heap.size) #[.int .i64 0, .int .i64 0, .int .i64 0, .int .i64 0] := Own.keep zq5 hb
 all_goals have c0 := o0.cell
 all_goals have f0 := o0.fro
 all_goals have l0 := o0.lt
 all_goals go_wp2_with fail
 all_goals go_at_call 172
 all_goals refine (parse_any _ _).mono ?_
 all_goals rintro e w2 ⟨rfl, hb⟩
 all_goals have hB2 := bux w zq2 hb
 all_goals have o0 : Own w2 (w.heap.size) #[.int .i64 0, .int .i64 0, .int .i64 0, .int .i64 0] := Own.keep zq5 hb
 all_goals have c0 := o0.cell
 all_goals have f0 := o0.fro
 all_goals have l0 := o0.lt
 all_goals have o1 : Own w2 (w1.heap.size) #[.int .i64 (pR (cutA s)), .int .i64 (pC (cutA s))] := Own.keep zq5 hb
 all_goals have c1 := o1.cell
 all_goals have f1 := o1.fro
 all_goals have l1 := o1.lt
 all_goals go_wp2_with (go_at_call 63; refine (mayR_any _ _ _ _ _).mono ?_; rintro e w3 ⟨rfl, hb⟩; have hB3 := bux w zq2 hb; have o0 : Own w3 (w.heap.size) #[.int .i64 0, .int .i64 0, .int .i64 0, .int .i64 0] := Own.keep zq5 hb; have c0 := o0.cell; have f0 := o0.fro; have l0 := o0.lt; have o1 : Own w3 (w2.heap.size + 1) #[.int .i64 (pR (cutA s)), .int .i64 (pC (cutA s)), .int .i64 (pR (cutB s)), .int .i64 (pC (cutB s))] := Own.keep zq5 hb; have c1 := o1.cell; have f1 := o1.fro; have l1 := o1.lt)
 all_goals exact bodyPost_ret (v := (.tuple #[(.agg #[.int .i64 0, .int .i64 0, .int .i64 0, .int .i64 0]), .bool false])) (by simp [results, Tryz.results171, go_sem, c0, f0, l0]) rfl ⟨rfl, zq2⟩
theorem prect3 (s : ByteArray) (w : World) (hs : s.size ≤ maxLen) (h1 : pB (cutA s) = true) (h2 : pB (cutB s) = true) (h3 : mayR (pR (cutA s)) (pC (cutA s)) (pR (cutB s)) (pC (cutB s)) = false) : Calls Tryz.prog 171 #[.string s] w fun e w' => e = .returned (.tuple #[(.agg #[.int .i64 0, .int .i64 0, .int .i64 0, .int .i64 0]), .bool false]) ∧ Below w.heap.size w w' := by
 go_enter Tryz.func171, Tryz.ntmps171
 go_wp2_with (go_at_call 161; refine (cut_bel s hs _).mono ?_; rintro e w0 ⟨rfl, hb⟩; have hB0 := bux w zq2 hb; have o0 : Own w0 (w.heap.size) #[.int .i64 0, .int .i64 0, .int .i64 0, .int .i64 0] := Own.keep zq5 hb; have c0 := o0.cell; have f0 := o0.fro; have l0 := o0.lt)
 all_goals go_at_call 172
 all_goals refine (parse_any _ _).mono ?_
 all_goals rintro e w1 ⟨rfl, hb⟩
 all_goals have hB1 := bux w zq2 hb
 all_goals have o0 : Own w1 (w.heap.size) #[.int .i64 0, .int .i64 0, .int .i64 0, .int .i64 0] := Own.keep zq5 hb
 all_goals have c0 := o0.cell
 all_goals have f0 := o0.fro
 all_goals have l0 := o0.lt
 all_goals go_wp2_with fail
 all_goals go_at_call 172
 all_goals refine (parse_any _ _).mono ?_
 all_goals rintro e w2 ⟨rfl, hb⟩
 all_goals have hB2 := bux w zq2 hb
 all_goals have o0 : Own w2 (w.heap.size) #[.int .i64 0, .int .i64 0, .int .i64 0, .int .i64 0] := Own.keep zq5 hb
 all_goals have c0 := o0.cell
 all_goals have f0 := o0.fro
 all_goals have l0 := o0.lt
 all_goals have o1 : Own w2 (w1.heap.size) #[.int .i64 (pR (cutA s)), .int .i64 (pC (cutA s))] := Own.keep zq5 hb
 all_goals have c1 := o1.cell
 all_goals have f1 := o1.fro
 all_goals have l1 := o1.lt
 all_goals go_wp2_with (go_at_call 63; refine (mayR_any _ _ _ _ _).mono ?_; rintro e w3 ⟨rfl, hb⟩; have hB3 := bux w zq2 hb; have o0 : Own w3 (w.heap.size) #[.int .i64 0, .int .i64 0, .int .i64 0, .int .i64 0] := Own.keep zq5 hb; have c0 := o0.cell; have f0 := o0.fro; have l0 := o0.lt; have o1 : Own w3 (w2.heap.size + 1) #[.int .i64 (pR (cutA s)), .int .i64 (pC (cutA s)), .int .i64 (pR (cutB s)), .int .i64 (pC (cutB s))] := Own.keep zq5 hb; have c1 := o1.cell; have f1 := o1.fro; have l1 := o1.lt)
 all_goals exact bodyPost_ret (v := (.tuple #[(.agg #[.int .i64 0, .int .i64 0, .int .i64 0, .int .i64 0]), .bool false])) (by simp [results, Tryz.results171, go_sem, c0, f0, l0]) rfl ⟨rfl, zq2⟩
theorem prect4 (s : ByteArray) (w : World) (hs : s.size ≤ maxLen) (h1 : pB (cutA s) = true) (h2 : pB (cutB s) = true) (h3 : mayR (pR (cutA s)) (pC (cutA s)) (pR (cutB s)) (pC (cutB s)) = true) : Calls Tryz.prog 171 #[.string s] w fun e w' => e = .returned (.tuple #[.agg #[.int .i64 (pR (cutA s)), .int .i64 (pC (cutA s)), .int .i64 (pR (cutB s)), .int .i64 (pC (cutB s))], .bool true]) ∧ Below w.heap.size w w' := by
 go_enter Tryz.func171, Tryz.ntmps171
 go_wp2_with (go_at_call 161; refine (cut_bel s hs _).mono ?_; rintro e w0 ⟨rfl, hb⟩; have hB0 := bux w zq2 hb; have o0 : Own w0 (w.heap.size) #[.int .i64 0, .int .i64 0, .int .i64 0, .int .i64 0] := Own.keep zq5 hb; have c0 := o0.cell; have f0 := o0.fro; have l0 := o0.lt)
 all_goals go_at_call 172
 all_goals refine (parse_any _ _).mono ?_
 all_goals rintro e w1 ⟨rfl, hb⟩
 all_goals have hB1 := bux w zq2 hb
 all_goals have o0 : Own w1 (w.heap.size) #[.int .i64 0, .int .i64 0, .int .i64 0, .int .i64 0] := Own.keep zq5 hb
 all_goals have c0 := o0.cell
 all_goals have f0 := o0.fro
 all_goals have l0 := o0.lt
 all_goals go_wp2_with fail
 all_goals go_at_call 172
 all_goals refine (parse_any _ _).mono ?_
 all_goals rintro e w2 ⟨rfl, hb⟩
 all_goals have hB2 := bux w zq2 hb
 all_goals have o0 : Own w2 (w.heap.size) #[.int .i64 0, .int .i64 0, .int .i64 0, .int .i64 0] := Own.keep zq5 hb
 all_goals have c0 := o0.cell
 all_goals have f0 := o0.fro
 all_goals have l0 := o0.lt
 all_goals have o1 : Own w2 (w1.heap.size) #[.int .i64 (pR (cutA s)), .int .i64 (pC (cutA s))] := Own.keep zq5 hb
 all_goals have c1 := o1.cell
 all_goals have f1 := o1.fro
 all_goals have l1 := o1.lt
 all_goals go_wp2_with (go_at_call 63; refine (mayR_any _ _ _ _ _).mono ?_; rintro e w3 ⟨rfl, hb⟩; have hB3 := bux w zq2 hb; have o0 : Own w3 (w.heap.size) #[.int .i64 0, .int .i64 0, .int .i64 0, .int .i64 0] := Own.keep zq5 hb; have c0 := o0.cell; have f0 := o0.fro; have l0 := o0.lt; have o1 : Own w3 (w2.heap.size + 1) #[.int .i64 (pR (cutA s)), .int .i64 (pC (cutA s)), .int .i64 (pR (cutB s)), .int .i64 (pC (cutB s))] := Own.keep zq5 hb; have c1 := o1.cell; have f1 := o1.fro; have l1 := o1.lt)
 all_goals exact bodyPost_ret (v := (.tuple #[.agg #[.int .i64 (pR (cutA s)), .int .i64 (pC (cutA s)), .int .i64 (pR (cutB s)), .int .i64 (pC (cutB s))], .bool true])) (by simp [results, Tryz.results171, go_sem, c0, f0, l0]) rfl ⟨rfl, zq2⟩
theorem prect_any (s : ByteArray) (w : World) (hs : s.size ≤ maxLen) : Calls Tryz.prog 171 #[.string s] w fun e w' => e = .returned (.tuple #[(.agg #[.int .i64 (qT s), .int .i64 (qL s), .int .i64 (qO s), .int .i64 (qR s)]), .bool (qB s)]) ∧ Below w.heap.size w w' := by
 cases h1 : pB (cutA s)
 ·have e : qB s = false := by simp [qB, h1]
  have k := qN e
  rw [k.1, k.2.1, k.2.2.1, k.2.2.2, e]; exact prect1 s w hs h1
 cases h2 : pB (cutB s)
 ·have e : qB s = false := by simp [qB, h2]
  have k := qN e
  rw [k.1, k.2.1, k.2.2.1, k.2.2.2, e]; exact prect2 s w hs h1 h2
 cases h3 : mayR (pR (cutA s)) (pC (cutA s)) (pR (cutB s)) (pC (cutB s))
 ·have e : qB s = false := by simp [qB, h3]
  have k := qN e
  rw [k.1, k.2.1, k.2.2.1, k.2.2.2, e]; exact prect3 s w hs h1 h2 h3
 ·have e : qB s = true := by simp [qB, h1, h2, h3]
  have k := qS e
  rw [k.1, k.2.1, k.2.2.1, k.2.2.2, e]; exact prect4 s w hs h1 h2 h3
end Go.Proofs.YtcmjhjnpcogmgaaGreatDoor
