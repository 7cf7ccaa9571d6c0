/- AddrCuts: of any cell and counts the program's Cut answers what the document's answer is, on the sheet and from the cell on: the law returns true for every input. No condition. -/
import Derived.Test.YtcdkdgbdfamhnabA7
namespace Go.Proofs.Ytcdkdgbdfamhnab.addrCuts
open Go.RowKit Go.ChangeShapes Go.WideShapes Go.ChangeAt
set_option linter.all false
theorem cu_zero (a b n m : Int) (h : sameR (cuT a b n m) (cuL a b n m) (cuB a b n m) (cuR a b n m) 0 0 0 0 = false) : mayR (cuT a b n m) (cuL a b n m) (cuB a b n m) (cuR a b n m) = true ∧ cuT a b n m = a ∧ cuL a b n m = b := by
  unfold cuT cuL cuB cuR at h ⊢
  cases g : cutG a b n m
  · rw [g] at h; simp [sameR] at h
  · have g' := g
    simp only [cutG, Bool.and_eq_true, decide_eq_true_eq] at g'
    obtain ⟨⟨g1, g2⟩, g3⟩ := g'
    have k := mayC_is g1
    have k1 := cutI_is a n 4096 (by omega) (by omega)
    have k2 := cutI_is b m 256 (by omega) (by omega)
    simp only [if_true]
    refine ⟨mayR_t (by omega), ?_, ?_⟩ <;> first | rfl | trivial
set_option maxHeartbeats 2000000 in
theorem law1 (a b n m : Int) (w : World) (hn : I64 n) (hm : I64 m) (h : sameR (cuT a b n m) (cuL a b n m) (cuB a b n m) (cuR a b n m) 0 0 0 0 = true) : Calls Try.prog 6 #[(.agg #[.int .i64 (a), .int .i64 (b)]), .int .i64 n, .int .i64 m] w fun e w' => e = .returned (.bool true) ∧ Below w.heap.size w w' := by
  have heq := eqR
  have hne := neR
  have q : ∀ a b c d, sameR a b c d a b c d = true := sameR_refl
  have k : sameR (cuT 1 1 2 3) (cuL 1 1 2 3) (cuB 1 1 2 3) (cuR 1 1 2 3) 1 1 2 3 = true := by decide
  have i2 : I64 2 := ⟨by decide, by decide⟩
  have i3 : I64 3 := ⟨by decide, by decide⟩
  go_enter Try.func6, Try.ntmps6
  go_wp2_with (go_at_call 14; refine (cut_any _ _ _ _ _ (by assumption) (by assumption)).mono ?_; rintro e w0 ⟨rfl, hb⟩; have hB : Below w.heap.size w w0 := bup (by with_reducible (repeat' first | assumption | exact Below.refl _ _ | refine Below.drew ?_ | refine Below.setCell ?_ (by first | exact Nat.le_refl _ | (simp; done) | (simp; omega) | omega) _ | refine Below.alloc ?_ (by first | exact Nat.le_refl _ | (simp; done) | (simp; omega) | omega) _)) hb; have o0 : Own w0 (w.heap.size) #[.int .i64 (a), .int .i64 (b)] := Own.keep (by with_reducible (repeat' first | assumption | refine Own.drew ?_ | (refine Own.at ?_; first | rfl | (simp; done)) | refine Own.past ?_ _)) hb; have c0 := o0.cell; have f0 := o0.fro; have l0 := o0.lt)
  all_goals go_region_held3 (fun w' => w'.cell? ⟨w.heap.size, 0, none⟩ = some (.int .i64 (a)) ∧ w'.cell? ⟨w.heap.size, 1, none⟩ = some (.int .i64 (b)) ∧ w'.cell? ⟨w0.heap.size, 0, none⟩ = some (.int .i64 (cuT a b n m)) ∧ w'.cell? ⟨w0.heap.size, 1, none⟩ = some (.int .i64 (cuL a b n m)) ∧ w'.cell? ⟨w0.heap.size, 2, none⟩ = some (.int .i64 (cuB a b n m)) ∧ w'.cell? ⟨w0.heap.size, 3, none⟩ = some (.int .i64 (cuR a b n m))) ((repeat' apply And.intro) <;> (first | (go_keep; done) | (go_simp; done)))
    ((go_at_call 15; refine (rcut_any _ _ _ _ _ (by assumption) (by assumption)).mono ?_; rintro e w1 ⟨rfl, hb⟩; have hB : Below w.heap.size w w1 := bup (by with_reducible (repeat' first | assumption | exact Below.refl _ _ | refine Below.drew ?_ | refine Below.setCell ?_ (by first | exact Nat.le_refl _ | (simp; done) | (simp; omega) | omega) _ | refine Below.alloc ?_ (by first | exact Nat.le_refl _ | (simp; done) | (simp; omega) | omega) _)) hb; have o0 : Own w1 (w.heap.size) #[.int .i64 (a), .int .i64 (b)] := Own.keep (by with_reducible (repeat' first | assumption | refine Own.drew ?_ | (refine Own.at ?_; first | rfl | (simp; done)) | refine Own.past ?_ _)) hb; have c0 := o0.cell; have f0 := o0.fro; have l0 := o0.lt; have o1 : Own w1 (w0.heap.size) #[.int .i64 (cuT a b n m), .int .i64 (cuL a b n m), .int .i64 (cuB a b n m), .int .i64 (cuR a b n m)] := Own.keep (by with_reducible (repeat' first | assumption | refine Own.drew ?_ | (refine Own.at ?_; first | rfl | (simp; done)) | refine Own.past ?_ _)) hb; have c1 := o1.cell; have f1 := o1.fro; have l1 := o1.lt))
  all_goals go_wp2_with (first | (go_at_call 14; refine (cut_any _ _ _ _ _ (by assumption) (by assumption)).mono ?_; rintro e w1 ⟨rfl, hb⟩; have hB : Below w.heap.size w w1 := bup (by with_reducible (repeat' first | assumption | exact Below.refl _ _ | refine Below.drew ?_ | refine Below.setCell ?_ (by first | exact Nat.le_refl _ | (simp; done) | (simp; omega) | omega) _ | refine Below.alloc ?_ (by first | exact Nat.le_refl _ | (simp; done) | (simp; omega) | omega) _)) hb; have o0 : Own w1 (w.heap.size) #[.int .i64 (a), .int .i64 (b)] := Own.keep (by with_reducible (repeat' first | assumption | refine Own.drew ?_ | (refine Own.at ?_; first | rfl | (simp; done)) | refine Own.past ?_ _)) hb; have c0 := o0.cell; have f0 := o0.fro; have l0 := o0.lt; have o1 : Own w1 (w0.heap.size) #[.int .i64 (cuT a b n m), .int .i64 (cuL a b n m), .int .i64 (cuB a b n m), .int .i64 (cuR a b n m)] := Own.keep (by with_reducible (repeat' first | assumption | refine Own.drew ?_ | (refine Own.at ?_; first | rfl | (simp; done)) | refine Own.past ?_ _)) hb; have c1 := o1.cell; have f1 := o1.fro; have l1 := o1.lt) | (go_at_call 12; refine (mayR_any _ _ _ _ _).mono ?_; rintro e w1 ⟨rfl, hb⟩; have hB : Below w.heap.size w w1 := bup (by with_reducible (repeat' first | assumption | exact Below.refl _ _ | refine Below.drew ?_ | refine Below.setCell ?_ (by first | exact Nat.le_refl _ | (simp; done) | (simp; omega) | omega) _ | refine Below.alloc ?_ (by first | exact Nat.le_refl _ | (simp; done) | (simp; omega) | omega) _)) hb; have o0 : Own w1 (w.heap.size) #[.int .i64 (a), .int .i64 (b)] := Own.keep (by with_reducible (repeat' first | assumption | refine Own.drew ?_ | (refine Own.at ?_; first | rfl | (simp; done)) | refine Own.past ?_ _)) hb; have c0 := o0.cell; have f0 := o0.fro; have l0 := o0.lt; have o1 : Own w1 (w0.heap.size) #[.int .i64 (cuT a b n m), .int .i64 (cuL a b n m), .int .i64 (cuB a b n m), .int .i64 (cuR a b n m)] := Own.keep (by with_reducible (repeat' first | assumption | refine Own.drew ?_ | (refine Own.at ?_; first | rfl | (simp; done)) | refine Own.past ?_ _)) hb; have c1 := o1.cell; have f1 := o1.fro; have l1 := o1.lt))
  all_goals go_ret
  all_goals exact ⟨rfl, by with_reducible (repeat' first | assumption | exact Below.refl _ _ | refine Below.drew ?_ | refine Below.setCell ?_ (by first | exact Nat.le_refl _ | (simp; done) | (simp; omega) | omega) _ | refine Below.alloc ?_ (by first | exact Nat.le_refl _ | (simp; done) | (simp; omega) | omega) _)⟩
set_option maxHeartbeats 2000000 in
theorem law2 (a b n m : Int) (w : World) (hn : I64 n) (hm : I64 m) (h : sameR (cuT a b n m) (cuL a b n m) (cuB a b n m) (cuR a b n m) 0 0 0 0 = false) (h1 : mayR (cuT a b n m) (cuL a b n m) (cuB a b n m) (cuR a b n m) = true) (h2 : (cuT a b n m != a) = false) (h3 : (cuL a b n m != b) = false) : Calls Try.prog 6 #[(.agg #[.int .i64 (a), .int .i64 (b)]), .int .i64 n, .int .i64 m] w fun e w' => e = .returned (.bool true) ∧ Below w.heap.size w w' := by
  have heq := eqR
  have hne := neR
  have q : ∀ a b c d, sameR a b c d a b c d = true := sameR_refl
  have k : sameR (cuT 1 1 2 3) (cuL 1 1 2 3) (cuB 1 1 2 3) (cuR 1 1 2 3) 1 1 2 3 = true := by decide
  have i2 : I64 2 := ⟨by decide, by decide⟩
  have i3 : I64 3 := ⟨by decide, by decide⟩
  go_enter Try.func6, Try.ntmps6
  go_wp2_with (go_at_call 14; refine (cut_any _ _ _ _ _ (by assumption) (by assumption)).mono ?_; rintro e w0 ⟨rfl, hb⟩; have hB : Below w.heap.size w w0 := bup (by with_reducible (repeat' first | assumption | exact Below.refl _ _ | refine Below.drew ?_ | refine Below.setCell ?_ (by first | exact Nat.le_refl _ | (simp; done) | (simp; omega) | omega) _ | refine Below.alloc ?_ (by first | exact Nat.le_refl _ | (simp; done) | (simp; omega) | omega) _)) hb; have o0 : Own w0 (w.heap.size) #[.int .i64 (a), .int .i64 (b)] := Own.keep (by with_reducible (repeat' first | assumption | refine Own.drew ?_ | (refine Own.at ?_; first | rfl | (simp; done)) | refine Own.past ?_ _)) hb; have c0 := o0.cell; have f0 := o0.fro; have l0 := o0.lt)
  all_goals go_region_held3 (fun w' => w'.cell? ⟨w.heap.size, 0, none⟩ = some (.int .i64 (a)) ∧ w'.cell? ⟨w.heap.size, 1, none⟩ = some (.int .i64 (b)) ∧ w'.cell? ⟨w0.heap.size, 0, none⟩ = some (.int .i64 (cuT a b n m)) ∧ w'.cell? ⟨w0.heap.size, 1, none⟩ = some (.int .i64 (cuL a b n m)) ∧ w'.cell? ⟨w0.heap.size, 2, none⟩ = some (.int .i64 (cuB a b n m)) ∧ w'.cell? ⟨w0.heap.size, 3, none⟩ = some (.int .i64 (cuR a b n m))) ((repeat' apply And.intro) <;> (first | (go_keep; done) | (go_simp; done)))
    ((go_at_call 15; refine (rcut_any _ _ _ _ _ (by assumption) (by assumption)).mono ?_; rintro e w1 ⟨rfl, hb⟩; have hB : Below w.heap.size w w1 := bup (by with_reducible (repeat' first | assumption | exact Below.refl _ _ | refine Below.drew ?_ | refine Below.setCell ?_ (by first | exact Nat.le_refl _ | (simp; done) | (simp; omega) | omega) _ | refine Below.alloc ?_ (by first | exact Nat.le_refl _ | (simp; done) | (simp; omega) | omega) _)) hb; have o0 : Own w1 (w.heap.size) #[.int .i64 (a), .int .i64 (b)] := Own.keep (by with_reducible (repeat' first | assumption | refine Own.drew ?_ | (refine Own.at ?_; first | rfl | (simp; done)) | refine Own.past ?_ _)) hb; have c0 := o0.cell; have f0 := o0.fro; have l0 := o0.lt; have o1 : Own w1 (w0.heap.size) #[.int .i64 (cuT a b n m), .int .i64 (cuL a b n m), .int .i64 (cuB a b n m), .int .i64 (cuR a b n m)] := Own.keep (by with_reducible (repeat' first | assumption | refine Own.drew ?_ | (refine Own.at ?_; first | rfl | (simp; done)) | refine Own.past ?_ _)) hb; have c1 := o1.cell; have f1 := o1.fro; have l1 := o1.lt))
  all_goals go_wp2_with (first | (go_at_call 14; refine (cut_any _ _ _ _ _ (by assumption) (by assumption)).mono ?_; rintro e w1 ⟨rfl, hb⟩; have hB : Below w.heap.size w w1 := bup (by with_reducible (repeat' first | assumption | exact Below.refl _ _ | refine Below.drew ?_ | refine Below.setCell ?_ (by first | exact Nat.le_refl _ | (simp; done) | (simp; omega) | omega) _ | refine Below.alloc ?_ (by first | exact Nat.le_refl _ | (simp; done) | (simp; omega) | omega) _)) hb; have o0 : Own w1 (w.heap.size) #[.int .i64 (a), .int .i64 (b)] := Own.keep (by with_reducible (repeat' first | assumption | refine Own.drew ?_ | (refine Own.at ?_; first | rfl | (simp; done)) | refine Own.past ?_ _)) hb; have c0 := o0.cell; have f0 := o0.fro; have l0 := o0.lt; have o1 : Own w1 (w0.heap.size) #[.int .i64 (cuT a b n m), .int .i64 (cuL a b n m), .int .i64 (cuB a b n m), .int .i64 (cuR a b n m)] := Own.keep (by with_reducible (repeat' first | assumption | refine Own.drew ?_ | (refine Own.at ?_; first | rfl | (simp; done)) | refine Own.past ?_ _)) hb; have c1 := o1.cell; have f1 := o1.fro; have l1 := o1.lt) | (go_at_call 12; refine (mayR_any _ _ _ _ _).mono ?_; rintro e w1 ⟨rfl, hb⟩; have hB : Below w.heap.size w w1 := bup (by with_reducible (repeat' first | assumption | exact Below.refl _ _ | refine Below.drew ?_ | refine Below.setCell ?_ (by first | exact Nat.le_refl _ | (simp; done) | (simp; omega) | omega) _ | refine Below.alloc ?_ (by first | exact Nat.le_refl _ | (simp; done) | (simp; omega) | omega) _)) hb; have o0 : Own w1 (w.heap.size) #[.int .i64 (a), .int .i64 (b)] := Own.keep (by with_reducible (repeat' first | assumption | refine Own.drew ?_ | (refine Own.at ?_; first | rfl | (simp; done)) | refine Own.past ?_ _)) hb; have c0 := o0.cell; have f0 := o0.fro; have l0 := o0.lt; have o1 : Own w1 (w0.heap.size) #[.int .i64 (cuT a b n m), .int .i64 (cuL a b n m), .int .i64 (cuB a b n m), .int .i64 (cuR a b n m)] := Own.keep (by with_reducible (repeat' first | assumption | refine Own.drew ?_ | (refine Own.at ?_; first | rfl | (simp; done)) | refine Own.past ?_ _)) hb; have c1 := o1.cell; have f1 := o1.fro; have l1 := o1.lt))
  all_goals go_ret
  all_goals exact ⟨rfl, by with_reducible (repeat' first | assumption | exact Below.refl _ _ | refine Below.drew ?_ | refine Below.setCell ?_ (by first | exact Nat.le_refl _ | (simp; done) | (simp; omega) | omega) _ | refine Below.alloc ?_ (by first | exact Nat.le_refl _ | (simp; done) | (simp; omega) | omega) _)⟩
theorem law (a b n m : Int) (w : World) (_ : I64 a) (_ : I64 b) (hn : I64 n) (hm : I64 m) : Calls Try.prog 6 #[(.agg #[.int .i64 (a), .int .i64 (b)]), .int .i64 n, .int .i64 m] w fun e w' => e = .returned (.bool true) ∧ Below w.heap.size w w' := by
  cases h : sameR (cuT a b n m) (cuL a b n m) (cuB a b n m) (cuR a b n m) 0 0 0 0
  · obtain ⟨h1, h2, h3⟩ := cu_zero a b n m h
    exact law2 a b n m w hn hm h h1 (by simp [h2]) (by simp [h3])
  · exact law1 a b n m w hn hm h

set_option maxRecDepth 100000 in
theorem lifted (os : Os) (started : os.Started) (H : Type) (enc : TypeId × Value → H) :
    ReturnsInHanded {} Try.checked os 6 .any (Rows.addrCutsSpec.pre6 enc Try.prog Try.f6 Rows.addrCutsRow.domain false) (Rows.addrCutsSpec.post enc Try.prog Try.f6 false true false false) := by
  refine returnsInHanded_of_change (C := Try.checked) own started (by kernel_rfl) Try.func6
    (ChangeSpec.witness6 (enc := enc) (C := Try.checked) false ⟨#[], #[.agg #[.int .i64 0, .int .i64 0], .int .i64 0, .int .i64 0], []⟩ 8 (by kernel_rfl) (by kernel_rfl) (by kernel_rfl) (by kernel_rfl)) ?_
  intro W base args ds gs before hval0 hW _ _
  have hval : ∀ (j : Nat) t v, Try.f6.params[j]? = some t → args[j]? = some v → Value.okWide Try.prog W .any base t v := hval0
  have hW' := hW
  obtain ⟨p, q, hA0, hV, rfl, _, _⟩ := hW
  have hA : DataW.TrodAll enc Try.prog W 0 (fun _ => true) true Try.f6.params.toList args.toList ds p := hA0
  rw [Try.params6] at hA hval
  obtain ⟨v0, vs0, d0, ds0, p0, q0, hargs, rfl, rfl, h0, r0⟩ := trodAll_cons hA
  obtain ⟨v1, vs1, d1, ds1, p1, q1, rfl, rfl, rfl, h1, r1⟩ := trodAll_cons r0
  obtain ⟨v2, vs2, d2, ds2, p2, q2, rfl, rfl, rfl, h2, r2⟩ := trodAll_cons r1
  obtain ⟨rfl, rfl, rfl⟩ := trodAll_nil r2
  obtain rfl : args = #[v0, v1, v2] := by cases args; simp_all
  obtain ⟨rfl, rfl⟩ := trodVars_none hV
  obtain ⟨x0_0, x0_1, rfl, rfl, rfl, w0_0, w0_1⟩ := open_cell (hval 0 23 v0 rfl rfl) h0
  obtain ⟨x1, rfl, rfl, rfl, wx1⟩ := open_int Try.underlying3 (hval 1 3 v1 rfl rfl) h1
  obtain ⟨x2, rfl, rfl, rfl, wx2⟩ := open_int Try.underlying3 (hval 2 3 v2 rfl rfl) h2
  simp only [List.append_nil] at hW'
  refine (law x0_0 x0_1 x1 x2 W (i64_of w0_0) (i64_of w0_1) (i64_of wx1) (i64_of wx2)).mono fun e W' ⟨he, hb⟩ => ?_
  subst he
  exact ⟨_, rfl, _, _, _, [], [], [], hW', trodAll_mk1 (shut_bool Try.underlying4 _), (trodAll_cons_mk (shut_cell w0_0 w0_1) (trodAll_cons_mk (shut_int Try.underlying3 wx1) (trodAll_cons_mk (shut_int Try.underlying3 wx2) trodAll_mk0))), rfl, hb.frame _, fun h => by cases h⟩

theorem holds : Rows.AddrCutsSaid :=
  OpenClaim.holds_of_wide 6 Try.f6 rfl rfl rfl rfl rfl rfl rfl ⟨rfl, rfl, rfl, rfl, rfl⟩ rfl rfl rfl rfl rfl (by kernel_rfl) Try.func6 (by kernel_rfl)
    (of_decide_eq_true (by kernel_rfl)) (by unfold Func.isWrapper; first | (rw [if_pos (by decide +kernel)]; kernel_rfl) | (rw [if_neg (by decide +kernel)]; exact ⟨rfl, rfl⟩))
    (fun os started H enc _ => lifted os started H enc)
end Go.Proofs.Ytcdkdgbdfamhnab.addrCuts
namespace Go.Proofs.Ytcdkdgbdfamhnab
theorem addrCuts_holds : Rows.AddrCutsSaid := addrCuts.holds
end Go.Proofs.Ytcdkdgbdfamhnab
