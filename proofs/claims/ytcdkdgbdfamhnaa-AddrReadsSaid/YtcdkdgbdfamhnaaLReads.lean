/- AddrReads: of any text the program's Parse and ParseRect answer what the document's answers are: the law returns true for every input. No condition. -/
import Derived.Test.YtcdkdgbdfamhnaaRP3
namespace Go.Proofs.Ytcdkdgbdfamhnaa.addrReads
open Go.RowKit Go.ChangeShapes Go.WideShapes Go.ChangeAt
set_option linter.all false
theorem b2_p : pB ⟨#[66, 50]⟩ = true ∧ sameC (pR ⟨#[66, 50]⟩) (pC ⟨#[66, 50]⟩) 2 2 = true := by decide +kernel
set_option maxHeartbeats 4000000 in
theorem law (s : ByteArray) (w : World) (hs : s.size ≤ maxLen) : Calls Try.prog 4 #[.string s] w fun e w' => e = .returned (.bool true) ∧ Below w.heap.size w w' := by
  have hne := neC
  have heq := eqC
  have hnr := neR
  have her := eqR
  have q1 : ∀ a b, sameC a b a b = true := sameC_refl
  have q2 : ∀ a b c d, sameR a b c d a b c d = true := sameR_refl
  have q3 := b2_p.1
  have q4 := b2_p.2
  go_enter Try.func4, Try.ntmps4
  go_wp2_with fail
  go_at_call 10
  refine (parse_any _ _).mono ?_
  rintro e wa ⟨rfl, hb⟩
  have hBwa : Below w.heap.size w wa := bup (by with_reducible (repeat' first | assumption | exact Below.refl _ _ | refine Below.drew ?_ | refine Below.setCell ?_ (by first | exact Nat.le_refl _ | (simp; done) | (simp; omega) | omega) _ | refine Below.alloc ?_ (by first | exact Nat.le_refl _ | (simp; done) | (simp; omega) | omega) _)) hb
  have zwa := hBwa.size
  go_wp2_with fail
  go_at_call 11
  refine (rparse_any _ _ hs).mono ?_
  rintro e wb ⟨rfl, hb⟩
  have hBwb : Below w.heap.size w wb := bup (by with_reducible (repeat' first | assumption | exact Below.refl _ _ | refine Below.drew ?_ | refine Below.setCell ?_ (by first | exact Nat.le_refl _ | (simp; done) | (simp; omega) | omega) _ | refine Below.alloc ?_ (by first | exact Nat.le_refl _ | (simp; done) | (simp; omega) | omega) _)) hb
  have zwb := hBwb.size
  have o0wb : Own wb (wa.heap.size) #[.int .i64 (pR s), .int .i64 (pC s)] := Own.keep (by with_reducible (repeat' first | assumption | refine Own.drew ?_ | (refine Own.at ?_; first | rfl | (simp; done)) | refine Own.past ?_ _)) hb
  have c0wb := o0wb.cell
  have f0wb := o0wb.fro
  have l0wb := o0wb.lt
  go_wp2_with fail
  go_at_call 12
  refine (prect_any _ _ hs).mono ?_
  rintro e wc ⟨rfl, hb⟩
  have hBwc : Below w.heap.size w wc := bup (by with_reducible (repeat' first | assumption | exact Below.refl _ _ | refine Below.drew ?_ | refine Below.setCell ?_ (by first | exact Nat.le_refl _ | (simp; done) | (simp; omega) | omega) _ | refine Below.alloc ?_ (by first | exact Nat.le_refl _ | (simp; done) | (simp; omega) | omega) _)) hb
  have zwc := hBwc.size
  go_wp2_with fail
  go_at_call 13
  refine (rprect_any _ _ hs).mono ?_
  rintro e wd ⟨rfl, hb⟩
  have hBwd : Below w.heap.size w wd := bup (by with_reducible (repeat' first | assumption | exact Below.refl _ _ | refine Below.drew ?_ | refine Below.setCell ?_ (by first | exact Nat.le_refl _ | (simp; done) | (simp; omega) | omega) _ | refine Below.alloc ?_ (by first | exact Nat.le_refl _ | (simp; done) | (simp; omega) | omega) _)) hb
  have zwd := hBwd.size
  have o0wd : Own wd (wc.heap.size) #[.int .i64 (qT s), .int .i64 (qL s), .int .i64 (qO s), .int .i64 (qR s)] := Own.keep (by with_reducible (repeat' first | assumption | refine Own.drew ?_ | (refine Own.at ?_; first | rfl | (simp; done)) | refine Own.past ?_ _)) hb
  have c0wd := o0wd.cell
  have f0wd := o0wd.fro
  have l0wd := o0wd.lt
  go_wp2_with fail
  go_at_call 10
  refine (parse_any _ _).mono ?_
  rintro e we ⟨rfl, hb⟩
  have hBwe : Below w.heap.size w we := bup (by with_reducible (repeat' first | assumption | exact Below.refl _ _ | refine Below.drew ?_ | refine Below.setCell ?_ (by first | exact Nat.le_refl _ | (simp; done) | (simp; omega) | omega) _ | refine Below.alloc ?_ (by first | exact Nat.le_refl _ | (simp; done) | (simp; omega) | omega) _)) hb
  have zwe := hBwe.size
  have o0we : Own we (wc.heap.size) #[.int .i64 (qT s), .int .i64 (qL s), .int .i64 (qO s), .int .i64 (qR s)] := Own.keep (by with_reducible (repeat' first | assumption | refine Own.drew ?_ | (refine Own.at ?_; first | rfl | (simp; done)) | refine Own.past ?_ _)) hb
  have c0we := o0we.cell
  have f0we := o0we.fro
  have l0we := o0we.lt
  have o1we : Own we (wd.heap.size) #[.int .i64 (qT s), .int .i64 (qL s), .int .i64 (qO s), .int .i64 (qR s)] := Own.keep (by with_reducible (repeat' first | assumption | refine Own.drew ?_ | (refine Own.at ?_; first | rfl | (simp; done)) | refine Own.past ?_ _)) hb
  have c1we := o1we.cell
  have f1we := o1we.fro
  have l1we := o1we.lt
  go_wp2
  all_goals go_ret
  all_goals exact ⟨rfl, by with_reducible (repeat' first | assumption | exact Below.refl _ _ | refine Below.drew ?_ | refine Below.setCell ?_ (by first | exact Nat.le_refl _ | (simp; done) | (simp; omega) | omega) _ | refine Below.alloc ?_ (by first | exact Nat.le_refl _ | (simp; done) | (simp; omega) | omega) _)⟩

set_option maxRecDepth 100000 in
theorem lifted (os : Os) (started : os.Started) (H : Type) (enc : TypeId × Value → H) :
    ReturnsInHanded {} Try.checked os 4 .any (Rows.addrReadsSpec.pre6 enc Try.prog Try.f4 Rows.addrReadsRow.domain false) (Rows.addrReadsSpec.post enc Try.prog Try.f4 false true false false) := by
  refine returnsInHanded_of_change (C := Try.checked) own started (by kernel_rfl) Try.func4
    (ChangeSpec.witness6 (enc := enc) (C := Try.checked) false ⟨#[], #[.string ⟨#[]⟩], []⟩ 8 (by kernel_rfl) (by kernel_rfl) (by kernel_rfl) (by kernel_rfl)) ?_
  intro W base args ds gs before hval0 hW _ _
  have hval : ∀ (j : Nat) t v, Try.f4.params[j]? = some t → args[j]? = some v → Value.okWide Try.prog W .any base t v := hval0
  have hW' := hW
  obtain ⟨p, q, hA0, hV, rfl, _, _⟩ := hW
  have hA : DataW.TrodAll enc Try.prog W 0 (fun _ => true) true Try.f4.params.toList args.toList ds p := hA0
  rw [Try.params4] at hA hval
  obtain ⟨v0, vs0, d0, ds0, p0, q0, hargs, rfl, rfl, h0, r0⟩ := trodAll_cons hA
  obtain ⟨rfl, rfl, rfl⟩ := trodAll_nil r0
  obtain rfl : args = #[v0] := by cases args; simp_all
  obtain ⟨rfl, rfl⟩ := trodVars_none hV
  obtain ⟨x0, rfl, rfl, rfl, wx0⟩ := ChangeMaps.open_string Try.underlying9 (hval 0 9 v0 rfl rfl) h0
  simp only [List.append_nil] at hW'
  refine (law x0 W wx0).mono fun e W' ⟨he, hb⟩ => ?_
  subst he
  exact ⟨_, rfl, _, _, _, [], [], [], hW', trodAll_mk1 (shut_bool Try.underlying4 _), (trodAll_cons_mk (ChangeMaps.shut_string Try.underlying9 wx0) trodAll_mk0), rfl, hb.frame _, fun h => by cases h⟩

theorem holds : Rows.AddrReadsSaid :=
  OpenClaim.holds_of_wide 4 Try.f4 rfl rfl rfl rfl rfl rfl rfl ⟨rfl, rfl, rfl, rfl, rfl⟩ rfl rfl rfl rfl rfl (by kernel_rfl) Try.func4 (by kernel_rfl)
    (of_decide_eq_true (by kernel_rfl)) (by unfold Func.isWrapper; first | (rw [if_pos (by decide +kernel)]; kernel_rfl) | (rw [if_neg (by decide +kernel)]; exact ⟨rfl, rfl⟩))
    (fun os started H enc _ => lifted os started H enc)
end Go.Proofs.Ytcdkdgbdfamhnaa.addrReads
namespace Go.Proofs.Ytcdkdgbdfamhnaa
theorem addrReads_holds : Rows.AddrReadsSaid := addrReads.holds
end Go.Proofs.Ytcdkdgbdfamhnaa
