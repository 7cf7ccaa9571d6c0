/- The contract of texts.table: all functions, each with how many arguments it takes. New memory alone is made. -/
import Derived.Test.YtdcfnfapdceenaaGreatDoorNT1
import Derived.Deep.MidRow
namespace Go.Proofs.YtdcfnfapdceenaaGreatDoor
open Go.RowKit
set_option linter.all false
theorem below_setCells {n : Nat} {w : World} {b : Nat} (hb : n ≤ b) : ∀ (vs : List Value) (o : Nat) (W : World), Below n w W → Below n w (W.setCells b o vs)
  | [], _, _, h => h
  | _ :: vs, o, W, h => below_setCells hb vs (o + 1) _ (h.setCell hb _)
theorem Own.there {W : World} {b n : Nat} {A : Array Value} (h : Own W b A) (hn : n ≤ A.size) : W.there b 0 n := fun j hj =>
  ⟨by rw [Nat.zero_add, h.cell, Array.getElem?_eq_getElem (by omega)]; rfl, h.fro _⟩
theorem results_cell1 {fn : Func} {p : Tmp} {ty : TypeId} (h : fn.results = #[.cell p ty]) (tmps : Array Value) (P : Program) (w : World) :
    (results fn tmps).run P w = ((asAddr (tmps.getD p undef)).run P w).andThen fun a w₁ => (loadVar ty a).run P w₁ := by
  simp only [results, h]
  simp [Sem.run_bind, Result.andThen]
/-- All rows of the table. -/
def tabA : Array Value := #[.int .i64 1, .int .i64 1, .int .i64 1, .func (.func 61) #[] #[], .int .i64 1, .int .i64 2, .int .i64 1, .func (.func 62) #[] #[], .int .i64 1, .int .i64 2, .int .i64 1, .func (.func 63) #[] #[], .int .i64 3, .int .i64 3, .int .i64 1, .func (.func 64) #[] #[], .int .i64 1, .int .i64 1, .int .i64 1, .func (.func 65) #[] #[], .int .i64 1, .int .i64 1, .int .i64 1, .func (.func 66) #[] #[], .int .i64 1, .int .i64 1, .int .i64 1, .func (.func 67) #[] #[], .int .i64 2, .int .i64 2, .int .i64 1, .func (.func 68) #[] #[], .int .i64 2, .int .i64 3, .int .i64 2, .func (.func 69) #[] #[], .int .i64 3, .int .i64 3, .int .i64 3, .func (.func 70) #[] #[], .int .i64 1, .int .i64 16, .int .i64 16, .func (.func 71) #[] #[], .int .i64 1, .int .i64 1, .int .i64 1, .func (.func 72) #[] #[], .int .i64 1, .int .i64 1, .int .i64 0, .func (.func 73) #[] #[], .int .i64 2, .int .i64 2, .int .i64 2, .func (.func 74) #[] #[], .int .i64 1, .int .i64 1, .int .i64 1, .func (.func 75) #[] #[], .int .i64 1, .int .i64 1, .int .i64 1, .func (.func 76) #[] #[]]
theorem table_end (A : Array Value) (hA : (Tryz.prog.info? 82).map (·.size) = some A.toList.length) (W : World) (B : Nat) (tmps : Array Value) (hp : tmps.getD 0 undef = .pointer (some ⟨B, 0, none⟩)) (ht : W.there B 0 A.toList.length) : (results Tryz.f41 tmps).run Tryz.prog (W.setCells B 0 A.toList) = .ok (.agg A) (W.setCells B 0 A.toList) := by
  have h := run_loadVar_mid (P := Tryz.prog) _ B 0 82 A.toList _ (World.rangeAt_setCells_same W B 0 A.toList ht) Tryz.underlying82 rfl hA
  rw [Array.toArray_toList] at h
  generalize W.setCells B 0 A.toList = W' at h ⊢
  rw [results_cell1 (p := 0) (ty := 82) rfl, hp]
  have e : (asAddr (.pointer (some ⟨B, 0, none⟩))).run Tryz.prog W' = .ok ⟨B, 0, none⟩ W' := rfl
  rw [e, Result.andThen_ok, h]
set_option maxRecDepth 100000 in
set_option maxHeartbeats 4000000 in
theorem table_any (w : World) : Calls Tryz.prog 41 #[] w fun e w' => e = .returned (.agg tabA) ∧ Below w.heap.size w w' := by
  go_enter Tryz.func41, Tryz.ntmps41
  repeat first
    | (refine wpList_store_mid rfl 82 (.tmp 0) (.tmp 45) (by with_reducible rfl) w.heap.size 0 tabA rfl rfl (Own.there (A := #[.int .i64 0, .int .i64 0, .int .i64 0, .nilFunc, .int .i64 0, .int .i64 0, .int .i64 0, .nilFunc, .int .i64 0, .int .i64 0, .int .i64 0, .nilFunc, .int .i64 0, .int .i64 0, .int .i64 0, .nilFunc, .int .i64 0, .int .i64 0, .int .i64 0, .nilFunc, .int .i64 0, .int .i64 0, .int .i64 0, .nilFunc, .int .i64 0, .int .i64 0, .int .i64 0, .nilFunc, .int .i64 0, .int .i64 0, .int .i64 0, .nilFunc, .int .i64 0, .int .i64 0, .int .i64 0, .nilFunc, .int .i64 0, .int .i64 0, .int .i64 0, .nilFunc, .int .i64 0, .int .i64 0, .int .i64 0, .nilFunc, .int .i64 0, .int .i64 0, .int .i64 0, .nilFunc, .int .i64 0, .int .i64 0, .int .i64 0, .nilFunc, .int .i64 0, .int .i64 0, .int .i64 0, .nilFunc, .int .i64 0, .int .i64 0, .int .i64 0, .nilFunc, .int .i64 0, .int .i64 0, .int .i64 0, .nilFunc]) (by with_reducible (repeat' first | assumption | refine Own.drew ?_ | (refine Own.at ?_; first | rfl | (simp; done)) | refine Own.past ?_ _)) (by decide)) (by kernel_rfl) (by kernel_rfl) ?_)
    | go_step
  refine bodyPost_ret (v := .agg tabA) (table_end tabA (by kernel_rfl) _ w.heap.size _ rfl (Own.there (A := #[.int .i64 0, .int .i64 0, .int .i64 0, .nilFunc, .int .i64 0, .int .i64 0, .int .i64 0, .nilFunc, .int .i64 0, .int .i64 0, .int .i64 0, .nilFunc, .int .i64 0, .int .i64 0, .int .i64 0, .nilFunc, .int .i64 0, .int .i64 0, .int .i64 0, .nilFunc, .int .i64 0, .int .i64 0, .int .i64 0, .nilFunc, .int .i64 0, .int .i64 0, .int .i64 0, .nilFunc, .int .i64 0, .int .i64 0, .int .i64 0, .nilFunc, .int .i64 0, .int .i64 0, .int .i64 0, .nilFunc, .int .i64 0, .int .i64 0, .int .i64 0, .nilFunc, .int .i64 0, .int .i64 0, .int .i64 0, .nilFunc, .int .i64 0, .int .i64 0, .int .i64 0, .nilFunc, .int .i64 0, .int .i64 0, .int .i64 0, .nilFunc, .int .i64 0, .int .i64 0, .int .i64 0, .nilFunc, .int .i64 0, .int .i64 0, .int .i64 0, .nilFunc, .int .i64 0, .int .i64 0, .int .i64 0, .nilFunc]) (by with_reducible (repeat' first | assumption | refine Own.drew ?_ | (refine Own.at ?_; first | rfl | (simp; done)) | refine Own.past ?_ _)) (by decide))) rfl ⟨rfl, below_setCells (Nat.le_refl _) _ _ _ (by with_reducible (repeat' first | assumption | exact Below.refl _ _ | refine Below.drew ?_ | refine bdrewN ?_ _ | refine Below.setCell ?_ (by first | exact Nat.le_refl _ | (simp; done) | (simp; omega) | omega) _ | refine Below.alloc ?_ (by first | exact Nat.le_refl _ | (simp; done) | (simp; omega) | omega) _))⟩
end Go.Proofs.YtdcfnfapdceenaaGreatDoor
