/- append within the room of a copied list; what one node more makes of a formula's depth. No function's text is walked here. -/
import Derived.Test.YtcddhpmpihmfdabDoorP2c
import Derived.Deep.AppendSrc
namespace Go.Proofs.YtcddhpmpihmfdabDoor
open Go.Shelf Go.RowKit
set_option linter.all false
theorem setC_N : ∀ (cs : List Value) (W : World) (g o : Nat), W.setCells g o cs = setN W g o cs
  | [], _, _, _ => rfl
  | c :: cs, W, g, o => by rw [World.setCells, setN, setC_N cs]
theorem setN_rest (g : Nat) : ∀ (cs : List Value) (W : World) (o : Nat), (setN W g o cs).os = W.os ∧ (setN W g o cs).tape = W.tape ∧ (setN W g o cs).output = W.output
  | [], _, _ => ⟨rfl, rfl, rfl⟩
  | c :: cs, W, o => by rw [setN]; exact setN_rest g cs (W.setCell ⟨g, o, none⟩ c) (o + 1)
theorem own_one {W : World} {b : Nat} {x y : Value} (h : Own W b #[x]) : Own (W.setCell ⟨b, 0, none⟩ y) b #[y] := own_put h (k := 0) (by simp)
theorem Nd.one (t : Nd) : ∀ u ∈ t.cells.toList, u.oneCell' = true := by
  intro u hu
  simp [Nd.cells] at hu
  rcases hu with h | h | h | h | h | h | h | h | h | h | h | h | h | h | h <;> (subst h; rfl)
theorem wpList_append_cv {ops : Array Oper} {rest : List Oper} {o : Oper} {a : Act} {Q : Exit → Act → World → Prop} {w : World} (hgd : o.guard = none) (s x : Operand)
    (ho : o.op = .call { callee := .builtin .append, args := #[s, x], argTypes := #[22, 22] }) (g n b : Nat) (l : List Nd) (nd : Nd)
    (hs : a.eval s = .slice (some ⟨g, 0, none⟩) n (n + 2)) (hx : a.eval x = .slice (some ⟨b, 0, none⟩) 1 1) (hc : ∀ j u, nd.cells.toList[j]? = some u → w.cell? ((⟨b, 0, none⟩ : Addr).add j) = some u) (hcv : CV w g l) (hl : l.length = n + 2)
    (h : ∀ w', CV w' g (l.set n nd) → (∀ k, k ≠ g → w'.heap[k]? = w.heap[k]?) → w'.heap.size = w.heap.size → (∀ B W, B ≤ g → Below B W w → Below B W w') → wpList Tryd.prog ops Q rest (a.put o.dst (.slice (some ⟨g, 0, none⟩) (n + 1) (n + 2))) w') : wpList Tryd.prog ops Q (o :: rest) a w := by
  refine wpList_plain hgd fun K hK => ?_
  obtain ⟨i0, hi, hz0, hz1, hz2⟩ := info_parts infoNd
  have hlen : nd.cells.toList.length = 15 := rfl
  have hat : ∀ j, j < nd.cells.toList.length → w.cell? ⟨g, n * 15 + j, none⟩ = (Nd.cells (l[n]'(by omega)))[j]? := fun j hj => hcv.cell n _ (List.getElem?_eq_getElem (by omega)) j (by rw [hlen] at hj; exact hj)
  have hr := run_append_room_src (P := Tryd.prog) (w := w) 22 22 o.type 39 i0 Tryd.underlying22 hi g 0 n (n + 2) (.slice (some ⟨b, 0, none⟩) 1 1) 1 nd.cells.toList
    (by rw [hz1]; exact Go.Src.ofSlice w Tryd.underlying22 ⟨b, 0, none⟩ 1 1 nd.cells.toList rfl hc nd.one) (by omega)
    (fun j hj => by rw [hz1, Nat.zero_add, hat j hj, Array.getElem?_eq_getElem (show j < (Nd.cells _).size by rw [hlen] at hj; exact hj)]; rfl) (fun j hj => hcv.fro _)
  rw [hz1, Nat.zero_add, setC_N] at hr
  unfold Oper.wp execOp
  simp only [ho, resolve, invoke, builtin, Sem.run_bind, Sem.run_pure, Result.andThen_ok, List.map_toArray, List.map_cons, List.map_nil, hs, hx, hr]
  refine hK _ _ (h _ (CV.put hcv (by omega)) (fun k hk => setN_block g _ _ _ _ hk) (setN_size g _ _ _) (fun B W hB hb => ?_))
  obtain ⟨r1, r2, r3⟩ := setN_rest g nd.cells.toList w (n * 15)
  exact ⟨r1.trans hb.os, r2.trans hb.tape, r3.trans hb.output, by rw [setN_size]; exact hb.size, fun k hk => (setN_block g _ _ _ _ (by omega)).trans (hb.block k hk)⟩
theorem put_snoc : ∀ (ns : List Nd) (st : List Th) (x : Nd), putFrom st (ns ++ [x]) = (putFrom st ns).bind (fun s => stepN s x)
  | [], st, x => by show (stepN st x).bind (fun s => putFrom s []) = stepN st x; cases stepN st x <;> rfl
  | n :: r, st, x => by
    show (stepN st n).bind (fun s => putFrom s (r ++ [x])) = ((stepN st n).bind (fun s => putFrom s r)).bind _
    cases stepN st n with
    | none => rfl
    | some s => exact put_snoc r s x
def pctN : Nd := ⟨4, 0, 0, ⟨#[]⟩, false, 0, 0, 0, 0, 0, 0, 0, 2, ⟨#[]⟩, 0⟩
def absN : Nd := ⟨5, 0, 0, ⟨#[]⟩, false, 0, 0, 0, 0, 0, 0, 0, 0, ⟨#[65, 66, 83]⟩, 1⟩
theorem pct_may : mayN pctN = true := by decide +kernel
theorem abs_may : mayN absN = true := by decide +kernel
theorem meas_one {ns : List Nd} {d : Nat} (h : measN ns = some d) : ∃ t : Th, putFrom [] ns = some [t] ∧ t.many = false ∧ t.dep = d := by
  unfold measN at h
  split at h
  · cases h
  · cases hp : putFrom [] ns with
    | none => rw [hp] at h; cases h
    | some st =>
      rw [hp] at h
      match st, h with
      | [t], h =>
        cases hm : t.many
        · refine ⟨t, rfl, hm, ?_⟩
          simpa [measL, hm] using h
        · simp [measL, hm] at h
      | [], h => cases h
      | a :: b :: l, h => cases h
theorem meas_pct {ns : List Nd} {d : Nat} (h : measN ns = some d) (hl : ns.length < 1024) : ∃ a, measN (ns ++ [pctN]) = some a ∧ d ≤ a ∧ a ≤ d + 1 := by
  obtain ⟨t, hp, hm, hd⟩ := meas_one h
  have hw : workN pctN [t] = some ⟨false, 6, bump 2 true 0 t⟩ := by simp [workN, pctN, hm, maxD, levI]
  have hs : stepN [t] pctN = some [⟨false, 6, bump 2 true 0 t⟩] := step_some (st := [t]) pct_may (by show takI pctN ≤ (1 : Int); decide) hw
  refine ⟨bump 2 true 0 t, ?_, ?_, ?_⟩
  · unfold measN
    rw [if_neg (by simp; omega), put_snoc, hp]
    show (stepN [t] pctN).bind measL = _
    rw [hs]; rfl
  · unfold bump; split <;> omega
  · unfold bump; split <;> omega
theorem meas_abs {ns : List Nd} {d : Nat} (h : measN ns = some d) (hl : ns.length < 1024) : measN (ns ++ [absN]) = some (d + 1) := by
  obtain ⟨t, hp, hm, hd⟩ := meas_one h
  have hw : workN absN [t] = some ⟨false, 7, t.dep + 1⟩ := by simp [workN, absN, maxD, levI, bump_n]
  have hs : stepN [t] absN = some [⟨false, 7, t.dep + 1⟩] := step_some (st := [t]) abs_may (by show takI absN ≤ (1 : Int); decide) hw
  unfold measN
  rw [if_neg (by simp; omega), put_snoc, hp]
  show (stepN [t] absN).bind measL = _
  rw [hs, ← hd]; rfl
theorem meas_big {ns : List Nd} (x : Nd) (h : ns.length = 1024) : chkI (ns ++ [x]) = 20 := by
  unfold chkI measN
  rw [if_pos (by simp; omega)]
theorem chk_meas {ns : List Nd} (h : chkI ns = 0) : ∃ d, measN ns = some d ∧ d ≤ 32 := by
  unfold chkI at h
  cases hm : measN ns with
  | none => rw [hm] at h; cases h
  | some d =>
    rw [hm] at h
    by_cases hd : d ≤ 32
    · exact ⟨d, rfl, hd⟩
    · have : (if d ≤ 32 then (0 : Int) else 20) = 0 := h
      rw [if_neg hd] at this; cases this
theorem two_set (ns : List Nd) (x : Nd) : (ns ++ [nd0, nd0]).set ns.length x = (ns ++ [x]) ++ [nd0] := by
  rw [List.set_append_right ns.length x (Nat.le_refl _), Nat.sub_self, List.append_assoc]; rfl
end Go.Proofs.YtcddhpmpihmfdabDoor
