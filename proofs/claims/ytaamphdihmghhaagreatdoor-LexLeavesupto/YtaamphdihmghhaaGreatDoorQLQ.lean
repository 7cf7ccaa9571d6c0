/- A region whose order Go leaves open, within a round of a range over a function: one walk of the written order serves every order, if no operation of it defers. No condition. -/
import Derived.Sort.QuietIn
import Derived.Test.YtaamphdihmghhaaGreatDoorQLV
namespace Go.Proofs.YtaamphdihmghhaaGreatDoor
open Go.RowKit
set_option linter.all false
/-- Does it defer nothing? -/
def calmO (o : Oper) : Bool := match o.op with
  | .defer _ => false
  | _ => true
theorem calmO_ne {o : Oper} (h : calmO o = true) : ∀ c, o.op ≠ .defer c := fun c e => by unfold calmO at h; rw [e] at h; cases h
theorem quiet_op {F : Fence} {n : Nat} {P : Program} {C : World → Prop} {o : Oper} {a : Act} {w : World} {K : Act → Prop} {K' : Act → World → Prop} {Q : Exit → Act → World → Prop} (hd : calmO o = true) (hC : C w)
    (h : ∀ a w', C w' → K a → K' a w') (ha : o.askedIn F P a C) (hh : o.quietIn F n P a C K) : o.wpIn F n P a w K' Q := by
  obtain ⟨v, hv, hK⟩ := hh
  have h3 := hv w hC
  refine ⟨ha w hC, ?_⟩
  rw [Oper.semAt_eq _ _ _ (calmO_ne hd)]
  unfold Oper.quietAtIn at h3
  revert h3
  generalize (execOp a.eval o).run P w = r
  intro h3
  match r, h3 with
  | .ok (.value u) w', h3 => obtain ⟨rfl, rfl⟩ := h3; exact h _ _ hC hK
  | .ok .skip w', h3 => obtain ⟨rfl, rfl⟩ := h3; exact h _ _ hC hK
  | .ok (.enter f args) w', h3 =>
    obtain ⟨rfl, hdp, hc⟩ := h3
    exact ⟨hdp, hc.mono fun e w'' ⟨he, hw⟩ => by subst he; exact h _ _ hw hK⟩
theorem quiet_any {F : Fence} {n : Nat} {P : Program} {md : Region.Mode} {ops : Array Oper} {C : World → Prop} {Q : Act → Prop} {Q' : Exit → Act → World → Prop} (hd : ∀ (i : Nat) (o : Oper), ops[i]? = some o → calmO o = true)
    (hQ : ∀ a w, C w → Q a → Q' .normal a w) : ∀ (fuel : Nat) (listed : Array Bool) (a : Act) (w : World), C w → wpAnyQIn F n P md ops C Q fuel listed a → wpAnyIn F n P md ops Q' fuel listed a w
  | 0, _, _, _, hw, h => ⟨h.1, hQ _ _ hw h.2⟩
  | fuel + 1, listed, a, w, hw, h => by
    refine ⟨fun h0 => hQ _ _ hw (h.1 h0), fun i hi => ?_⟩
    have hq := h.2 i hi
    unfold qOpIn at hq
    unfold wpOpIn
    cases ho : ops[i]? with
    | none => simp only [ho] at hq ⊢; exact quiet_any hd hQ fuel _ a w hw hq
    | some o =>
      simp only [ho] at hq ⊢
      obtain ⟨ha, hq⟩ := hq
      split
      · rename_i hwt
        rw [if_pos hwt] at hq
        exact quiet_op (hd i o ho) hw (fun a' w' hw' => quiet_any hd hQ fuel _ a' w' hw') ha hq
      · rename_i hwt
        rw [if_neg hwt] at hq
        exact ⟨ha w hw, quiet_any hd hQ fuel _ _ w hw hq⟩
theorem region_round {F : Fence} {n : Nat} {P : Program} {id : Nat} {Q : Exit → Act → World → Prop} {a : Act} {w : World} {l : List Oper} (hd : l.all calmO = true) (hm : P.follows .mixedOrders = true) (hB : Region.lexB .any l.toArray = true)
    (h : wpQuietIn F n P l.toArray (fun w' => ∃ n, w' = w.drewN n) (fun a' => ∀ w', (∃ n, w' = w.drewN n) → Q .normal a' w') l a) : (Code.region id l.toArray true).wpIn F n P Q a w := by
  simp only [Region.lexB, Bool.and_eq_true] at hB
  refine wpIn_region_any hm (quiet_any (C := fun w' => ∃ n, w' = w.drewN n) (Q := fun a' => ∀ w', (∃ n, w' = w.drewN n) → Q .normal a' w') (fun i o ho => ?_) (fun _ w' hw' h => h w' hw') _ _ _ _ ⟨1, rfl⟩ ?_)
  · have : o ∈ l := by have h1 : l[i]? = some o := by simpa using ho
                       exact List.mem_of_getElem? h1
    exact List.all_eq_true.1 hd o this
  · have h2 := wpAnyQIn_lex (F := F) (n := n) (C := fun w' => ∃ n, w' = w.drewN n) (md := .any) hB.1 l 0 (Array.replicate l.toArray.size false) a (by simp) (by simpa using hB.2) h
    simpa using h2
end Go.Proofs.YtaamphdihmghhaaGreatDoor
