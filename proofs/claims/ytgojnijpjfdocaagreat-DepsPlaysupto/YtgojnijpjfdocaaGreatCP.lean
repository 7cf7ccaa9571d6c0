/- Rows of operations on pairs; what they make. No function's text is walked here. -/
import Derived.Test.YtgojnijpjfdocaaGreatCO
import Derived.Test.YtgojnijpjfdocaaGreatCR
namespace Go.Proofs.YtgojnijpjfdocaaGreat
open Go.RowKit
set_option linter.all false
/-- An operation of a script. -/
structure Op7 where
  kd : Int
  t : Int
  l : Int
  b : Int
  q : Int
  r : Int
  c : Int
def Op7.cells (o : Op7) : Array Value := #[.int .i64 o.kd, .int .i64 o.t, .int .i64 o.l, .int .i64 o.b, .int .i64 o.q, .int .i64 o.r, .int .i64 o.c]
structure Op7.ok (o : Op7) : Prop where
  kd : I64 o.kd
  t : I64 o.t
  l : I64 o.l
  b : I64 o.b
  q : I64 o.q
  r : I64 o.r
  c : I64 o.c
def Op7.pr (o : Op7) : Pr := ⟨o.r, o.c, o.t, o.l, o.b, o.q⟩
def mayP (p : Pr) : Bool := mayR p.t p.l p.b p.q && mayC p.r p.c
theorem has_mem {P : List Pr} {p : Pr} : hasF (fP p) P = true ↔ p ∈ P := by
  unfold hasF
  rw [List.any_eq_true]
  constructor
  · rintro ⟨x, hx, h0⟩
    rw [(cmpP_zero x p).1 (of_decide_eq_true h0)] at hx
    exact hx
  · intro h
    exact ⟨p, h, decide_eq_true ((cmpP_zero p p).2 rfl)⟩
theorem addB_is {P : List Pr} {p : Pr} : addB P p = true ↔ (mayP p = true ∧ p ∉ P) := by
  unfold addB mayP
  rw [← has_mem]
  cases mayR p.t p.l p.b p.q <;> cases mayC p.r p.c <;> cases hasF (fP p) P <;> simp
theorem addR_srt {P : List Pr} (h : SrtP P) (p : Pr) : SrtP (addR P p) := by
  unfold addR
  split
  · exact addP_srt h p
  · exact h
theorem mem_loP {P : List Pr} {p x : Pr} (h : x ∈ P) (hn : x ≠ p) : x ∈ loF (fP p) P ∨ x ∈ hiF (fP p) P := by
  have hz : ¬ cmpP x p = 0 := fun q => hn ((cmpP_zero x p).1 q)
  by_cases q : cmpP x p < 0
  · exact .inl (List.mem_filter.2 ⟨h, decide_eq_true q⟩)
  · exact .inr (List.mem_filter.2 ⟨h, decide_eq_true (by unfold fP; omega)⟩)
theorem mem_addR {P : List Pr} {p x : Pr} : x ∈ addR P p ↔ (x ∈ P ∨ (x = p ∧ mayP p = true)) := by
  unfold addR
  by_cases h : addB P p = true
  · rw [if_pos h]
    have h2 := addB_is.1 h
    constructor
    · intro hx
      rcases mem_addP hx with q | q
      · exact .inr ⟨q, h2.1⟩
      · exact .inl q
    · rintro (q | ⟨q, _⟩)
      · by_cases e : x = p
        · subst e; exact absurd q h2.2
        · unfold addP
          rcases mem_loP q e with s | s
          · exact List.mem_append_left _ s
          · exact List.mem_append_right _ (List.mem_cons_of_mem _ s)
      · subst q; unfold addP; simp
  · rw [if_neg h]
    constructor
    · exact .inl
    · rintro (q | ⟨q, q2⟩)
      · exact q
      · subst q
        by_cases e : x ∈ P
        · exact e
        · exact absurd (addB_is.2 ⟨q2, e⟩) h
theorem addB_again (P : List Pr) (p : Pr) : addB (addR P p) p = false := by
  cases h : addB (addR P p) p
  · rfl
  · have h2 := addB_is.1 h
    exact absurd (mem_addR.2 (.inr ⟨rfl, h2.1⟩)) h2.2
theorem addR_len {P : List Pr} (h : SrtP P) (p : Pr) : (addR P p).length = P.length + (if addB P p = true then 1 else 0) := by
  unfold addR
  by_cases q : addB P p = true
  · rw [if_pos q, if_pos q]
    refine addP_len h p ?_
    cases e : hasF (fP p) P
    · rfl
    · exact absurd (has_mem.1 e) (addB_is.1 q).2
  · rw [if_neg q, if_neg q]; rfl
theorem remR_srt {P : List Pr} (h : SrtP P) (p : Pr) : SrtP (remR P p) := by
  unfold remR
  split
  · exact dropP_srt h p
  · exact h
theorem mem_remR {P : List Pr} {p x : Pr} : x ∈ remR P p ↔ (x ∈ P ∧ x ≠ p) := by
  unfold remR remB
  by_cases h : hasF (fP p) P = true
  · rw [if_pos h]
    constructor
    · intro hx
      refine ⟨mem_dropP hx, fun e => ?_⟩
      subst e
      unfold dropP at hx
      rcases List.mem_append.1 hx with s | s
      · have h1 : cmpP x x < 0 := of_decide_eq_true (List.mem_filter.1 s).2
        exact cmpP_irr x h1
      · have h1 : 0 < cmpP x x := of_decide_eq_true (List.mem_filter.1 s).2
        have := (cmpP_zero x x).2 rfl
        omega
    · rintro ⟨q, e⟩
      unfold dropP
      rcases mem_loP q e with s | s
      · exact List.mem_append_left _ s
      · exact List.mem_append_right _ s
  · rw [if_neg h]
    constructor
    · intro hx
      exact ⟨hx, fun e => by subst e; exact h (has_mem.2 hx)⟩
    · exact fun q => q.1
theorem remR_len {P : List Pr} (h : SrtP P) (p : Pr) : P.length = (remR P p).length + (if remB P p = true then 1 else 0) := by
  unfold remR remB
  by_cases q : hasF (fP p) P = true
  · rw [if_pos q, if_pos q]
    obtain ⟨x, hx, h0, hlt⟩ := has_idx (h.mono p) q
    have e := drop_has (h.mono p) q
    have := congrArg List.length e
    unfold dropP
    rw [← e]
    simp only [List.length_append, List.length_take, List.length_drop]
    omega
  · rw [if_neg q, if_neg q]; rfl
def addAll (l : List Op7) (P : List Pr) : List Pr := l.foldl (fun P o => addR P o.pr) P
def remAll (l : List Op7) (P : List Pr) : List Pr := l.foldl (fun P o => remR P o.pr) P
theorem addAll_snoc (l : List Op7) (o : Op7) (P : List Pr) : addAll (l ++ [o]) P = addR (addAll l P) o.pr := by unfold addAll; rw [List.foldl_append]; rfl
theorem remAll_snoc (l : List Op7) (o : Op7) (P : List Pr) : remAll (l ++ [o]) P = remR (remAll l P) o.pr := by unfold remAll; rw [List.foldl_append]; rfl
theorem addAll_srt : ∀ (l : List Op7) (P : List Pr), SrtP P → SrtP (addAll l P)
  | [], _, h => h
  | o :: t, P, h => addAll_srt t _ (addR_srt h o.pr)
theorem mem_addAll : ∀ (l : List Op7) (P : List Pr) (x : Pr), x ∈ addAll l P ↔ (x ∈ P ∨ ∃ o ∈ l, x = o.pr ∧ mayP x = true)
  | [], P, x => by simp [addAll]
  | o :: t, P, x => by
    have ih := mem_addAll t (addR P o.pr) x
    show x ∈ addAll t (addR P o.pr) ↔ _
    rw [ih, mem_addR]
    constructor
    · rintro ((h | ⟨h, h2⟩) | ⟨o', h, h2⟩)
      · exact .inl h
      · exact .inr ⟨o, by simp, h, by rw [h]; exact h2⟩
      · exact .inr ⟨o', List.mem_cons_of_mem _ h, h2⟩
    · rintro (h | ⟨o', h, h2, h3⟩)
      · exact .inl (.inl h)
      · rcases List.mem_cons.1 h with rfl | h
        · exact .inl (.inr ⟨h2, by rw [← h2]; exact h3⟩)
        · exact .inr ⟨o', h, h2, h3⟩
theorem addAll_rev (l : List Op7) : addAll l.reverse [] = addAll l [] := by
  refine uniq cmpP_irr cmpP_asy (addAll_srt _ _ List.Pairwise.nil) (addAll_srt _ _ List.Pairwise.nil) (fun x => ?_)
  rw [mem_addAll, mem_addAll]
  simp
theorem mem_remAll : ∀ (l : List Op7) (P : List Pr) (x : Pr), x ∈ remAll l P ↔ (x ∈ P ∧ ∀ o ∈ l, x ≠ o.pr)
  | [], P, x => by simp [remAll]
  | o :: t, P, x => by
    have ih := mem_remAll t (remR P o.pr) x
    show x ∈ remAll t (remR P o.pr) ↔ _
    rw [ih, mem_remR]
    simp only [List.mem_cons]
    constructor
    · rintro ⟨⟨h1, h2⟩, h3⟩
      exact ⟨h1, fun o' q => by rcases q with rfl | q; exact h2; exact h3 o' q⟩
    · rintro ⟨h1, h2⟩
      exact ⟨⟨h1, h2 o (.inl rfl)⟩, fun o' q => h2 o' (.inr q)⟩
theorem remAll_all (l : List Op7) : remAll l (addAll l []) = [] := by
  rw [List.eq_nil_iff_forall_not_mem]
  intro x hx
  obtain ⟨h1, h2⟩ := (mem_remAll l _ x).1 hx
  rcases (mem_addAll l [] x).1 h1 with h | ⟨o, ho, h, _⟩
  · cases h
  · exact h2 o ho h
theorem remAll_srt : ∀ (l : List Op7) (P : List Pr), SrtP P → SrtP (remAll l P)
  | [], _, h => h
  | o :: t, P, h => remAll_srt t _ (remR_srt h o.pr)
theorem addAll_len : ∀ (l : List Op7) (P : List Pr), SrtP P → (addAll l P).length ≤ P.length + l.length
  | [], _, _ => Nat.le_refl _
  | o :: t, P, h => by
    have ih := addAll_len t (addR P o.pr) (addR_srt h o.pr)
    have h2 := addR_len h o.pr
    show (addAll t (addR P o.pr)).length ≤ _
    simp only [List.length_cons]
    split at h2 <;> omega
end Go.Proofs.YtgojnijpjfdocaaGreat
