/- A cell put into, taken out of a list of cells in order. No function's text is walked here. -/
import Derived.Test.YtgojnijpjfdocaaGreatEO
import Derived.Test.YtgojnijpjfdocaaGreatBP
namespace Go.Proofs.YtgojnijpjfdocaaGreat
open Go.RowKit
set_option linter.all false
def fK (z u : Cl) : Int := cmpK u z
abbrev SrtK (L : List Cl) : Prop := L.Pairwise (fun a b => cmpK a b < 0)
theorem cmpK_neg (x y : Cl) : cmpK x y < 0 ↔ (x.r < y.r ∨ (x.r = y.r ∧ x.c < y.c)) := cmpC_neg _ _ _ _
theorem cmpK_pos (x y : Cl) : 0 < cmpK x y ↔ cmpK y x < 0 := by
  have h1 := cmpK_neg x y
  have h2 := cmpK_neg y x
  have h3 : cmpK x y = 0 ↔ (x.r = y.r ∧ x.c = y.c) := cmpC_zero _ _ _ _
  have h4 : cmpK y x = 0 ↔ (y.r = x.r ∧ y.c = x.c) := cmpC_zero _ _ _ _
  omega
theorem cmpK_tr {x y z : Cl} (h1 : cmpK x y < 0) (h2 : cmpK y z < 0) : cmpK x z < 0 := by rw [cmpK_neg] at *; omega
theorem SrtK.mono {L : List Cl} (h : SrtK L) (z : Cl) : MonoF (fK z) L := h.imp (fun {a b} hab hb => by
  have hb' : cmpK b z ≤ 0 := hb
  show cmpK a z < 0
  by_cases e : cmpK b z < 0
  · exact cmpK_tr hab e
  · have e0 : cmpK b z = 0 := by omega
    rw [cmpK_zero] at e0
    subst e0
    exact hab)
theorem has_K {L : List Cl} {z : Cl} : hasF (fK z) L = true ↔ z ∈ L := by
  unfold hasF
  rw [List.any_eq_true]
  constructor
  · rintro ⟨x, h1, h2⟩
    have : cmpK x z = 0 := of_decide_eq_true h2
    rw [cmpK_zero] at this
    subst this
    exact h1
  · intro h
    exact ⟨z, h, decide_eq_true ((cmpK_zero z z).2 rfl)⟩
def insK (L : List Cl) (z : Cl) : List Cl := L.take (idxF (fK z) L) ++ z :: L.drop (idxF (fK z) L)
def delK (L : List Cl) (z : Cl) : List Cl := L.take (idxF (fK z) L) ++ L.drop (idxF (fK z) L + 1)
theorem insK_mem {L : List Cl} {z u : Cl} : u ∈ insK L z ↔ (u ∈ L ∨ u = z) := by
  unfold insK
  conv => rhs; rw [← List.take_append_drop (idxF (fK z) L) L]
  simp only [List.mem_append, List.mem_cons]
  constructor
  · rintro (h | h | h)
    · exact .inl (.inl h)
    · exact .inr h
    · exact .inl (.inr h)
  · rintro ((h | h) | h)
    · exact .inl h
    · exact .inr (.inr h)
    · exact .inr (.inl h)
theorem insK_srt {L : List Cl} (h : SrtK L) {z : Cl} (hn : z ∉ L) : SrtK (insK L z) := by
  unfold insK
  have h1 := h.mono z
  have hh : hasF (fK z) L = false := by
    cases e : hasF (fK z) L
    · rfl
    · exact absurd (has_K.1 e) hn
  rw [take_idx h1, drop_idx h1, has_no hh]
  refine List.pairwise_append.2 ⟨List.Pairwise.filter _ h, List.pairwise_cons.2 ⟨fun y hy => ?_, List.Pairwise.filter _ h⟩, fun x hx y hy => ?_⟩
  · have := (List.mem_filter.1 hy).2
    have h2 : 0 < cmpK y z := of_decide_eq_true this
    exact (cmpK_pos y z).1 h2
  · have h2 : cmpK x z < 0 := of_decide_eq_true (List.mem_filter.1 hx).2
    rcases List.mem_cons.1 hy with rfl | hy
    · exact h2
    · have h3 : 0 < cmpK y z := of_decide_eq_true (List.mem_filter.1 hy).2
      exact cmpK_tr h2 ((cmpK_pos y z).1 h3)
theorem insK_pos (L : List Cl) (z : Cl) : insK L z ≠ [] := by unfold insK; simp
theorem insK_len (L : List Cl) (z : Cl) : (insK L z).length = L.length + 1 := by
  unfold insK
  have := idxF_le (f := fK z) L
  simp
  omega
theorem delK_is {L : List Cl} (h : SrtK L) {z : Cl} (hm : z ∈ L) : delK L z = loF (fK z) L ++ hiF (fK z) L := drop_has (h.mono z) (has_K.2 hm)
theorem delK_mem {L : List Cl} (h : SrtK L) {z u : Cl} (hm : z ∈ L) : u ∈ delK L z ↔ (u ∈ L ∧ u ≠ z) := by
  rw [delK_is h hm, List.mem_append]
  unfold loF hiF
  simp only [List.mem_filter, decide_eq_true_eq]
  have hz : u = z ↔ fK z u = 0 := (cmpK_zero u z).symm
  constructor
  · rintro (⟨q1, q2⟩ | ⟨q1, q2⟩)
    · exact ⟨q1, fun e => by rw [hz] at e; omega⟩
    · exact ⟨q1, fun e => by rw [hz] at e; omega⟩
  · rintro ⟨q1, q2⟩
    have : ¬ fK z u = 0 := fun e => q2 (hz.2 e)
    by_cases e : fK z u < 0
    · exact .inl ⟨q1, e⟩
    · exact .inr ⟨q1, by omega⟩
theorem delK_srt {L : List Cl} (h : SrtK L) (z : Cl) : SrtK (delK L z) := by
  unfold delK
  refine h.sublist ?_
  conv => rhs; rw [← List.take_append_drop (idxF (fK z) L) L]
  refine List.Sublist.append (List.Sublist.refl _) ?_
  rw [← List.drop_drop]
  exact List.drop_sublist _ _
theorem delK_len {L : List Cl} (z : Cl) : (delK L z).length ≤ L.length := by
  unfold delK
  simp
  omega
end Go.Proofs.YtgojnijpjfdocaaGreat
