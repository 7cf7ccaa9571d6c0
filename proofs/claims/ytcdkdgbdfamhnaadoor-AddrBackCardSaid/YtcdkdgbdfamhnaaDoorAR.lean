/- Plain facts: what a rectangle's name is read as, and whose name a text is. No program's text is walked here. -/
import Derived.Test.YtcdkdgbdfamhnaaDoorAN
import Derived.Test.YtcdkdgbdfamhnaaDoorN4
namespace Go.Proofs.YtcdkdgbdfamhnaaDoor
open Go.RowKit
set_option linter.all false
theorem mayR_1 {t l b r : Int} (h : mayR t l b r = true) : mayC t l = true := mayC_t (mayR_is h).1
theorem mayR_2 {t l b r : Int} (h : mayR t l b r = true) : mayC b r = true := mayC_t (mayR_is h).2.1
theorem cutA_name {t l b r : Int} (h : mayR t l b r = true) : cutA (nameR t l b r) = nameS t l := by
  rw [nameR_t h]; exact cutA_app _ _ (nameS_no58 (mayR_1 h))
theorem cutB_name {t l b r : Int} (h : mayR t l b r = true) : cutB (nameR t l b r) = nameS b r := by
  rw [nameR_t h]; exact cutB_app _ _ (nameS_no58 (mayR_1 h))
theorem qB_name (t l b r : Int) : qB (nameR t l b r) = mayR t l b r := by
  cases h : mayR t l b r
  · rw [nameR_f h]; decide
  · unfold qB
    rw [cutA_name h, cutB_name h, pB_name, pB_name, pR_name (mayR_1 h), pC_name (mayR_1 h), pR_name (mayR_2 h), pC_name (mayR_2 h), mayR_1 h, mayR_2 h, h]; rfl
theorem q_name {t l b r : Int} (h : mayR t l b r = true) : qT (nameR t l b r) = t ∧ qL (nameR t l b r) = l ∧ qO (nameR t l b r) = b ∧ qR (nameR t l b r) = r := by
  have e : qB (nameR t l b r) = true := by rw [qB_name, h]
  have k := qS e
  rw [k.1, k.2.1, k.2.2.1, k.2.2.2, cutA_name h, cutB_name h]
  exact ⟨pR_name (mayR_1 h), pC_name (mayR_1 h), pR_name (mayR_2 h), pC_name (mayR_2 h)⟩
theorem nameR_size (t l b r : Int) : (nameR t l b r).size ≤ 13 := by
  cases h : mayR t l b r
  · rw [nameR_f h]; decide
  · rw [nameR_t h, ByteArray.size_append, ByteArray.size_append]
    have a := nameS_size t l
    have c := nameS_size b r
    have e : (⟨#[58]⟩ : ByteArray).size = 1 := rfl
    omega
/-- Whatever is read as a rectangle is its name. -/
theorem name_q {s : ByteArray} (h : qB s = true) : nameR (qT s) (qL s) (qO s) (qR s) = s ∧ mayR (qT s) (qL s) (qO s) (qR s) = true := by
  have k := qS h
  unfold qB at h
  simp only [Bool.and_eq_true] at h
  obtain ⟨h1, h2, h3⟩ := h
  rw [k.1, k.2.1, k.2.2.1, k.2.2.2]
  refine ⟨?_, h3⟩
  rw [nameR_t h3, (name_p h1).1, (name_p h2).1]
  by_cases hp : 0 ≤ ptAt s
  · exact cut_back s hp
  · have e : cutB s = ⟨#[]⟩ := by unfold cutB; rw [if_neg hp]
    rw [e, pB_nil] at h2; cases h2
end Go.Proofs.YtcdkdgbdfamhnaaDoor
