/- Plain facts: what a name is read as, and whose name a text is (cells, rectangles). No program's text is walked here. -/
import Derived.Test.YtcdkdgbdfamhnaaN2
import Derived.Test.YtcdkdgbdfamhnaaP3
namespace Go.Proofs.Ytcdkdgbdfamhnaa
open Go.RowKit
set_option linter.all false
theorem bytes_ext {s t : ByteArray} (h : s.data.toList = t.data.toList) : s = t := by
  obtain ⟨⟨x⟩⟩ := s
  obtain ⟨⟨y⟩⟩ := t
  simp at h
  rw [h]
theorem mayN_of {r c : Int} (h : mayC r c = true) : mayN r.toNat c.toNat := by
  have k := mayC_is h
  unfold mayN; omega
theorem mayC_of {r c : Nat} (h : mayN r c) : mayC (r : Int) (c : Int) = true := by
  unfold mayN at h
  exact mayC_t (by omega)
theorem nameS_list {r c : Int} (h : mayC r c = true) : (nameS r c).data.toList = colL c.toNat ++ rowL r.toNat := by
  rw [nameS_t h]
  have k := mayC_is h
  unfold colS digS
  rw [app_list, rowL_pos (by omega)]
theorem pO_name {r c : Int} (h : mayC r c = true) : pO (nameS r c) = some (r.toNat, c.toNat) := by
  unfold pO
  rw [nameS_list h]
  exact pst_name _ _ (mayN_of h)
theorem pO_nil : pO ⟨#[]⟩ = none := by decide
theorem pB_name (r c : Int) : pB (nameS r c) = mayC r c := by
  cases h : mayC r c
  · rw [nameS_f h]; rfl
  · unfold pB; rw [pO_name h]; rfl
theorem pR_name {r c : Int} (h : mayC r c = true) : pR (nameS r c) = r := by
  have k := mayC_is h
  rw [(pS (pO_name h)).1]; omega
theorem pC_name {r c : Int} (h : mayC r c = true) : pC (nameS r c) = c := by
  have k := mayC_is h
  rw [(pS (pO_name h)).2.1]; omega
/-- Whatever is read as a cell is its name. -/
theorem name_p {s : ByteArray} (h : pB s = true) : nameS (pR s) (pC s) = s ∧ mayC (pR s) (pC s) = true := by
  unfold pB at h
  obtain ⟨⟨r, c⟩, hO⟩ := Option.isSome_iff_exists.1 h
  have e := pS hO
  have k := (pst_is s.data.toList r c).1 hO
  have hm : mayC (pR s) (pC s) = true := by rw [e.1, e.2.1]; exact mayC_of k.1
  refine ⟨bytes_ext ?_, hm⟩
  rw [nameS_list hm, e.1, e.2.1]
  simpa using k.2
theorem p_no {s : ByteArray} (h : pB s = false) (r c : Int) (hm : mayC r c = true) : nameS r c ≠ s := by
  intro e
  subst e
  rw [pB_name, hm] at h
  cases h
theorem idx_app : ∀ (a b : List UInt8), (∀ x ∈ a, x ≠ 58) → Lib.indexByte (a ++ 58 :: b) 58 = a.length
  | [], b, _ => by simp [Lib.indexByte]
  | x :: a, b, h => by
    have ih := idx_app a b (fun y hy => h y (List.mem_cons_of_mem _ hy))
    have hx : x ≠ 58 := h x List.mem_cons_self
    simp [Lib.indexByte, hx, ih]
theorem nameS_no58 {r c : Int} (h : mayC r c = true) : ∀ x ∈ (nameS r c).data.toList, x ≠ 58 := by
  intro x hx
  rw [nameS_list h] at hx
  exact name_mem _ _ (mayN_of h) x hx
theorem cut_list (a b : ByteArray) : (a ++ (⟨#[58]⟩ : ByteArray) ++ b).data.toList = a.data.toList ++ 58 :: b.data.toList := by simp
theorem pt_app (a b : ByteArray) (h : ∀ x ∈ a.data.toList, x ≠ 58) : ptAt (a ++ (⟨#[58]⟩ : ByteArray) ++ b) = a.size := by
  unfold ptAt
  rw [cut_list, idx_app _ _ h]; simp
theorem cutA_app (a b : ByteArray) (h : ∀ x ∈ a.data.toList, x ≠ 58) : cutA (a ++ (⟨#[58]⟩ : ByteArray) ++ b) = a := by
  have e := pt_app a b h
  unfold cutA
  rw [if_pos (by rw [e]; omega), e]
  apply bytes_ext
  rw [ByteArray.data_extract, Array.toList_extract, cut_list]
  simp
theorem cutB_app (a b : ByteArray) (h : ∀ x ∈ a.data.toList, x ≠ 58) : cutB (a ++ (⟨#[58]⟩ : ByteArray) ++ b) = b := by
  have e := pt_app a b h
  have h1 : (⟨#[58]⟩ : ByteArray).size = 1 := rfl
  unfold cutB
  rw [if_pos (by rw [e]; omega), e]
  apply bytes_ext
  rw [ByteArray.data_extract, Array.toList_extract, cut_list, show a.data.toList ++ 58 :: b.data.toList = (a.data.toList ++ [58]) ++ b.data.toList by simp]
  simp only [List.extract_eq_take_drop]
  rw [List.drop_left' (by simp), List.take_of_length_le (by simp [h1])]
theorem pB_nil : pB ⟨#[]⟩ = false := by decide
/-- A text that has a colon is what stands around the first one. -/
theorem cut_back (s : ByteArray) (h : 0 ≤ ptAt s) : cutA s ++ (⟨#[58]⟩ : ByteArray) ++ cutB s = s := by
  have hlt := ptAt_lt s h
  have e : Lib.indexByte s.data.toList 58 = ((ptAt s).toNat : Nat) := by show ptAt s = _; omega
  have h1 := (Lib.indexByte_some e).1
  unfold cutA cutB
  rw [if_pos h, if_pos h]
  generalize (ptAt s).toNat = k at *
  apply bytes_ext
  rw [cut_list, ByteArray.data_extract, ByteArray.data_extract, Array.toList_extract, Array.toList_extract]
  obtain ⟨hk, h2⟩ := List.getElem?_eq_some_iff.1 h1
  have h3 : s.data.toList.drop k = 58 :: s.data.toList.drop (k + 1) := by rw [List.drop_eq_getElem_cons hk, h2]
  have h4 : s.data.toList.length = s.size := by simp
  simp only [List.extract_eq_take_drop, Nat.sub_zero, List.drop_zero]
  rw [List.take_of_length_le (l := s.data.toList.drop (k + 1)) (by simp), ← h3, List.take_append_drop]
end Go.Proofs.Ytcdkdgbdfamhnaa
