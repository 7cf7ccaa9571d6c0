/- What the document's way of reading a text (runs of digits from a place on) has to do with the program's (the text cut at its first point): plain facts on texts, for every text. -/
import Derived.Test.YtkbpjomkbelaaaaDoorParseAny
namespace Go.Proofs.YtkbpjomkbelaaaaDoor
open Go.Shelf Go.RowKit
set_option linter.unusedVariables false
theorem list_at {d : ByteArray} {i : Nat} (h : i < d.size) : d.data.toList[i]? = some d[i] := by
  rw [List.getElem?_eq_getElem (by simpa using h)]; rfl
/-- In d stand k digits from the beginning on, and no more. -/
structure Run (d : ByteArray) (k : Nat) : Prop where
  le : k ≤ d.size
  all : ∀ i, (h : i < d.size) → i < k → isDig d[i] = true
  stop : (h : k < d.size) → isDig d[k] = false
theorem dot_no : isDig 46 = false := by decide
theorem pt_cases (d : ByteArray) : (ptAt d = -1 ∧ ∀ i, (h : i < d.size) → d[i] ≠ 46) ∨ ∃ o : Nat, ptAt d = o ∧ ∃ h : o < d.size, d[o] = 46 ∧ ∀ i, (h : i < d.size) → i < o → d[i] ≠ 46 := by
  by_cases h : ptAt d = -1
  · refine .inl ⟨h, fun i hi he => ?_⟩
    have := Lib.indexByte_none (l := d.data.toList) (c := 46) h i
    rw [list_at hi, he] at this
    exact this rfl
  · have hge := ptAt_ge d
    obtain ⟨o, ho⟩ : ∃ o : Nat, ptAt d = o := ⟨(ptAt d).toNat, by omega⟩
    have hs := Lib.indexByte_some (l := d.data.toList) (c := 46) ho
    have hlt : o < d.size := by have := ptAt_lt d (by omega); omega
    refine .inr ⟨o, ho, hlt, ?_, fun i hi hio he => ?_⟩
    · have := hs.1; rw [list_at hlt] at this; exact Option.some.inj this
    · have := hs.2 i hio; rw [list_at hi, he] at this; exact this rfl
theorem run_end {d : ByteArray} {k : Nat} (r : Run d k) (h : d.size ≤ k) : cutF d = false ∧ cutA d = d ∧ cutB d = ⟨#[]⟩ := by
  rcases pt_cases d with ⟨hp, _⟩ | ⟨o, ho, hlt, he, _⟩
  · refine ⟨by unfold cutF; rw [hp]; rfl, by unfold cutA; rw [hp]; rfl, by unfold cutB; rw [hp]; rfl⟩
  · have := r.all o hlt (by omega)
    rw [he, dot_no] at this; cases this
theorem run_dot {d : ByteArray} {k : Nat} (r : Run d k) (h : k < d.size) (hd : d[k].toNat = 46) : cutF d = true ∧ cutA d = d.extract 0 k ∧ cutB d = d.extract (k + 1) d.size := by
  have hd' : d[k] = 46 := UInt8.toNat_inj.1 hd
  rcases pt_cases d with ⟨hp, hn⟩ | ⟨o, ho, hlt, he, hn⟩
  · exact absurd hd' (hn k h)
  · have hk : o = k := by
      by_cases h1 : o < k
      · have := r.all o hlt h1
        rw [he, dot_no] at this; cases this
      by_cases h2 : k < o
      · exact absurd hd' (hn k h h2)
      · omega
    subst hk
    have h0 : 0 ≤ ptAt d := by omega
    have ht : (ptAt d).toNat = o := by omega
    refine ⟨by unfold cutF; exact decide_eq_true h0, by unfold cutA; rw [if_pos h0, ht], by unfold cutB; rw [if_pos h0, ht]⟩
theorem size_extract0 (d : ByteArray) (o : Nat) (h : o ≤ d.size) : (d.extract 0 o).size = o := by rw [ByteArray.size_extract]; omega
theorem list_extract0 (d : ByteArray) (o : Nat) : (d.extract 0 o).data.toList = d.data.toList.take o := by
  rw [ByteArray.data_extract, Array.toList_extract, List.extract_eq_take_drop]; simp
theorem all_take_false {d : ByteArray} {k o : Nat} (h : k < d.size) (hd : isDig d[k] = false) (hko : k < o) : (d.data.toList.take o).all isDig = false := by
  rw [List.all_eq_false]
  refine ⟨d[k], ?_, by simp [hd]⟩
  have : (d.data.toList.take o)[k]? = some d[k] := by rw [List.getElem?_take, if_pos hko, list_at h]
  exact List.mem_of_getElem? this
theorem run_nd {d : ByteArray} {k : Nat} (r : Run d k) (h : k < d.size) (hd : d[k].toNat ≠ 46) : allDig (cutA d) = false := by
  have hst := r.stop h
  rcases pt_cases d with ⟨hp, hn⟩ | ⟨o, ho, hlt, he, hn⟩
  · have e : cutA d = d := by unfold cutA; rw [hp]; rfl
    rw [e]; exact all_false h hst
  · have hko : k < o := by
      by_cases h1 : o < k
      · have := r.all o hlt h1
        rw [he, dot_no] at this; cases this
      by_cases h2 : o = k
      · subst h2; exact absurd (by rw [he]; rfl) hd
      · omega
    have e : cutA d = d.extract 0 o := by unfold cutA; rw [if_pos (by omega), show (ptAt d).toNat = o by omega]
    rw [e]; unfold allDig
    rw [list_extract0]; exact all_take_false h hst hko
theorem run_all {d : ByteArray} {k : Nat} (r : Run d k) : (d.data.toList.take k).all isDig = true := by
  rw [List.all_eq_true]
  intro x hx
  obtain ⟨i, hi, rfl⟩ := List.mem_iff_getElem.1 hx
  have hik : i < k := by simp at hi; omega
  have hid : i < d.size := by have := r.le; omega
  have : (d.data.toList.take k)[i] = d[i] := by rw [List.getElem_take]; rfl
  rw [this]; exact r.all i hid hik
end Go.Proofs.YtkbpjomkbelaaaaDoor
