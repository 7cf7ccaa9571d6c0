/- The contract of slices.SortFunc at rows of one's own: sorted, in the same memory. -/
import Derived.Test.YtgojnijpjfdocaaGreatEQ
import Derived.Test.YtgojnijpjfdocaaGreatShelfT
namespace Go.Proofs.YtgojnijpjfdocaaGreat
open Go.RowKit Go.Sort Go.Shelf
set_option linter.all false
section
variable {α : Type}
def srtL (cf : α → α → Int) (l : List α) : List α := l.mergeSort fun x y => !(ltOf cf) y x
theorem srtL_perm (cf : α → α → Int) (l : List α) : (srtL cf l).Perm l := List.mergeSort_perm l _
theorem srtL_len (cf : α → α → Int) (l : List α) : (srtL cf l).length = l.length := (srtL_perm cf l).length_eq
theorem srtL_srt {cf : α → α → Int} (hO : SWO (ltOf cf)) (l : List α) : (srtL cf l).Pairwise (fun x y => ¬ cf y x < 0) := by
  have h := List.pairwise_mergeSort (le := fun x y => !(ltOf cf) y x) (fun a b c h1 h2 => by
    simp only [Bool.not_eq_true'] at h1 h2 ⊢
    exact hO.ntrans c b a h2 h1) (fun a b => by
    cases h1 : ltOf cf b a
    · simp
    · cases h2 : ltOf cf a b
      · simp
      · have := hO.trans _ _ _ h1 h2
        rw [hO.irrefl] at this
        cases this) l
  exact h.imp (fun hxy => by simpa [ltOf] using hxy)
theorem flatK_at {cs : α → List Value} {sz : Nat} (i0 : Inhabited α) (hc : ∀ x, (cs x).length = sz) {d : Array α} {t : Nat} (ht : t < d.size * sz) : ∃ x, d.toList[t / sz]? = some x ∧ (cs x)[t % sz]? = some (flatK cs sz d)[t]! ∧ t / sz * sz + t % sz = t := by
  have hsz : 0 < sz := by
    rcases Nat.eq_zero_or_pos sz with h0 | h0
    · rw [h0] at ht; simp at ht
    · exact h0
  have hq : t / sz < d.size := by rw [Nat.div_lt_iff_lt_mul hsz]; exact ht
  have hr : t % sz < sz := Nat.mod_lt _ hsz
  refine ⟨d[t / sz]!, ?_, ?_, by rw [Nat.mul_comm]; exact Nat.div_add_mod t sz⟩
  · rw [Array.getElem?_toList, getElem!_pos d _ hq, Array.getElem?_eq_getElem hq]
  · rw [get_flatK cs sz d t ht, List.getElem?_eq_getElem (by rw [hc]; exact hr)]
    rw [getElem!_pos (cs d[t / sz]!) (t % sz) (by rw [hc]; exact hr)]
theorem sort_row (i0 : Inhabited α) {ρ : Ren} (L : SlLaysF0.n6 Tryz.prog ρ) {E : TypeId} {sz : Nat} {cs : α → List Value} (hc : ∀ x, (cs x).length = sz) (h1 : ∀ x, ∀ u ∈ cs x, u.oneCell' = true) (aE : ∀ w, (isAgg (ρ.t 24)).run Tryz.prog w = .ok true w) (zE : ∀ w, (Go.sizeOf (ρ.t 24)).run Tryz.prog w = .ok sz w)
    (cf : α → α → Int) (hO : SWO (ltOf cf)) (hT : ∀ x y, ltOf cf x y = false → ltOf cf y x = false → x = y) (g : Nat) (eg : ∀ args w, (callFunc g args).run Tryz.prog w = .ok (.enter g args) w)
    (hcmp : ∀ x y W, Calls Tryz.prog g #[.agg (cs x).toArray, .agg (cs y).toArray] W fun e w' => e = .returned (.int .i64 (cf x y)) ∧ Gr W w')
    {w : World} {base : Nat} {v : Value} {l : List α} (hv : RowG E sz cs w base v l) (hl : l.length < 4611686018427387904) :
    Calls Tryz.prog (ρ.f 6) #[v, .func (.func g) #[] #[]] w fun e w' => e = .returned (.tuple #[]) ∧ RowG E sz cs w' base v (srtL cf l) ∧ Mut (fun b => v.ownBlock = some b) w w' := by
  rcases hv.two with ⟨rfl, rfl⟩ | ⟨b, cap, cur, rfl, hb, hbl, hg, hlc, hcp, hsz, ht⟩
  · refine (AnyF.slices_SortFunc_none L none 0 _ w).mono ?_
    rintro e w' ⟨rfl, rfl⟩
    exact ⟨rfl, by simpa [srtL] using RowG.nil w', Mut.refl _ _⟩
  · have hcc := row_cellsG hc hg ht
    have hH : HoldsK cs sz w b 0 l.toArray := fun j hj => by
      rw [size_flatK] at hj
      obtain ⟨x, q1, q2, q3⟩ := flatK_at i0 hc hj
      refine ⟨?_, fro_row hg⟩
      have := hcc _ x _ _ (by simpa using q1) q2
      rw [q3] at this
      rw [Nat.zero_add]
      exact this
    have hcon := AnyQ.slices_SortFunc_total L sz aE zE cs hc h1 cf hO g #[] b 0 cap l.toArray w eg (fun m os dk _ x y => (hcmp x y _).mono (by rintro e w' ⟨rfl, q, os', rfl⟩; exact ⟨rfl, q, os', rfl⟩)) hH hbl (by simpa using hl) hT
    refine hcon.mono ?_
    rintro e w' ⟨rfl, n, os, rfl⟩
    have hl' : (srtL cf l).length = l.length := srtL_len cf l
    have ew : sortWorldK cs sz w b 0 n (l.toArray.toList.mergeSort fun x y => !(ltOf cf) y x).toArray os = grow (mapBlock (Go.Sort.ahead w n) b (putCells id 0 (flatK cs sz (srtL cf l).toArray))) os := rfl
    rw [ew]
    have hg1 : (grow (mapBlock (Go.Sort.ahead w n) b (putCells id 0 (flatK cs sz (srtL cf l).toArray))) os).heap[b]? = some (.cells (putCells id 0 (flatK cs sz (srtL cf l).toArray) cur) E (0, 0)) := by
      simp only [grow, mapBlock, heap_ahead]
      rw [Array.getElem?_append_left (by rw [Array.size_modify]; exact hbl), Array.getElem?_modify, if_pos rfl, hg]
      rfl
    refine ⟨rfl, ?_, rfl, rfl, rfl, by simp [grow, mapBlock], fun k hk hs => ?_⟩
    · refine RowG.mk hc hl'.symm hb hg1 (by rw [hl']; exact hlc) hcp (by simp [putCells, hsz]) (flat_of hc fun i x j u q1 q2 => ?_)
      have hi : i < l.length := by have := (List.getElem?_eq_some_iff.1 q1).1; omega
      have hj : j < sz := by have := (List.getElem?_eq_some_iff.1 q2).1; rwa [hc] at this
      have hlt : i * sz + j < l.length * sz := by have := Nat.mul_le_mul_right sz (show i + 1 ≤ l.length from hi); rw [Nat.add_mul] at this; omega
      have hcs : i * sz + j < cur.size := by rw [hsz]; exact Nat.lt_of_lt_of_le hlt (Nat.mul_le_mul_right _ hlc)
      have hlt2 : i * sz + j < (srtL cf l).toArray.size * sz := by simpa [hl'] using hlt
      have e : (flatK cs sz (srtL cf l).toArray)[i * sz + j]! = u := by
        obtain ⟨z, k1, k2, k3⟩ := flatK_at i0 hc hlt2
        have hd : (i * sz + j) / sz = i := by rw [Nat.mul_comm, Nat.mul_add_div (by omega), Nat.div_eq_of_lt hj, Nat.add_zero]
        have hm : (i * sz + j) % sz = j := by rw [Nat.mul_comm, Nat.mul_add_mod, Nat.mod_eq_of_lt hj]
        rw [hd] at k1
        rw [hm] at k2
        simp at k1
        rw [q1] at k1
        injection k1 with k1
        subst k1
        rw [q2] at k2
        injection k2 with k2
        exact k2.symm
      simp only [putCells, Array.getElem?_mapIdx, Array.getElem?_eq_getElem hcs, Option.map_some, Nat.zero_le, true_and, Nat.zero_add, size_flatK, Nat.sub_zero, id, e]
      rw [if_pos (by simpa [hl'] using hlt)]
    · have hkb : b ≠ k := fun e => hs (by rw [← e]; rfl)
      simp only [grow, mapBlock, heap_ahead]
      rw [Array.getElem?_append_left (by rw [Array.size_modify]; exact hk), Array.getElem?_modify, if_neg hkb]
end
end Go.Proofs.YtgojnijpjfdocaaGreat
