/- The contract of slices.SortFunc at a row of pointers of one's own, whose order lies in memory aside: sorted, in the same memory. -/
import Derived.Test.YtmajbophgdimlaaKF
import Derived.Test.YtmajbophgdimlaaShelfT
namespace Go.Proofs.Ytmajbophgdimlaa
open Go.RowKit Go.Sort Go.Shelf
set_option linter.all false
def Gr (w w' : World) : Prop := ∃ q os, w' = Go.Sort.grow (w.drewN q) os
theorem Gr.refl (w : World) : Gr w w := ⟨0, #[], by simp [Go.Sort.grow, World.drewN]⟩
theorem Gr.alloc {w W : World} (h : Gr w W) (o : Obj) : Gr w (W.alloc o) := by
  obtain ⟨q, os, rfl⟩ := h
  exact ⟨q, os ++ #[o], by rw [Go.Sort.alloc_eq_grow, Go.Sort.grow_grow]⟩
theorem Gr.drewN {w W : World} (h : Gr w W) (n : Nat) : Gr w (W.drewN n) := by
  obtain ⟨q, os, rfl⟩ := h
  exact ⟨q + n, os, by simp [Go.Sort.grow, World.drewN, Nat.add_assoc]⟩
theorem Gr.drew {w W : World} (h : Gr w W) : Gr w W.drew := h.drewN 1
theorem Gr.trans {a b c : World} (h : Gr a b) (k : Gr b c) : Gr a c := by
  obtain ⟨q, os, rfl⟩ := k
  obtain ⟨q1, os1, rfl⟩ := h
  exact ⟨q1 + q, os1 ++ os, by simp [Go.Sort.grow, World.drewN, Nat.add_assoc, Array.append_assoc]⟩
theorem Gr.below {w w' : World} (h : Gr w w') : Below w.heap.size w w' := by
  obtain ⟨q, os, rfl⟩ := h
  refine ⟨rfl, rfl, rfl, by simp [Go.Sort.grow, World.drewN], fun k hk => ?_⟩
  simp [Go.Sort.grow, World.drewN, Array.getElem?_append_left, hk]
section
variable {α : Type}
theorem flat_of {cs : α → List Value} {sz : Nat} (hc : ∀ x, (cs x).length = sz) {R : List α} {cur : Array Value} (h : ∀ i x j u, R[i]? = some x → (cs x)[j]? = some u → cur[i * sz + j]? = some u) : cur.toList.take (R.length * sz) = flatG cs R := by
  apply List.ext_getElem?
  intro t
  by_cases ht : t < R.length * sz
  · rw [List.getElem?_take_of_lt ht]
    have hsz : 0 < sz := by
      rcases Nat.eq_zero_or_pos sz with h0 | h0
      · rw [h0] at ht; simp at ht
      · exact h0
    have hq : t / sz < R.length := by rw [Nat.div_lt_iff_lt_mul hsz]; exact ht
    have hr : t % sz < sz := Nat.mod_lt _ hsz
    have htt : t = t / sz * sz + t % sz := by rw [Nat.mul_comm]; exact (Nat.div_add_mod t sz).symm
    have hx : R[t / sz]? = some (R[t / sz]'hq) := List.getElem?_eq_getElem hq
    have hj : t % sz < (cs (R[t / sz]'hq)).length := by rw [hc]; exact hr
    have h1 := h _ _ _ _ hx (List.getElem?_eq_getElem hj)
    have h2 := flatG_at hc R _ _ _ hx hr
    rw [← htt] at h1 h2
    rw [h2, List.getElem?_eq_getElem hj]
    simpa using h1
  · rw [List.getElem?_take, if_neg ht, List.getElem?_eq_none]
    rw [flatG_len hc]; omega
def srtL (cf : α → α → Int) (l : List α) : List α := l.mergeSort fun x y => !(ltOf cf) y x
theorem srtL_perm (cf : α → α → Int) (l : List α) : (srtL cf l).Perm l := List.mergeSort_perm l _
theorem srtL_len (cf : α → α → Int) (l : List α) : (srtL cf l).length = l.length := (srtL_perm cf l).length_eq
theorem srtL_srt {cf : α → α → Int} (hO : SWO (ltOf cf)) (l : List α) : (srtL cf l).Pairwise (fun x y => ¬ cf y x < 0) := by
  have h := List.pairwise_mergeSort (le := fun x y => !(ltOf cf) y x) (fun a b c h1 h2 => by
    simp only [Bool.not_eq_true'] at h1 h2 ⊢
    exact hO.ntrans c b a h2 h1) (fun a b => by
    cases h1 : ltOf cf b a
    · simp
    · cases h2 : ltOf cf a b
      · simp
      · have := hO.trans _ _ _ h1 h2
        rw [hO.irrefl] at this
        cases this) l
  exact h.imp (fun hxy => by simpa [ltOf] using hxy)
theorem sort_one (i0 : Inhabited α) {ρ : Ren} (L : SlLaysF.n6 Try.prog ρ) {E : TypeId} (enc : α → Value) (h1 : ∀ x, (enc x).oneCell' = true)
    (cf : α → α → Int) (hO : SWO (ltOf cf)) (hT : ∀ x y, ltOf cf x y = false → ltOf cf y x = false → x = y) (g : Nat) (eg : ∀ args w, (callFunc g args).run Try.prog w = .ok (.enter g args) w)
    {w : World} {base : Nat} {v : Value} {l : List α} (hv : RowG E 1 (fun x => [enc x]) w base v l) (hl : l.length < 4611686018427387904)
    (hcmp : ∀ x y W, w.heap.size ≤ W.heap.size → (∀ k, k < w.heap.size → v.ownBlock ≠ some k → W.heap[k]? = w.heap[k]?) → Calls Try.prog g #[enc x, enc y] W fun e w' => e = .returned (.int .i64 (cf x y)) ∧ Gr W w') :
    Calls Try.prog (ρ.f 6) #[v, .func (.func g) #[] #[]] w fun e w' => e = .returned (.tuple #[]) ∧ RowG E 1 (fun x => [enc x]) w' base v (srtL cf l) ∧ Mut (fun b => v.ownBlock = some b) w w' := by
  have hc : ∀ x : α, ([enc x] : List Value).length = 1 := fun _ => rfl
  rcases hv.two with ⟨rfl, rfl⟩ | ⟨b, cap, cur, rfl, hb, hbl, hg, hlc, hcp, hsz, ht⟩
  · refine (AnyF.slices_SortFunc_none { L with } none 0 _ w).mono ?_
    rintro e w' ⟨rfl, rfl⟩
    exact ⟨rfl, by simpa [srtL] using RowG.nil w', Mut.refl _ _⟩
  · have hcc := row_cellsG hc hg ht
    have hH : Holds enc w b 0 l.toArray := fun j hj => by
      have hj' : j < l.length := by simpa using hj
      refine ⟨?_, fro_row hg⟩
      have q := hcc j l[j] 0 (enc l[j]) (List.getElem?_eq_getElem hj') rfl
      rw [show j * 1 + 0 = 0 + j by omega] at q
      rw [q, getElem!_pos l.toArray j hj]
      rfl
    have hsw : ∀ m os dk, w.heap.size ≤ (sortWorld enc w b 0 m dk os).heap.size ∧ ∀ k, k < w.heap.size → k ≠ b → (sortWorld enc w b 0 m dk os).heap[k]? = w.heap[k]? := fun m os dk => by
      unfold sortWorld putRow
      simp only [grow, mapBlock, heap_ahead]
      refine ⟨by simp, fun k hk hkb => ?_⟩
      rw [Array.getElem?_append_left (by rw [Array.size_modify]; exact hk), Array.getElem?_modify, if_neg (fun q => hkb q.symm)]
    have hcon := Any.slices_SortFunc_total L enc h1 cf hO g #[] b 0 cap l.toArray w eg (fun m os dk _ x y => (hcmp x y _ (hsw m os dk).1 (fun k hk hn => (hsw m os dk).2 k hk (fun q => hn (by rw [q]; rfl)))).mono (by rintro e w' ⟨rfl, q, os', rfl⟩; exact ⟨rfl, q, os', rfl⟩)) hH hbl (by simpa using hl) hT
    refine hcon.mono ?_
    rintro e w' ⟨rfl, n, os, rfl⟩
    have hl' : (srtL cf l).length = l.length := srtL_len cf l
    have ew : sortWorld enc w b 0 n (l.toArray.toList.mergeSort fun x y => !(ltOf cf) y x).toArray os = grow (mapBlock (Go.Sort.ahead w n) b (putCells enc 0 (srtL cf l).toArray)) os := rfl
    rw [ew]
    have hg1 : (grow (mapBlock (Go.Sort.ahead w n) b (putCells enc 0 (srtL cf l).toArray)) os).heap[b]? = some (.cells (putCells enc 0 (srtL cf l).toArray cur) E (0, 0)) := by
      simp only [grow, mapBlock, heap_ahead]
      rw [Array.getElem?_append_left (by rw [Array.size_modify]; exact hbl), Array.getElem?_modify, if_pos rfl, hg]
      rfl
    refine ⟨rfl, ?_, rfl, rfl, rfl, by simp [grow, mapBlock], fun k hk hs => ?_⟩
    · refine RowG.mk hc hl'.symm hb hg1 (by rw [hl']; exact hlc) hcp (by simp [putCells, hsz]) (flat_of hc fun i x j u q1 q2 => ?_)
      have hi : i < l.length := by have := (List.getElem?_eq_some_iff.1 q1).1; omega
      have hj : j < 1 := (List.getElem?_eq_some_iff.1 q2).1
      have hj0 : j = 0 := by omega
      subst hj0
      have hu : u = enc x := Option.some.inj q2.symm
      subst hu
      have hcs : i * 1 + 0 < cur.size := by rw [hsz]; omega
      have hx : (srtL cf l).toArray[i]! = x := by
        have hi2 : i < (srtL cf l).toArray.size := by simpa [hl'] using hi
        rw [getElem!_pos _ i hi2]
        have := (List.getElem?_eq_some_iff.1 q1).2
        simpa using this
      have hcs' : i < cur.size := by omega
      simp only [putCells, Array.getElem?_mapIdx, Nat.zero_le, true_and, Nat.zero_add, Nat.sub_zero, Nat.mul_one, Nat.add_zero, hx]
      rw [Array.getElem?_eq_getElem hcs', Option.map_some, if_pos (by simpa [hl'] using hi)]
    · have hkb : b ≠ k := fun e => hs (by rw [← e]; rfl)
      simp only [grow, mapBlock, heap_ahead]
      rw [Array.getElem?_append_left (by rw [Array.size_modify]; exact hk), Array.getElem?_modify, if_neg hkb]
end
end Go.Proofs.Ytmajbophgdimlaa
