/- The contract of slices.SortFunc at rows of one's own: sorted, in the same memory. · The contract of slices.Insert of one thing into a row of its own. The conditions: the place is none beyond the end; the new one lies in another block; no more than 4000000000000 of them. · The contracts of slices.Delete of one thing, slices.Grow of nothing, slices.Concat of one row, and of without. The condition: no more than 4000000000000 of them. -/
import Derived.Test.YtcjanaldjokllaaGreatQECEQ
import Derived.Test.YtcjanaldjokllaaGreatQShelfT
namespace Go.Proofs.YtcjanaldjokllaaGreat
open Go.RowKit Go.Sort Go.Shelf
set_option linter.all false
section
variable {α : Type}
def srtL (cf : α → α → Int) (l : List α) : List α := l.mergeSort fun x y => !(ltOf cf) y x
theorem srtL_perm (cf : α → α → Int) (l : List α) : (srtL cf l).Perm l := List.mergeSort_perm l _
theorem srtL_len (cf : α → α → Int) (l : List α) : (srtL cf l).length = l.length := (srtL_perm cf l).length_eq
theorem srtL_srt {cf : α → α → Int} (hO : SWO (ltOf cf)) (l : List α) : (srtL cf l).Pairwise (fun x y => ¬ cf y x < 0) := by
  have h := List.pairwise_mergeSort (le := fun x y => !(ltOf cf) y x) (fun a b c h1 h2 => by
    simp only [Bool.not_eq_true'] at h1 h2 ⊢
    exact hO.ntrans c b a h2 h1) (fun a b => by
    cases h1 : ltOf cf b a
    · simp
    · cases h2 : ltOf cf a b
      · simp
      · have := hO.trans _ _ _ h1 h2
        rw [hO.irrefl] at this
        cases this) l
  exact h.imp (fun hxy => by simpa [ltOf] using hxy)
theorem flatK_at {cs : α → List Value} {sz : Nat} (i0 : Inhabited α) (hc : ∀ x, (cs x).length = sz) {d : Array α} {t : Nat} (ht : t < d.size * sz) : ∃ x, d.toList[t / sz]? = some x ∧ (cs x)[t % sz]? = some (flatK cs sz d)[t]! ∧ t / sz * sz + t % sz = t := by
  have hsz : 0 < sz := by
    rcases Nat.eq_zero_or_pos sz with h0 | h0
    · rw [h0] at ht; simp at ht
    · exact h0
  have hq : t / sz < d.size := by rw [Nat.div_lt_iff_lt_mul hsz]; exact ht
  have hr : t % sz < sz := Nat.mod_lt _ hsz
  refine ⟨d[t / sz]!, ?_, ?_, by rw [Nat.mul_comm]; exact Nat.div_add_mod t sz⟩
  · rw [Array.getElem?_toList, getElem!_pos d _ hq, Array.getElem?_eq_getElem hq]
  · rw [get_flatK cs sz d t ht, List.getElem?_eq_getElem (by rw [hc]; exact hr)]
    rw [getElem!_pos (cs d[t / sz]!) (t % sz) (by rw [hc]; exact hr)]
theorem sort_row (i0 : Inhabited α) {ρ : Ren} (L : SlLaysF0.n6 Tryz.prog ρ) {E : TypeId} {sz : Nat} {cs : α → List Value} (hc : ∀ x, (cs x).length = sz) (h1 : ∀ x, ∀ u ∈ cs x, u.oneCell' = true) (aE : ∀ w, (isAgg (ρ.t 24)).run Tryz.prog w = .ok true w) (zE : ∀ w, (Go.sizeOf (ρ.t 24)).run Tryz.prog w = .ok sz w)
    (cf : α → α → Int) (hO : SWO (ltOf cf)) (hT : ∀ x y, ltOf cf x y = false → ltOf cf y x = false → x = y) (g : Nat) (eg : ∀ args w, (callFunc g args).run Tryz.prog w = .ok (.enter g args) w)
    (hcmp : ∀ x y W, Calls Tryz.prog g #[.agg (cs x).toArray, .agg (cs y).toArray] W fun e w' => e = .returned (.int .i64 (cf x y)) ∧ Gr W w')
    {w : World} {base : Nat} {v : Value} {l : List α} (hv : RowG E sz cs w base v l) (hl : l.length < 4611686018427387904) :
    Calls Tryz.prog (ρ.f 6) #[v, .func (.func g) #[] #[]] w fun e w' => e = .returned (.tuple #[]) ∧ RowG E sz cs w' base v (srtL cf l) ∧ Mut (fun b => v.ownBlock = some b) w w' := by
  rcases hv.two with ⟨rfl, rfl⟩ | ⟨b, cap, cur, rfl, hb, hbl, hg, hlc, hcp, hsz, ht⟩
  · refine (AnyF.slices_SortFunc_none L none 0 _ w).mono ?_
    rintro e w' ⟨rfl, rfl⟩
    exact ⟨rfl, by simpa [srtL] using RowG.nil w', Mut.refl _ _⟩
  · have hcc := row_cellsG hc hg ht
    have hH : HoldsK cs sz w b 0 l.toArray := fun j hj => by
      rw [size_flatK] at hj
      obtain ⟨x, q1, q2, q3⟩ := flatK_at i0 hc hj
      refine ⟨?_, fro_row hg⟩
      have := hcc _ x _ _ (by simpa using q1) q2
      rw [q3] at this
      rw [Nat.zero_add]
      exact this
    have hcon := AnyQ.slices_SortFunc_total L sz aE zE cs hc h1 cf hO g #[] b 0 cap l.toArray w eg (fun m os dk _ x y => (hcmp x y _).mono (by rintro e w' ⟨rfl, q, os', rfl⟩; exact ⟨rfl, q, os', rfl⟩)) hH hbl (by simpa using hl) hT
    refine hcon.mono ?_
    rintro e w' ⟨rfl, n, os, rfl⟩
    have hl' : (srtL cf l).length = l.length := srtL_len cf l
    have ew : sortWorldK cs sz w b 0 n (l.toArray.toList.mergeSort fun x y => !(ltOf cf) y x).toArray os = grow (mapBlock (Go.Sort.ahead w n) b (putCells id 0 (flatK cs sz (srtL cf l).toArray))) os := rfl
    rw [ew]
    have hg1 : (grow (mapBlock (Go.Sort.ahead w n) b (putCells id 0 (flatK cs sz (srtL cf l).toArray))) os).heap[b]? = some (.cells (putCells id 0 (flatK cs sz (srtL cf l).toArray) cur) E (0, 0)) := by
      simp only [grow, mapBlock, heap_ahead]
      rw [Array.getElem?_append_left (by rw [Array.size_modify]; exact hbl), Array.getElem?_modify, if_pos rfl, hg]
      rfl
    refine ⟨rfl, ?_, rfl, rfl, rfl, by simp [grow, mapBlock], fun k hk hs => ?_⟩
    · refine RowG.mk hc hl'.symm hb hg1 (by rw [hl']; exact hlc) hcp (by simp [putCells, hsz]) (flat_of hc fun i x j u q1 q2 => ?_)
      have hi : i < l.length := by have := (List.getElem?_eq_some_iff.1 q1).1; omega
      have hj : j < sz := by have := (List.getElem?_eq_some_iff.1 q2).1; rwa [hc] at this
      have hlt : i * sz + j < l.length * sz := by have := Nat.mul_le_mul_right sz (show i + 1 ≤ l.length from hi); rw [Nat.add_mul] at this; omega
      have hcs : i * sz + j < cur.size := by rw [hsz]; exact Nat.lt_of_lt_of_le hlt (Nat.mul_le_mul_right _ hlc)
      have hlt2 : i * sz + j < (srtL cf l).toArray.size * sz := by simpa [hl'] using hlt
      have e : (flatK cs sz (srtL cf l).toArray)[i * sz + j]! = u := by
        obtain ⟨z, k1, k2, k3⟩ := flatK_at i0 hc hlt2
        have hd : (i * sz + j) / sz = i := by rw [Nat.mul_comm, Nat.mul_add_div (by omega), Nat.div_eq_of_lt hj, Nat.add_zero]
        have hm : (i * sz + j) % sz = j := by rw [Nat.mul_comm, Nat.mul_add_mod, Nat.mod_eq_of_lt hj]
        rw [hd] at k1
        rw [hm] at k2
        simp at k1
        rw [q1] at k1
        injection k1 with k1
        subst k1
        rw [q2] at k2
        injection k2 with k2
        exact k2.symm
      simp only [putCells, Array.getElem?_mapIdx, Array.getElem?_eq_getElem hcs, Option.map_some, Nat.zero_le, true_and, Nat.zero_add, size_flatK, Nat.sub_zero, id, e]
      rw [if_pos (by simpa [hl'] using hlt)]
    · have hkb : b ≠ k := fun e => hs (by rw [← e]; rfl)
      simp only [grow, mapBlock, heap_ahead]
      rw [Array.getElem?_append_left (by rw [Array.size_modify]; exact hk), Array.getElem?_modify, if_neg hkb]
end
end Go.Proofs.YtcjanaldjokllaaGreat
namespace Go.Proofs.YtcjanaldjokllaaGreat
open Go.RowKit
set_option linter.all false
theorem app_tyc (ty : TypeId) (v x : Value) (w : World) : (Builtin.append_ #[41, 41] ty #[v, x]).run Tryz.prog w = (Builtin.append_ #[41, 41] ty #[v, x]).run Tryz.prog w := by
  unfold Builtin.append_
  have u1 := Tryz.underlying41
  have u2 := Tryz.underlying41
  cases v <;> simp [Sem.run_bind, Sem.run_pure, underlying, u1, u2, Result.andThen_ok]
set_option maxRecDepth 100000 in
set_option maxHeartbeats 4000000 in
theorem ins_endc (w : World) (v : Value) (l : List Cl) (vb : Nat) (x : Cl) (hv : Hid (RowK w v l)) (hl : l.length ≤ 4000000000000) (hvb : Hid (w.heap[vb]? = some (.cells x.cs.toArray 32 (0, 0)))) :
    Calls Tryz.prog 47 #[v, .int .i64 l.length, .slice (some ⟨vb, 0, none⟩) 1 1] w (InsP 32 2 Cl.cs w v (l ++ [x])) := by
  have mixed : Tryz.prog.follows .mixedOrders = true := by kernel_rfl
  obtain ⟨i, hi, hz, hsz, hby⟩ := info_parts infoCl
  have hrun := fun ty => run_append_own_at (P := Tryz.prog) w 0 41 ty 32 i _ 2 16 Tryz.underlying41 hi hz hsz hby rfl (by omega) v l.length (flatG Cl.cs l) hv.out ⟨vb, 0, none⟩ 1 1 x.cs rfl (one_news hvb.out) (Cl.one x) (by unfold maxLen; omega) (by omega) (Nat.zero_le _)
  have HR : Hid (∀ ty, ∃ v' w', (Builtin.append_ #[41, 41] ty #[v, .slice (some ⟨vb, 0, none⟩) 1 1]).run Tryz.prog w = .ok v' w' ∧ InsP 32 2 Cl.cs w v (l ++ [x]) (.returned v') w') := (show _ from fun ty => by
    obtain ⟨v', w', h1, h2, h3, h4, h5⟩ := hrun ty
    refine ⟨v', w', h1, v', rfl, ?_, ?_, ⟨h3.os, h3.tape, h3.output, h3.size, fun k hk hs => h3.block k hk (fun e => hs e.symm)⟩⟩
    · unfold RowG
      rw [flatG_app, List.length_append]
      exact h2
    · rcases h5 with h5 | h5
      · exact .inl h5
      · exact .inr ⟨_, h5, Nat.le_refl _⟩)
  clear hrun hi hz hsz hby
  have hsl : ∃ q cp, v = .slice q l.length cp ∧ l.length ≤ cp ∧ cp ≤ maxLen := by
    rcases hv.out.two with ⟨rfl, rfl⟩ | ⟨g, cap, cur, rfl, _, h1, h2, h3, h4, h5, h6⟩
    · exact ⟨_, _, rfl, Nat.le_refl _, Nat.zero_le _⟩
    · exact ⟨_, _, rfl, h3, h4⟩
  obtain ⟨q, cp, rfl, hc1, hc2⟩ := hsl
  unfold maxLen at hc2
  clear hv
  generalize l.length = n at *
  have HI : Hid (∀ v' w', InsP 32 2 Cl.cs w (.slice q n cp) (l ++ [x]) (.returned v') w' → InsP 32 2 Cl.cs w (.slice q n cp) (l ++ [x]) (.returned v') w') := (show _ from fun _ _ h => h)
  revert HR HI
  generalize InsP 32 2 Cl.cs w (.slice q n cp) (l ++ [x]) = PP
  intro HR HI
  clear i
  have hne0 : ((1 : Int) == 0) = false := rfl
  cases q with
  | none =>
    go_enter Tryz.func47, Tryz.ntmps47
    go_wp2_with (at_builtin; obtain ⟨v', w', hr, hP⟩ := HR.out _; refine wpList_app3 rfl _ _ _ _ rfl _ _ rfl rfl v' w' ((app_tyc _ _ _ _).trans hr) ?_; have hP' : Hid _ := hP; clear hP hr HR)
    all_goals first | exact hP'.out | (go_ret; exact hP'.out)
  | some ad =>
    obtain ⟨ab, ao, asp⟩ := ad
    go_enter Tryz.func47, Tryz.ntmps47
    go_wp2_with (at_builtin; obtain ⟨v', w', hr, hP⟩ := HR.out _; refine wpList_app3 rfl _ _ _ _ rfl _ _ rfl rfl v' w' ((app_tyc _ _ _ _).trans hr) ?_; have hP' : Hid _ := hP; clear hP hr HR)
    all_goals first | exact hP'.out | (go_ret; exact hP'.out)
theorem over_noc (w : World) (vb g lb cb o : Nat) (x : Cl) (cur : Array Value) (hvb : w.heap[vb]? = some (.cells x.cs.toArray 32 (0, 0))) (hg : w.heap[g]? = some (.cells cur 32 (0, 0))) (hne : vb ≠ g) (h0 : cur.size ≠ 0) :
    (callFunc 73 #[.slice (some ⟨vb, 0, none⟩) 1 1, .slice (some ⟨g, o, none⟩) lb cb]).run Tryz.prog w = .ok (.value (.bool false)) w := by
  rw [run_callFunc_extern Tryz.func73 (by kernel_rfl) (by kernel_rfl) (by kernel_rfl) (e := Extern.SlicesOverlaps.overlaps #[41, 41] #[4]) (by kernel_rfl),
    Lib.run_overlaps_apart w 41 4 32 Tryz.underlying41 2 (fun w => by kernel_rfl) ⟨vb, 0, none⟩ ⟨g, o, none⟩ 1 1 lb cb hne 32 32 2 cur.size (by simp [World.shape?, hvb, Cl.len]) (by simp [World.shape?, hg]) h0 (fro_row hvb) (fro_row hvb)]
  rfl
set_option maxRecDepth 100000 in
set_option maxHeartbeats 4000000 in
theorem ins_shiftc (w : World) (g n cp i : Nat) (l : List Cl) (cur : Array Value) (vb : Nat) (x : Cl) (hn : l.length = n) (hi : i < n) (hroom : n + 1 ≤ cp) (hcp : cp ≤ maxLen) (hl : n ≤ 4000000000000) (hg : Hid (w.heap[g]? = some (.cells cur 32 (0, 0)))) (hsz : Hid (cur.size = cp * 2)) (htk : Hid (cur.toList.take (l.length * 2) = flatG Cl.cs l)) (hvb : Hid (w.heap[vb]? = some (.cells x.cs.toArray 32 (0, 0)))) (hne : vb ≠ g) :
    Calls Tryz.prog 47 #[.slice (some ⟨g, 0, none⟩) n cp, .int .i64 i, .slice (some ⟨vb, 0, none⟩) 1 1] w (InsP 32 2 Cl.cs w (.slice (some ⟨g, 0, none⟩) n cp) (l.take i ++ x :: l.drop i)) := by
  have mixed : Tryz.prog.follows .mixedOrders = true := by kernel_rfl
  unfold maxLen at hcp
  have hov : ∀ o lb cb, (callFunc 73 #[.slice (some ⟨vb, 0, none⟩) 1 1, .slice (some ⟨g, o, none⟩) lb cb]).run Tryz.prog w = .ok (.value (.bool false)) w := fun o lb cb => over_noc w vb g lb cb o x cur hvb.out hg.out hne (by rw [hsz.out]; omega)
  have hne1 : ((i : Int) == n) = false := by simp; omega
  have hi' : (i : Int) < n := by omega
  have hci : ¬ (cp = i) := by omega
  have hci1 : ¬ (cp = i + 1) := by omega
  have HN : Hid (l.length = n) := hn
  clear hn
  have hdl : (flatG Cl.cs (l.drop i)).length = (n - i) * 2 := by rw [flatG_len Cl.len, List.length_drop, HN.out]
  have hm1 : Nat.min (n + 1 - i) (n - i) = n - i := by simp only [Nat.min_def]; split <;> omega
  have hm2 : Nat.min 1 (n + 1 - i) = 1 := by simp only [Nat.min_def]; split <;> omega
  have hle : (i + 1) * 2 + (n - i) * 2 ≤ cp * 2 := by omega
  have hsrc : ∀ j u, (flatG Cl.cs (l.drop i))[j]? = some u → w.cell? ((⟨g, i * 2, none⟩ : Addr).add j) = some u := by
    intro j u hj
    rw [add_none, cell_row hg.out]
    rw [flatG_drop Cl.len, List.getElem?_drop, ← htk.out, List.getElem?_take] at hj
    split at hj
    · simpa using hj
    · cases hj
  have hcp1 : ∀ ty dc sc, (Builtin.copy_ #[41, 41] ty #[.slice (some ⟨g, (i + 1) * 2, none⟩) (n - i) dc, .slice (some ⟨g, i * 2, none⟩) (n + 1 - i) sc]).run Tryz.prog w.drew = .ok (goInt ((n - i : Nat) : Int)) (w.drew.setRow g (splice cur.toList ((i + 1) * 2) (flatG Cl.cs (l.drop i))).toArray) := fun ty dc sc => by
    have h := run_copy_rowN (P := Tryz.prog) w.drew 41 41 ty 32 2 g ((i + 1) * 2) (n - i) dc ⟨g, i * 2, none⟩ (n + 1 - i) sc cur 32 (flatG Cl.cs (l.drop i)) Tryz.underlying41 infoClZ hg.out (by rw [hm1, hdl]) hsrc (by rw [hdl, hsz.out]; exact hle) (flatG_one Cl.one _)
    rw [hm1] at h
    exact h
  obtain ⟨C1, hC1⟩ : ∃ C1, C1 = splice cur.toList ((i + 1) * 2) (flatG Cl.cs (l.drop i)) := ⟨_, rfl⟩
  rw [← hC1] at hcp1
  have hl1 : C1.length = cp * 2 := by rw [hC1, length_splice _ _ _ (by rw [hdl, Array.length_toList, hsz.out]; exact hle), Array.length_toList, hsz.out]
  obtain ⟨W1, hW1⟩ : ∃ W1, W1 = w.drew.setRow g C1.toArray := ⟨_, rfl⟩
  have hg1 : W1.heap[g]? = some (.cells C1.toArray 32 (0, 0)) := by rw [hW1]; exact setRow_heap w.drew g cur _ _ _ hg.out
  have hv1 : W1.heap[vb]? = some (.cells x.cs.toArray 32 (0, 0)) := by rw [hW1]; exact (setRow_other w.drew g vb _ hne).trans hvb.out
  have hcp2 : ∀ ty dc, (Builtin.copy_ #[41, 41] ty #[.slice (some ⟨g, i * 2, none⟩) (n + 1 - i) dc, .slice (some ⟨vb, 0, none⟩) 1 1]).run Tryz.prog W1 = .ok (goInt 1) (W1.setRow g (splice C1 (i * 2) x.cs).toArray) := fun ty dc => by
    have h := run_copy_rowN (P := Tryz.prog) W1 41 41 ty 32 2 g (i * 2) (n + 1 - i) dc ⟨vb, 0, none⟩ 1 1 C1.toArray 32 x.cs Tryz.underlying41 infoClZ hg1 (by rw [hm2]; rfl) (one_news hv1) (by simp [Cl.len]; omega) (Cl.one x)
    rw [hm2] at h
    exact h
  have HP : Hid (InsP 32 2 Cl.cs w (.slice (some ⟨g, 0, none⟩) n cp) (l.take i ++ x :: l.drop i) (.returned (.slice (some ⟨g, 0, none⟩) (n + 1) cp)) (W1.setRow g (splice C1 (i * 2) x.cs).toArray)) := by
    have e : splice C1 (i * 2) x.cs = cur.toList.take (i * 2) ++ (x.cs ++ (flatG Cl.cs (l.drop i) ++ cur.toList.drop (i * 2 + 2 + (n - i) * 2))) := by
      have h := (splice_two cur.toList x.cs (flatG Cl.cs (l.drop i)) (i * 2) 2 ((n - i) * 2) rfl hdl (by rw [Array.length_toList, hsz.out]; omega)).1
      rw [hC1, show (i + 1) * 2 = i * 2 + 2 by omega]
      exact h
    refine ⟨_, rfl, RowG.mk Cl.len (by simp [HN.out]; omega) (Nat.zero_le _) (setRow_heap W1 g _ _ _ _ hg1) (by simp [HN.out]; omega) (by unfold maxLen; omega) ?_ ?_, .inl rfl, ?_⟩
    · rw [List.size_toArray, length_splice _ _ _ (by rw [hl1]; simp [Cl.len]; omega), hl1]
    · have e2 : cur.toList.take (i * 2) = flatG Cl.cs (l.take i) := by
        rw [flatG_take Cl.len, ← htk.out, List.take_take, HN.out, Nat.min_eq_left (by omega)]
      rw [List.toList_toArray, e, e2, flatG_app, flatG_cons, ← List.append_assoc, ← List.append_assoc]
      have e3 : (l.take i ++ x :: l.drop i).length * 2 = (flatG Cl.cs (l.take i) ++ x.cs ++ flatG Cl.cs (l.drop i)).length := by
        simp only [List.length_append, flatG_len Cl.len, Cl.len, List.length_cons, List.length_nil]; omega
      rw [e3]
      rw [List.take_left, List.append_assoc]
    · rw [hW1]
      exact Mut.setRow (S := fun k => (Value.slice (some ⟨g, 0, none⟩) n cp).ownBlock = some k) (Mut.setRow (S := fun k => (Value.slice (some ⟨g, 0, none⟩) n cp).ownBlock = some k) (Mut.drew (Mut.refl _ w)) (.inl rfl) _) (.inl rfl) _
  have hw1 : IntKind.i64.wrap ((i : Int) + 1) = (i : Int) + 1 := by rw [IntKind.wrap_i64]; omega
  have hb1 : (0 : Int) ≤ (i : Int) + 1 := by omega
  have hin : i ≤ n := by omega
  have htn : ((i : Int) + 1).toNat = i + 1 := by omega
  have hb3 : (i : Int) ≤ (n : Int) + 1 := by omega
  have HV : Hid _ := hv1
  have HG : Hid _ := hg1
  rw [← hW1] at hcp1
  clear hW1 hC1 hl1 hv1 hg1 hm1 hm2 hsrc hdl hle
  revert HP
  generalize InsP 32 2 Cl.cs w (.slice (some ⟨g, 0, none⟩) n cp) (l.take i ++ x :: l.drop i) = PP
  intro HP
  go_enter Tryz.func47, Tryz.ntmps47
  go_wp2_with (simp only [hov])
  go_region_law (refine step_copyN rfl _ _ 41 41 rfl _ _ (by simp [Act.eval, Act.put]) (by simp [Act.eval, Act.put]) (hcp1 _ _ _) ?_)
  go_wp2_with (at_builtin; refine wpList_copyN _ rfl _ _ 41 41 rfl _ _ rfl rfl (hcp2 _ _) ?_)
  all_goals first | exact HP.out | (go_ret; exact HP.out)
set_option maxRecDepth 100000 in
set_option maxHeartbeats 4000000 in
theorem ins_growc (w : World) (g n cp i : Nat) (l : List Cl) (cur : Array Value) (vb : Nat) (x : Cl) (hn : l.length = n) (hi : i < n) (hnc : n ≤ cp) (hroom : cp < n + 1) (hcp : cp ≤ maxLen) (hl : n ≤ 4000000000000) (hg : Hid (w.heap[g]? = some (.cells cur 32 (0, 0)))) (hsz : Hid (cur.size = cp * 2)) (htk : Hid (cur.toList.take (l.length * 2) = flatG Cl.cs l)) (hvb : Hid (w.heap[vb]? = some (.cells x.cs.toArray 32 (0, 0)))) :
    Calls Tryz.prog 47 #[.slice (some ⟨g, 0, none⟩) n cp, .int .i64 i, .slice (some ⟨vb, 0, none⟩) 1 1] w (InsP 32 2 Cl.cs w (.slice (some ⟨g, 0, none⟩) n cp) (l.take i ++ x :: l.drop i)) := by
  have mixed : Tryz.prog.follows .mixedOrders = true := by kernel_rfl
  unfold maxLen at hcp
  obtain ⟨i0, hi0, hz0, hzs, hzb⟩ := info_parts infoCl
  have hne1 : ((i : Int) == n) = false := by simp; omega
  have hi' : (i : Int) < n := by omega
  have hci : ¬ (cp = i) := by omega
  have HN : Hid (l.length = n) := hn
  clear hn
  have hdl : (flatG Cl.cs (l.drop i)).length = (n - i) * 2 := by rw [flatG_len Cl.len, List.length_drop, HN.out]
  have htl : (flatG Cl.cs (l.take i)).length = i * 2 := by rw [flatG_len Cl.len, List.length_take, HN.out, Nat.min_eq_left (by omega)]
  have hglt : g < w.heap.size := (Array.getElem?_eq_some_iff.1 hg.out).1
  have hvlt : vb < w.heap.size := (Array.getElem?_eq_some_iff.1 hvb.out).1
  have hold : (Builtin.firstCells i0.size i (.slice (some ⟨g, 0, none⟩) i cp)).run Tryz.prog w.drew = .ok (flatG Cl.cs (l.take i)).toArray w.drew := by
    rw [hzs]
    exact run_firstCells_some w.drew 2 i ⟨g, 0, none⟩ i cp (flatG Cl.cs (l.take i)) htl (fun j u hj => by
      rw [add_none, Nat.zero_add, cell_row (w := w.drew) hg.out]
      rw [flatG_take Cl.len, ← htk.out, List.take_take, List.getElem?_take] at hj
      split at hj
      · simpa using hj
      · cases hj)
  have hik : i + (n + 1 - i) = n + 1 := by omega
  obtain ⟨G, hG⟩ : ∃ G, G = grownCap w (n + 1) cp 32 := ⟨_, rfl⟩
  obtain ⟨ROW, hROW⟩ : ∃ ROW : Array Value, ROW = (flatG Cl.cs (l.take i)).toArray ++ Builtin.zeroCells (Value.agg #[.int .i64 0, .int .i64 0]).cells (n + 1 - i) ++ Builtin.zeroCells (Value.agg #[.int .i64 0, .int .i64 0]).cells (G - (n + 1)) := ⟨_, rfl⟩
  obtain ⟨WA, hWA⟩ : ∃ WA, WA = w.drew.alloc (.cells ROW 32) := ⟨_, rfl⟩
  obtain ⟨NB, hNB⟩ : ∃ NB, NB = w.heap.size := ⟨_, rfl⟩
  have hrz : ∀ ty, (Builtin.append_ #[41, 3] ty #[.slice (some ⟨g, 0, none⟩) i cp, .int .i64 ((n : Int) + 1 - (i : Int))]).run Tryz.prog w = .ok (.slice (some ⟨NB, 0, none⟩) (n + 1) G) WA := fun ty => by
    have h := Lib.run_append_grow_zeros w 41 3 ty 32 i0 _ .i64 .i64 Tryz.underlying41 Tryz.underlying3 hi0 hz0 (some ⟨g, 0, none⟩) i cp (flatG Cl.cs (l.take i)) hold (n + 1 - i) (by omega) (by omega) (by omega) (by omega) (by rw [hzb]; omega) (by rw [hzb, hik]; exact growslice_fits hroom (by omega))
    rw [hik, ← hG, ← hROW, ← hWA, ← hNB] at h
    rw [show (n : Int) + 1 - (i : Int) = ((n + 1 - i : Nat) : Int) by omega]
    exact h
  have hGn : n + 1 ≤ G := by rw [hG]; exact grownCap_ge w _ _ _
  have hGm : G ≤ maxLen := by rw [hG]; exact grownCap_le_maxLen w (n + 1) cp _ (by unfold maxLen; omega)
  have hRs : ROW.size = G * 2 := by
    rw [hROW]
    simp only [Array.size_append, List.size_toArray, zero_size, htl]
    simp only [Value.cells]
    simp
    omega
  have hRt : ROW.toList.take (i * 2) = flatG Cl.cs (l.take i) := by
    rw [hROW]
    simp only [Array.toList_append, List.toList_toArray, List.append_assoc]
    exact List.take_left' htl
  have hgA : WA.heap[NB]? = some (.cells ROW 32 (0, 0)) := by rw [hWA, hNB]; exact heap_alloc_new w.drew _
  have hoA : ∀ k, k < w.heap.size → WA.heap[k]? = w.heap[k]? := fun k hk => by rw [hWA]; exact Below.heap_alloc w.drew _ k hk
  have hvA := (hoA vb hvlt).trans hvb.out
  have hm2 : Nat.min 1 (n + 1 - i) = 1 := by simp only [Nat.min_def]; split <;> omega
  have hm1 : Nat.min (n - i) (n - i) = n - i := Nat.min_self _
  obtain ⟨C1, hC1⟩ : ∃ C1, C1 = splice ROW.toList (i * 2) x.cs := ⟨_, rfl⟩
  have hl1 : C1.length = G * 2 := by rw [hC1, length_splice _ _ _ (by simp [hRs, Cl.len]; omega), Array.length_toList, hRs]
  obtain ⟨WB, hWB⟩ : ∃ WB, WB = WA.setRow NB C1.toArray := ⟨_, rfl⟩
  have hcpA : ∀ ty dc, (Builtin.copy_ #[41, 41] ty #[.slice (some ⟨NB, i * 2, none⟩) (n + 1 - i) dc, .slice (some ⟨vb, 0, none⟩) 1 1]).run Tryz.prog WA = .ok (goInt 1) WB := fun ty dc => by
    have h := run_copy_rowN (P := Tryz.prog) WA 41 41 ty 32 2 NB (i * 2) (n + 1 - i) dc ⟨vb, 0, none⟩ 1 1 ROW 32 x.cs Tryz.underlying41 infoClZ hgA (by rw [hm2]; rfl) (one_news hvA) (by rw [hRs]; simp [Cl.len]; omega) (Cl.one x)
    rw [hm2, ← hC1, ← hWB] at h
    exact h
  have hgB : WB.heap[NB]? = some (.cells C1.toArray 32 (0, 0)) := by rw [hWB]; exact setRow_heap WA NB ROW _ _ _ hgA
  have hoB : WB.heap[g]? = some (.cells cur 32 (0, 0)) := by rw [hWB, setRow_other WA NB g _ (by omega), hoA g hglt]; exact hg.out
  obtain ⟨WC, hWC⟩ : ∃ WC, WC = WB.drew.setRow NB (splice C1 ((i + 1) * 2) (flatG Cl.cs (l.drop i))).toArray := ⟨_, rfl⟩
  have hcpB : ∀ ty dc sc, (Builtin.copy_ #[41, 41] ty #[.slice (some ⟨NB, (i + 1) * 2, none⟩) (n - i) dc, .slice (some ⟨g, i * 2, none⟩) (n - i) sc]).run Tryz.prog WB.drew = .ok (goInt ((n - i : Nat) : Int)) WC := fun ty dc sc => by
    have h := run_copy_rowN (P := Tryz.prog) WB.drew 41 41 ty 32 2 NB ((i + 1) * 2) (n - i) dc ⟨g, i * 2, none⟩ (n - i) sc C1.toArray 32 (flatG Cl.cs (l.drop i)) Tryz.underlying41 infoClZ hgB (by rw [hm1, hdl]) (by
      intro j u hj
      rw [add_none, cell_row (w := WB.drew) hoB]
      rw [flatG_drop Cl.len, List.getElem?_drop, ← htk.out, List.getElem?_take] at hj
      split at hj
      · simpa using hj
      · cases hj) (by rw [hdl, List.size_toArray, hl1]; omega) (flatG_one Cl.one _)
    rw [hm1, ← hWC] at h
    exact h
  have HP : Hid (InsP 32 2 Cl.cs w (.slice (some ⟨g, 0, none⟩) n cp) (l.take i ++ x :: l.drop i) (.returned (.slice (some ⟨NB, 0, none⟩) (n + 1) G)) WC) := by
    have e : splice C1 ((i + 1) * 2) (flatG Cl.cs (l.drop i)) = ROW.toList.take (i * 2) ++ (x.cs ++ (flatG Cl.cs (l.drop i) ++ ROW.toList.drop (i * 2 + 2 + (n - i) * 2))) := by
      have h := (splice_two ROW.toList x.cs (flatG Cl.cs (l.drop i)) (i * 2) 2 ((n - i) * 2) rfl hdl (by rw [Array.length_toList, hRs]; omega)).2
      rw [hC1, show (i + 1) * 2 = i * 2 + 2 by omega]
      exact h
    refine ⟨_, rfl, RowG.mk Cl.len (by simp [HN.out]; omega) (Nat.zero_le _) (by rw [hWC]; exact setRow_heap WB.drew NB _ _ _ _ hgB) (by simp [HN.out]; omega) hGm ?_ ?_, .inr ⟨NB, rfl, by omega⟩, ?_⟩
    · rw [List.size_toArray, length_splice _ _ _ (by rw [hl1, hdl]; omega), hl1]
    · rw [List.toList_toArray, e, hRt, flatG_app, flatG_cons, ← List.append_assoc, ← List.append_assoc]
      have e3 : (l.take i ++ x :: l.drop i).length * 2 = (flatG Cl.cs (l.take i) ++ x.cs ++ flatG Cl.cs (l.drop i)).length := by
        simp only [List.length_append, flatG_len Cl.len, Cl.len, List.length_cons, List.length_nil]; omega
      rw [e3]
      rw [List.take_left, List.append_assoc]
    · rw [hWC, hWB, hWA]
      exact Mut.setRow (Mut.drew (Mut.setRow (Mut.alloc (Mut.drew (Mut.refl _ w)) _) (.inr (by omega)) _)) (.inr (by omega)) _
  have hGi : ¬ (G = i) := by omega
  have hGi1 : ¬ (G = i + 1) := by omega
  have hz3 : (cp : Int) < (n : Int) + 1 := by omega
  have hw1 : IntKind.i64.wrap ((i : Int) + 1) = (i : Int) + 1 := by rw [IntKind.wrap_i64]; omega
  have hb1 : (0 : Int) ≤ (i : Int) + 1 := by omega
  have hin : i ≤ n := by omega
  have htn : ((i : Int) + 1).toNat = i + 1 := by omega
  have hb3 : (i : Int) ≤ (n : Int) + 1 := by omega
  have hb4 : (i : Int) ≤ (n : Int) := by omega
  unfold maxLen at hGm
  clear hWC hWB hWA hNB hG hROW hC1 hl1 hgA hgB hoA hoB hvA hm1 hm2 hdl htl hold hik hRs hRt hi0 hz0 hzs hzb i0
  revert HP
  generalize InsP 32 2 Cl.cs w (.slice (some ⟨g, 0, none⟩) n cp) (l.take i ++ x :: l.drop i) = PP
  intro HP
  go_enter Tryz.func47, Tryz.ntmps47
  go_wp2_with (first
    | (at_builtin; refine wpList_app3 rfl _ _ _ _ rfl _ _ rfl rfl _ _ (hrz _) ?_)
    | (at_builtin; refine wpList_copyN _ rfl _ _ 41 41 rfl _ _ rfl rfl (hcpA _ _) ?_))
  go_region_law (refine step_copyN rfl _ _ 41 41 rfl _ _ (by simp [Act.eval, Act.put]) (by simp [Act.eval, Act.put]) (hcpB _ _ _) ?_)
  go_wp2
  all_goals first | exact HP.out | (go_ret; exact HP.out)
/-- slices.Insert, everywhere. -/
theorem ins_anyc (w : World) (v : Value) (l : List Cl) (i : Nat) (vb : Nat) (x : Cl) (hv : RowK w v l) (hi : i ≤ l.length) (hl : l.length ≤ 4000000000000) (hvb : w.heap[vb]? = some (.cells x.cs.toArray 32 (0, 0))) (hne : v.ownBlock ≠ some vb) :
    Calls Tryz.prog 47 #[v, .int .i64 i, .slice (some ⟨vb, 0, none⟩) 1 1] w (InsP 32 2 Cl.cs w v (l.take i ++ x :: l.drop i)) := by
  by_cases e : i = l.length
  · subst e
    rw [List.take_length, List.drop_length]
    exact ins_endc w v l vb x hv hl hvb
  · rcases hv.two with ⟨rfl, rfl⟩ | ⟨g, cap, cur, rfl, _, h1, h2, h3, h4, h5, h6⟩
    · simp at hi e; omega
    · by_cases hr : l.length + 1 ≤ cap
      · exact ins_shiftc w g l.length cap i l cur vb x rfl (by omega) hr h4 hl h2 h5 h6 hvb (fun h => hne (by rw [h]; rfl))
      · exact ins_growc w g l.length cap i l cur vb x rfl (by omega) h3 (by omega) h4 hl h2 h5 h6 hvb
end Go.Proofs.YtcjanaldjokllaaGreat
namespace Go.Proofs.YtcjanaldjokllaaGreat
open Go.RowKit
set_option linter.all false
theorem run_clearc (w : World) (g o n cap : Nat) (cur : Array Value) (hg : w.heap[g]? = some (.cells cur 32 (0, 0))) (hf : o + n * 2 ≤ cur.size) (ty : TypeId) :
    ∃ C : Array Value, (Builtin.clear_ #[41] ty #[.slice (some ⟨g, o, none⟩) n cap]).run Tryz.prog w = .ok (.tuple #[]) (w.setRow g C) ∧ C.size = cur.size ∧ C.toList.take o = cur.toList.take o := by
  by_cases h0 : n = 0
  · subst h0
    refine ⟨cur, ?_, rfl, rfl⟩
    rw [setRow_self w g cur _ (0, 0) hg]
    simp [Builtin.clear_, run_underlying Tryz.underlying41]
  · obtain ⟨i0, hi0, hz0, hzs, hzb⟩ := info_parts infoCl
    obtain ⟨Z, hZ⟩ : ∃ Z : List Value, Z = (Builtin.zeroCells (Value.agg #[.int .i64 0, .int .i64 0]).cells n).toList := ⟨_, rfl⟩
    have hZl : Z.length = n * 2 := by rw [hZ, Array.length_toList, zero_size]; rfl
    have hZ1 : ∀ v ∈ Z, v.oneCell' = true := by
      intro v hv
      rw [hZ] at hv
      simp only [Builtin.zeroCells, Array.toList_map, List.mem_map] at hv
      obtain ⟨j, _, rfl⟩ := hv
      have hj : j % 2 < 2 := Nat.mod_lt _ (by omega)
      have : ∀ k, k < 2 → ((Value.agg #[.int .i64 0, .int .i64 0]).cells[k]!).oneCell' = true := by decide
      exact this _ hj
    have hst := run_storeCells_at Tryz.prog g o 32 Z 0 cur w hg (by simpa [hZl] using hf) hZ1
    simp only [Nat.add_zero] at hst
    refine ⟨(cur.toList.take o ++ Z ++ cur.toList.drop (o + Z.length)).toArray, ?_, ?_, ?_⟩
    · obtain ⟨k, rfl⟩ : ∃ k, n = k + 1 := ⟨n - 1, by omega⟩
      simp [Builtin.clear_, run_underlying Tryz.underlying41, zeroValue, typeInfo, hi0, hz0, ← hZ, hst]
    · simp only [List.size_toArray, List.length_append, List.length_take, List.length_drop, Array.length_toList, hZl]; omega
    · rw [List.toList_toArray, List.append_assoc]; exact List.take_left' (by rw [List.length_take, Array.length_toList]; omega)
theorem step_appc {ops : Array Oper} {o : Oper} {a : Act} {w : World} {K : Act → World → Prop} {Q : Exit → Act → World → Prop} {E : Prop}
    (hg : o.guard = none) (d x : Operand) (dT sT : TypeId) (hop : o.op = Op.call { callee := Callee.builtin Builtin.append, args := #[d, x], argTypes := #[dT, sT] })
    (v u : Value) (hd : a.eval d = v) (hx : a.eval x = u) {v' : Value} {w' : World} (hr : (Builtin.append_ #[dT, sT] o.type #[v, u]).run Tryz.prog w = .ok v' w') (hK : K (a.put o.dst v') w') :
    if Region.wanted o (yielded ops a.tmps) = true then Oper.wp Tryz.prog o a w K Q else E := by
  have hw : Region.wanted o (yielded ops a.tmps) = true := by simp [Region.wanted, hg]
  rw [if_pos hw]
  unfold Oper.wp
  simp [execOp, hop, resolve, invoke, builtin, hd, hx, hr, Result.andThen]
  exact hK
set_option maxRecDepth 100000 in
set_option maxHeartbeats 4000000 in
theorem del_anyc (w : World) (v : Value) (l : List Cl) (i : Nat) (hv : RowK w v l) (hi : i < l.length) (hl : l.length ≤ 4000000000000) :
    Calls Tryz.prog 65 #[v, .int .i64 i, .int .i64 ((i : Int) + 1)] w (InsP 32 2 Cl.cs w v (l.take i ++ l.drop (i + 1))) := by
  have mixed : Tryz.prog.follows .mixedOrders = true := by kernel_rfl
  rcases hv.two with ⟨rfl, rfl⟩ | ⟨g, cap, cur, rfl, _, h1, h2, h3, h4, h5, h6⟩
  · simp at hi
  · obtain ⟨i0, hi0, hz0, hzs, hzb⟩ := info_parts infoCl
    obtain ⟨n, hn⟩ : ∃ n, n = l.length := ⟨_, rfl⟩
    have HN : Hid (n = l.length) := hn
    rw [← hn] at hi hl h3 ⊢
    have HT : Hid (cur.toList.take (l.length * 2) = flatG Cl.cs l) := h6
    clear hn hv h6
    unfold maxLen at h4
    have hdl : (flatG Cl.cs (l.drop (i + 1))).length = (n - (i + 1)) * 2 := by rw [flatG_len Cl.len, List.length_drop, ← HN.out]
    obtain ⟨A, hA⟩ : ∃ A, A = (if cap = i + 1 then (⟨g, 0, none⟩ : Addr) else ⟨g, (i + 1) * 2, none⟩) := ⟨_, rfl⟩
    have hsrc : ∀ j u, (flatG Cl.cs (l.drop (i + 1)))[j]? = some u → w.drew.cell? (A.add j) = some u := by
      intro j u hj
      have hlt := (List.getElem?_eq_some_iff.1 hj).1
      rw [hdl] at hlt
      rw [hA, if_neg (by omega), add_none, cell_row (w := w.drew) h2]
      rw [flatG_drop Cl.len, List.getElem?_drop, ← HT.out, List.getElem?_take] at hj
      split at hj
      · simpa using hj
      · cases hj
    obtain ⟨C1, hC1⟩ : ∃ C : Array Value, C = (cur.toList.take (i * 2) ++ flatG Cl.cs (l.drop (i + 1)) ++ cur.toList.drop (i * 2 + (flatG Cl.cs (l.drop (i + 1))).length)).toArray := ⟨_, rfl⟩
    have hA2 : (if cap = i + 1 then some (⟨g, 0, none⟩ : Addr) else some ⟨g, (i + 1) * 2, none⟩) = some A := by rw [hA]; split <;> rfl
    have hap : ∀ ty c, (Builtin.append_ #[41, 41] ty #[.slice (some ⟨g, 0, none⟩) i cap, .slice (if cap = i + 1 then some (⟨g, 0, none⟩ : Addr) else some ⟨g, (i + 1) * 2, none⟩) (n - (i + 1)) c]).run Tryz.prog w.drew = .ok (.slice (some ⟨g, 0, none⟩) (n - 1) cap) (w.drew.setRow g C1) := fun ty c => by
      have h := run_append_room (P := Tryz.prog) w.drew 41 ty 32 i0 Tryz.underlying41 hi0 g i cap cur h2 A (n - (i + 1)) c (flatG Cl.cs (l.drop (i + 1))) (by rw [hdl, hzs]) hsrc (flatG_one Cl.one _) (by omega) (by rw [hdl, hzs, h5]; omega)
      rw [hzs, ← hC1, show i + (n - (i + 1)) = n - 1 by omega] at h
      rw [hA2]
      exact h
    have hC1s : C1.size = cap * 2 := by
      rw [hC1]
      simp only [List.size_toArray, List.length_append, List.length_take, List.length_drop, Array.length_toList, hdl, h5]; omega
    have hC1t : C1.toList.take ((n - 1) * 2) = flatG Cl.cs (l.take i ++ l.drop (i + 1)) := by
      have e0 : cur.toList.take (i * 2) = flatG Cl.cs (l.take i) := by
        rw [flatG_take Cl.len, ← HT.out, List.take_take, Nat.min_eq_left (by rw [← HN.out]; omega)]
      rw [hC1, List.toList_toArray, e0, flatG_app]
      exact List.take_left' (by rw [List.length_append, hdl, flatG_len Cl.len, List.length_take, ← HN.out, Nat.min_eq_left (by omega)]; omega)
    obtain ⟨W1, hW1⟩ : ∃ W, W = w.drew.setRow g C1 := ⟨_, rfl⟩
    have hg1 : W1.heap[g]? = some (.cells C1 32 (0, 0)) := by rw [hW1]; exact setRow_heap w.drew g cur _ _ _ h2
    have hcl := fun ty c => run_clearc W1 g ((n - 1) * 2) 1 c C1 hg1 (by rw [hC1s]; omega) ty
    have HCL : Hid (∀ ty c, ∃ W2, (Builtin.clear_ #[41] ty #[.slice (some ⟨g, (n - 1) * 2, none⟩) (n - (n - 1)) c]).run Tryz.prog W1 = .ok (.tuple #[]) W2 ∧ InsP 32 2 Cl.cs w (.slice (some ⟨g, 0, none⟩) n cap) (l.take i ++ l.drop (i + 1)) (.returned (.slice (some ⟨g, 0, none⟩) (n - 1) cap)) W2) := (show _ from fun ty c => by
      obtain ⟨C2, k1, k2, k3⟩ := hcl ty c
      rw [show n - (n - 1) = 1 by omega]
      refine ⟨_, k1, _, rfl, RowG.mk Cl.len (by simp [← HN.out]; omega) (Nat.zero_le _) (setRow_heap W1 g _ _ _ _ hg1) (by simp [← HN.out]; omega) (by unfold maxLen; omega) (by rw [k2, hC1s]) ?_, .inl rfl, ?_⟩
      · rw [show (l.take i ++ l.drop (i + 1)).length = n - 1 by simp [← HN.out]; omega, k3, hC1t]
      · rw [hW1]
        exact Mut.setRow (S := fun k => (Value.slice (some ⟨g, 0, none⟩) n cap).ownBlock = some k) (Mut.setRow (S := fun k => (Value.slice (some ⟨g, 0, none⟩) n cap).ownBlock = some k) (Mut.drew (Mut.refl _ w)) (.inl rfl) _) (.inl rfl) _)
    rw [← hW1] at hap
    clear hA2 hA hC1 hC1s hC1t hcl hg1 hsrc hdl hi0 hz0 hzs hzb i0 hW1
    revert HCL
    generalize InsP 32 2 Cl.cs w (.slice (some ⟨g, 0, none⟩) n cap) (l.take i ++ l.drop (i + 1)) = PP
    intro HCL
    obtain ⟨W2, hr, hP⟩ := HCL.out 0 (cap - (n - 1))
    have HP : Hid _ := hP
    clear hP HCL
    have e1 : (i : Int) ≤ (i : Int) + 1 := by omega
    have e2 : (i : Int) + 1 ≤ (n : Int) := by omega
    have e3 : (n : Int) ≤ (cap : Int) := by omega
    have e4 : ((i : Int) == (i : Int) + 1) = false := by simp; omega
    have e5 : ((i : Int) + 1).toNat = i + 1 := by omega
    have e6 : (0 : Int) ≤ (i : Int) + 1 := by omega
    have e7 : ¬ (n = i) := by omega
    have e8 : (i : Int) ≤ (n : Int) := by omega
    have e9 : (i : Int) ≤ (cap : Int) := by omega
    have e10 : ¬ (cap = n - 1) := by omega
    have e11 : ((n - 1 : Nat) : Int) ≤ (n : Int) := by omega
    have e12 : (i : Int) + 1 ≤ (cap : Int) := by omega
    go_enter Tryz.func65, Tryz.ntmps65
    go_wp2
    go_region_law? (refine step_appc rfl _ _ 41 41 rfl (.slice (some ⟨g, 0, none⟩) i cap) (.slice (if cap = i + 1 then some (⟨g, 0, none⟩ : Addr) else some ⟨g, (i + 1) * 2, none⟩) (n - (i + 1)) (cap - (i + 1))) (by simp [Act.eval, Act.put]) (by simp [Act.eval, Act.put]) (hap _ _) ?_)
    all_goals go_wp2
    all_goals first | exact HP.out | (subst_vars; exact HP.out) | (go_ret; exact HP.out)
end Go.Proofs.YtcjanaldjokllaaGreat
