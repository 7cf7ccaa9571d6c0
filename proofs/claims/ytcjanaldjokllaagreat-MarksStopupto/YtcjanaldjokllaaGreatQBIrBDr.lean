/- The contract of slices.Insert of one thing into a row of its own. The conditions: the place is none beyond the end; the new one lies in another block; no more than 4000000000000 of them. · The contracts of slices.Delete of one thing, slices.Grow of nothing, slices.Concat of one row, and of without. The condition: no more than 4000000000000 of them. -/
import Derived.Test.YtcjanaldjokllaaGreatQA5BMBE
namespace Go.Proofs.YtcjanaldjokllaaGreat
open Go.RowKit
set_option linter.all false
theorem app_tyr (ty : TypeId) (v x : Value) (w : World) : (Builtin.append_ #[123, 123] ty #[v, x]).run Tryz.prog w = (Builtin.append_ #[123, 123] ty #[v, x]).run Tryz.prog w := by
  unfold Builtin.append_
  have u1 := Tryz.underlying123
  have u2 := Tryz.underlying123
  cases v <;> simp [Sem.run_bind, Sem.run_pure, underlying, u1, u2, Result.andThen_ok]
set_option maxRecDepth 100000 in
set_option maxHeartbeats 4000000 in
theorem ins_endr (w : World) (v : Value) (l : List Rct) (vb : Nat) (x : Rct) (hv : Hid (RowR w v l)) (hl : l.length ≤ 4000000000000) (hvb : Hid (w.heap[vb]? = some (.cells x.cs.toArray 51 (0, 0)))) :
    Calls Tryz.prog 105 #[v, .int .i64 l.length, .slice (some ⟨vb, 0, none⟩) 1 1] w (InsP 51 4 Rct.cs w v (l ++ [x])) := by
  have mixed : Tryz.prog.follows .mixedOrders = true := by kernel_rfl
  obtain ⟨i, hi, hz, hsz, hby⟩ := info_parts infoRct
  have hrun := fun ty => run_append_own_at (P := Tryz.prog) w 0 123 ty 51 i _ 4 32 Tryz.underlying123 hi hz hsz hby rfl (by omega) v l.length (flatG Rct.cs l) hv.out ⟨vb, 0, none⟩ 1 1 x.cs rfl (one_news hvb.out) (Rct.one x) (by unfold maxLen; omega) (by omega) (Nat.zero_le _)
  have HR : Hid (∀ ty, ∃ v' w', (Builtin.append_ #[123, 123] ty #[v, .slice (some ⟨vb, 0, none⟩) 1 1]).run Tryz.prog w = .ok v' w' ∧ InsP 51 4 Rct.cs w v (l ++ [x]) (.returned v') w') := (show _ from fun ty => by
    obtain ⟨v', w', h1, h2, h3, h4, h5⟩ := hrun ty
    refine ⟨v', w', h1, v', rfl, ?_, ?_, ⟨h3.os, h3.tape, h3.output, h3.size, fun k hk hs => h3.block k hk (fun e => hs e.symm)⟩⟩
    · unfold RowG
      rw [flatG_app, List.length_append]
      exact h2
    · rcases h5 with h5 | h5
      · exact .inl h5
      · exact .inr ⟨_, h5, Nat.le_refl _⟩)
  clear hrun hi hz hsz hby
  have hsl : ∃ q cp, v = .slice q l.length cp ∧ l.length ≤ cp ∧ cp ≤ maxLen := by
    rcases hv.out.two with ⟨rfl, rfl⟩ | ⟨g, cap, cur, rfl, _, h1, h2, h3, h4, h5, h6⟩
    · exact ⟨_, _, rfl, Nat.le_refl _, Nat.zero_le _⟩
    · exact ⟨_, _, rfl, h3, h4⟩
  obtain ⟨q, cp, rfl, hc1, hc2⟩ := hsl
  unfold maxLen at hc2
  clear hv
  generalize l.length = n at *
  have HI : Hid (∀ v' w', InsP 51 4 Rct.cs w (.slice q n cp) (l ++ [x]) (.returned v') w' → InsP 51 4 Rct.cs w (.slice q n cp) (l ++ [x]) (.returned v') w') := (show _ from fun _ _ h => h)
  revert HR HI
  generalize InsP 51 4 Rct.cs w (.slice q n cp) (l ++ [x]) = PP
  intro HR HI
  clear i
  have hne0 : ((1 : Int) == 0) = false := rfl
  cases q with
  | none =>
    go_enter Tryz.func105, Tryz.ntmps105
    go_wp2_with (at_builtin; obtain ⟨v', w', hr, hP⟩ := HR.out _; refine wpList_app3 rfl _ _ _ _ rfl _ _ rfl rfl v' w' ((app_tyr _ _ _ _).trans hr) ?_; have hP' : Hid _ := hP; clear hP hr HR)
    all_goals first | exact hP'.out | (go_ret; exact hP'.out)
  | some ad =>
    obtain ⟨ab, ao, asp⟩ := ad
    go_enter Tryz.func105, Tryz.ntmps105
    go_wp2_with (at_builtin; obtain ⟨v', w', hr, hP⟩ := HR.out _; refine wpList_app3 rfl _ _ _ _ rfl _ _ rfl rfl v' w' ((app_tyr _ _ _ _).trans hr) ?_; have hP' : Hid _ := hP; clear hP hr HR)
    all_goals first | exact hP'.out | (go_ret; exact hP'.out)
theorem over_nor (w : World) (vb g lb cb o : Nat) (x : Rct) (cur : Array Value) (hvb : w.heap[vb]? = some (.cells x.cs.toArray 51 (0, 0))) (hg : w.heap[g]? = some (.cells cur 51 (0, 0))) (hne : vb ≠ g) (h0 : cur.size ≠ 0) :
    (callFunc 124 #[.slice (some ⟨vb, 0, none⟩) 1 1, .slice (some ⟨g, o, none⟩) lb cb]).run Tryz.prog w = .ok (.value (.bool false)) w := by
  rw [run_callFunc_extern Tryz.func124 (by kernel_rfl) (by kernel_rfl) (by kernel_rfl) (e := Extern.SlicesOverlaps.overlaps #[123, 123] #[4]) (by kernel_rfl),
    Lib.run_overlaps_apart w 123 4 51 Tryz.underlying123 4 (fun w => by kernel_rfl) ⟨vb, 0, none⟩ ⟨g, o, none⟩ 1 1 lb cb hne 51 51 4 cur.size (by simp [World.shape?, hvb, Rct.len]) (by simp [World.shape?, hg]) h0 (fro_row hvb) (fro_row hvb)]
  rfl
set_option maxRecDepth 100000 in
set_option maxHeartbeats 4000000 in
theorem ins_shiftr (w : World) (g n cp i : Nat) (l : List Rct) (cur : Array Value) (vb : Nat) (x : Rct) (hn : l.length = n) (hi : i < n) (hroom : n + 1 ≤ cp) (hcp : cp ≤ maxLen) (hl : n ≤ 4000000000000) (hg : Hid (w.heap[g]? = some (.cells cur 51 (0, 0)))) (hsz : Hid (cur.size = cp * 4)) (htk : Hid (cur.toList.take (l.length * 4) = flatG Rct.cs l)) (hvb : Hid (w.heap[vb]? = some (.cells x.cs.toArray 51 (0, 0)))) (hne : vb ≠ g) :
    Calls Tryz.prog 105 #[.slice (some ⟨g, 0, none⟩) n cp, .int .i64 i, .slice (some ⟨vb, 0, none⟩) 1 1] w (InsP 51 4 Rct.cs w (.slice (some ⟨g, 0, none⟩) n cp) (l.take i ++ x :: l.drop i)) := by
  have mixed : Tryz.prog.follows .mixedOrders = true := by kernel_rfl
  unfold maxLen at hcp
  have hov : ∀ o lb cb, (callFunc 124 #[.slice (some ⟨vb, 0, none⟩) 1 1, .slice (some ⟨g, o, none⟩) lb cb]).run Tryz.prog w = .ok (.value (.bool false)) w := fun o lb cb => over_nor w vb g lb cb o x cur hvb.out hg.out hne (by rw [hsz.out]; omega)
  have hne1 : ((i : Int) == n) = false := by simp; omega
  have hi' : (i : Int) < n := by omega
  have hci : ¬ (cp = i) := by omega
  have hci1 : ¬ (cp = i + 1) := by omega
  have HN : Hid (l.length = n) := hn
  clear hn
  have hdl : (flatG Rct.cs (l.drop i)).length = (n - i) * 4 := by rw [flatG_len Rct.len, List.length_drop, HN.out]
  have hm1 : Nat.min (n + 1 - i) (n - i) = n - i := by simp only [Nat.min_def]; split <;> omega
  have hm2 : Nat.min 1 (n + 1 - i) = 1 := by simp only [Nat.min_def]; split <;> omega
  have hle : (i + 1) * 4 + (n - i) * 4 ≤ cp * 4 := by omega
  have hsrc : ∀ j u, (flatG Rct.cs (l.drop i))[j]? = some u → w.cell? ((⟨g, i * 4, none⟩ : Addr).add j) = some u := by
    intro j u hj
    rw [add_none, cell_row hg.out]
    rw [flatG_drop Rct.len, List.getElem?_drop, ← htk.out, List.getElem?_take] at hj
    split at hj
    · simpa using hj
    · cases hj
  have hcp1 : ∀ ty dc sc, (Builtin.copy_ #[123, 123] ty #[.slice (some ⟨g, (i + 1) * 4, none⟩) (n - i) dc, .slice (some ⟨g, i * 4, none⟩) (n + 1 - i) sc]).run Tryz.prog w.drew = .ok (goInt ((n - i : Nat) : Int)) (w.drew.setRow g (splice cur.toList ((i + 1) * 4) (flatG Rct.cs (l.drop i))).toArray) := fun ty dc sc => by
    have h := run_copy_rowN (P := Tryz.prog) w.drew 123 123 ty 51 4 g ((i + 1) * 4) (n - i) dc ⟨g, i * 4, none⟩ (n + 1 - i) sc cur 51 (flatG Rct.cs (l.drop i)) Tryz.underlying123 infoRctZ hg.out (by rw [hm1, hdl]) hsrc (by rw [hdl, hsz.out]; exact hle) (flatG_one Rct.one _)
    rw [hm1] at h
    exact h
  obtain ⟨C1, hC1⟩ : ∃ C1, C1 = splice cur.toList ((i + 1) * 4) (flatG Rct.cs (l.drop i)) := ⟨_, rfl⟩
  rw [← hC1] at hcp1
  have hl1 : C1.length = cp * 4 := by rw [hC1, length_splice _ _ _ (by rw [hdl, Array.length_toList, hsz.out]; exact hle), Array.length_toList, hsz.out]
  obtain ⟨W1, hW1⟩ : ∃ W1, W1 = w.drew.setRow g C1.toArray := ⟨_, rfl⟩
  have hg1 : W1.heap[g]? = some (.cells C1.toArray 51 (0, 0)) := by rw [hW1]; exact setRow_heap w.drew g cur _ _ _ hg.out
  have hv1 : W1.heap[vb]? = some (.cells x.cs.toArray 51 (0, 0)) := by rw [hW1]; exact (setRow_other w.drew g vb _ hne).trans hvb.out
  have hcp2 : ∀ ty dc, (Builtin.copy_ #[123, 123] ty #[.slice (some ⟨g, i * 4, none⟩) (n + 1 - i) dc, .slice (some ⟨vb, 0, none⟩) 1 1]).run Tryz.prog W1 = .ok (goInt 1) (W1.setRow g (splice C1 (i * 4) x.cs).toArray) := fun ty dc => by
    have h := run_copy_rowN (P := Tryz.prog) W1 123 123 ty 51 4 g (i * 4) (n + 1 - i) dc ⟨vb, 0, none⟩ 1 1 C1.toArray 51 x.cs Tryz.underlying123 infoRctZ hg1 (by rw [hm2]; rfl) (one_news hv1) (by simp [Rct.len]; omega) (Rct.one x)
    rw [hm2] at h
    exact h
  have HP : Hid (InsP 51 4 Rct.cs w (.slice (some ⟨g, 0, none⟩) n cp) (l.take i ++ x :: l.drop i) (.returned (.slice (some ⟨g, 0, none⟩) (n + 1) cp)) (W1.setRow g (splice C1 (i * 4) x.cs).toArray)) := by
    have e : splice C1 (i * 4) x.cs = cur.toList.take (i * 4) ++ (x.cs ++ (flatG Rct.cs (l.drop i) ++ cur.toList.drop (i * 4 + 4 + (n - i) * 4))) := by
      have h := (splice_two cur.toList x.cs (flatG Rct.cs (l.drop i)) (i * 4) 4 ((n - i) * 4) rfl hdl (by rw [Array.length_toList, hsz.out]; omega)).1
      rw [hC1, show (i + 1) * 4 = i * 4 + 4 by omega]
      exact h
    refine ⟨_, rfl, RowG.mk Rct.len (by simp [HN.out]; omega) (Nat.zero_le _) (setRow_heap W1 g _ _ _ _ hg1) (by simp [HN.out]; omega) (by unfold maxLen; omega) ?_ ?_, .inl rfl, ?_⟩
    · rw [List.size_toArray, length_splice _ _ _ (by rw [hl1]; simp [Rct.len]; omega), hl1]
    · have e2 : cur.toList.take (i * 4) = flatG Rct.cs (l.take i) := by
        rw [flatG_take Rct.len, ← htk.out, List.take_take, HN.out, Nat.min_eq_left (by omega)]
      rw [List.toList_toArray, e, e2, flatG_app, flatG_cons, ← List.append_assoc, ← List.append_assoc]
      have e3 : (l.take i ++ x :: l.drop i).length * 4 = (flatG Rct.cs (l.take i) ++ x.cs ++ flatG Rct.cs (l.drop i)).length := by
        simp only [List.length_append, flatG_len Rct.len, Rct.len, List.length_cons, List.length_nil]; omega
      rw [e3]
      rw [List.take_left, List.append_assoc]
    · rw [hW1]
      exact Mut.setRow (S := fun k => (Value.slice (some ⟨g, 0, none⟩) n cp).ownBlock = some k) (Mut.setRow (S := fun k => (Value.slice (some ⟨g, 0, none⟩) n cp).ownBlock = some k) (Mut.drew (Mut.refl _ w)) (.inl rfl) _) (.inl rfl) _
  have hw1 : IntKind.i64.wrap ((i : Int) + 1) = (i : Int) + 1 := by rw [IntKind.wrap_i64]; omega
  have hb1 : (0 : Int) ≤ (i : Int) + 1 := by omega
  have hin : i ≤ n := by omega
  have htn : ((i : Int) + 1).toNat = i + 1 := by omega
  have hb3 : (i : Int) ≤ (n : Int) + 1 := by omega
  have HV : Hid _ := hv1
  have HG : Hid _ := hg1
  rw [← hW1] at hcp1
  clear hW1 hC1 hl1 hv1 hg1 hm1 hm2 hsrc hdl hle
  revert HP
  generalize InsP 51 4 Rct.cs w (.slice (some ⟨g, 0, none⟩) n cp) (l.take i ++ x :: l.drop i) = PP
  intro HP
  go_enter Tryz.func105, Tryz.ntmps105
  go_wp2_with (simp only [hov])
  go_region_law (refine step_copyN rfl _ _ 123 123 rfl _ _ (by simp [Act.eval, Act.put]) (by simp [Act.eval, Act.put]) (hcp1 _ _ _) ?_)
  go_wp2_with (at_builtin; refine wpList_copyN _ rfl _ _ 123 123 rfl _ _ rfl rfl (hcp2 _ _) ?_)
  all_goals first | exact HP.out | (go_ret; exact HP.out)
set_option maxRecDepth 100000 in
set_option maxHeartbeats 4000000 in
theorem ins_growr (w : World) (g n cp i : Nat) (l : List Rct) (cur : Array Value) (vb : Nat) (x : Rct) (hn : l.length = n) (hi : i < n) (hnc : n ≤ cp) (hroom : cp < n + 1) (hcp : cp ≤ maxLen) (hl : n ≤ 4000000000000) (hg : Hid (w.heap[g]? = some (.cells cur 51 (0, 0)))) (hsz : Hid (cur.size = cp * 4)) (htk : Hid (cur.toList.take (l.length * 4) = flatG Rct.cs l)) (hvb : Hid (w.heap[vb]? = some (.cells x.cs.toArray 51 (0, 0)))) :
    Calls Tryz.prog 105 #[.slice (some ⟨g, 0, none⟩) n cp, .int .i64 i, .slice (some ⟨vb, 0, none⟩) 1 1] w (InsP 51 4 Rct.cs w (.slice (some ⟨g, 0, none⟩) n cp) (l.take i ++ x :: l.drop i)) := by
  have mixed : Tryz.prog.follows .mixedOrders = true := by kernel_rfl
  unfold maxLen at hcp
  obtain ⟨i0, hi0, hz0, hzs, hzb⟩ := info_parts infoRct
  have hne1 : ((i : Int) == n) = false := by simp; omega
  have hi' : (i : Int) < n := by omega
  have hci : ¬ (cp = i) := by omega
  have HN : Hid (l.length = n) := hn
  clear hn
  have hdl : (flatG Rct.cs (l.drop i)).length = (n - i) * 4 := by rw [flatG_len Rct.len, List.length_drop, HN.out]
  have htl : (flatG Rct.cs (l.take i)).length = i * 4 := by rw [flatG_len Rct.len, List.length_take, HN.out, Nat.min_eq_left (by omega)]
  have hglt : g < w.heap.size := (Array.getElem?_eq_some_iff.1 hg.out).1
  have hvlt : vb < w.heap.size := (Array.getElem?_eq_some_iff.1 hvb.out).1
  have hold : (Builtin.firstCells i0.size i (.slice (some ⟨g, 0, none⟩) i cp)).run Tryz.prog w.drew = .ok (flatG Rct.cs (l.take i)).toArray w.drew := by
    rw [hzs]
    exact run_firstCells_some w.drew 4 i ⟨g, 0, none⟩ i cp (flatG Rct.cs (l.take i)) htl (fun j u hj => by
      rw [add_none, Nat.zero_add, cell_row (w := w.drew) hg.out]
      rw [flatG_take Rct.len, ← htk.out, List.take_take, List.getElem?_take] at hj
      split at hj
      · simpa using hj
      · cases hj)
  have hik : i + (n + 1 - i) = n + 1 := by omega
  obtain ⟨G, hG⟩ : ∃ G, G = grownCap w (n + 1) cp 51 := ⟨_, rfl⟩
  obtain ⟨ROW, hROW⟩ : ∃ ROW : Array Value, ROW = (flatG Rct.cs (l.take i)).toArray ++ Builtin.zeroCells (Value.agg #[.int .i64 0, .int .i64 0, .int .i64 0, .int .i64 0]).cells (n + 1 - i) ++ Builtin.zeroCells (Value.agg #[.int .i64 0, .int .i64 0, .int .i64 0, .int .i64 0]).cells (G - (n + 1)) := ⟨_, rfl⟩
  obtain ⟨WA, hWA⟩ : ∃ WA, WA = w.drew.alloc (.cells ROW 51) := ⟨_, rfl⟩
  obtain ⟨NB, hNB⟩ : ∃ NB, NB = w.heap.size := ⟨_, rfl⟩
  have hrz : ∀ ty, (Builtin.append_ #[123, 3] ty #[.slice (some ⟨g, 0, none⟩) i cp, .int .i64 ((n : Int) + 1 - (i : Int))]).run Tryz.prog w = .ok (.slice (some ⟨NB, 0, none⟩) (n + 1) G) WA := fun ty => by
    have h := Lib.run_append_grow_zeros w 123 3 ty 51 i0 _ .i64 .i64 Tryz.underlying123 Tryz.underlying3 hi0 hz0 (some ⟨g, 0, none⟩) i cp (flatG Rct.cs (l.take i)) hold (n + 1 - i) (by omega) (by omega) (by omega) (by omega) (by rw [hzb]; omega) (by rw [hzb, hik]; exact growslice_fits hroom (by omega))
    rw [hik, ← hG, ← hROW, ← hWA, ← hNB] at h
    rw [show (n : Int) + 1 - (i : Int) = ((n + 1 - i : Nat) : Int) by omega]
    exact h
  have hGn : n + 1 ≤ G := by rw [hG]; exact grownCap_ge w _ _ _
  have hGm : G ≤ maxLen := by rw [hG]; exact grownCap_le_maxLen w (n + 1) cp _ (by unfold maxLen; omega)
  have hRs : ROW.size = G * 4 := by
    rw [hROW]
    simp only [Array.size_append, List.size_toArray, zero_size, htl]
    simp only [Value.cells]
    simp
    omega
  have hRt : ROW.toList.take (i * 4) = flatG Rct.cs (l.take i) := by
    rw [hROW]
    simp only [Array.toList_append, List.toList_toArray, List.append_assoc]
    exact List.take_left' htl
  have hgA : WA.heap[NB]? = some (.cells ROW 51 (0, 0)) := by rw [hWA, hNB]; exact heap_alloc_new w.drew _
  have hoA : ∀ k, k < w.heap.size → WA.heap[k]? = w.heap[k]? := fun k hk => by rw [hWA]; exact Below.heap_alloc w.drew _ k hk
  have hvA := (hoA vb hvlt).trans hvb.out
  have hm2 : Nat.min 1 (n + 1 - i) = 1 := by simp only [Nat.min_def]; split <;> omega
  have hm1 : Nat.min (n - i) (n - i) = n - i := Nat.min_self _
  obtain ⟨C1, hC1⟩ : ∃ C1, C1 = splice ROW.toList (i * 4) x.cs := ⟨_, rfl⟩
  have hl1 : C1.length = G * 4 := by rw [hC1, length_splice _ _ _ (by simp [hRs, Rct.len]; omega), Array.length_toList, hRs]
  obtain ⟨WB, hWB⟩ : ∃ WB, WB = WA.setRow NB C1.toArray := ⟨_, rfl⟩
  have hcpA : ∀ ty dc, (Builtin.copy_ #[123, 123] ty #[.slice (some ⟨NB, i * 4, none⟩) (n + 1 - i) dc, .slice (some ⟨vb, 0, none⟩) 1 1]).run Tryz.prog WA = .ok (goInt 1) WB := fun ty dc => by
    have h := run_copy_rowN (P := Tryz.prog) WA 123 123 ty 51 4 NB (i * 4) (n + 1 - i) dc ⟨vb, 0, none⟩ 1 1 ROW 51 x.cs Tryz.underlying123 infoRctZ hgA (by rw [hm2]; rfl) (one_news hvA) (by rw [hRs]; simp [Rct.len]; omega) (Rct.one x)
    rw [hm2, ← hC1, ← hWB] at h
    exact h
  have hgB : WB.heap[NB]? = some (.cells C1.toArray 51 (0, 0)) := by rw [hWB]; exact setRow_heap WA NB ROW _ _ _ hgA
  have hoB : WB.heap[g]? = some (.cells cur 51 (0, 0)) := by rw [hWB, setRow_other WA NB g _ (by omega), hoA g hglt]; exact hg.out
  obtain ⟨WC, hWC⟩ : ∃ WC, WC = WB.drew.setRow NB (splice C1 ((i + 1) * 4) (flatG Rct.cs (l.drop i))).toArray := ⟨_, rfl⟩
  have hcpB : ∀ ty dc sc, (Builtin.copy_ #[123, 123] ty #[.slice (some ⟨NB, (i + 1) * 4, none⟩) (n - i) dc, .slice (some ⟨g, i * 4, none⟩) (n - i) sc]).run Tryz.prog WB.drew = .ok (goInt ((n - i : Nat) : Int)) WC := fun ty dc sc => by
    have h := run_copy_rowN (P := Tryz.prog) WB.drew 123 123 ty 51 4 NB ((i + 1) * 4) (n - i) dc ⟨g, i * 4, none⟩ (n - i) sc C1.toArray 51 (flatG Rct.cs (l.drop i)) Tryz.underlying123 infoRctZ hgB (by rw [hm1, hdl]) (by
      intro j u hj
      rw [add_none, cell_row (w := WB.drew) hoB]
      rw [flatG_drop Rct.len, List.getElem?_drop, ← htk.out, List.getElem?_take] at hj
      split at hj
      · simpa using hj
      · cases hj) (by rw [hdl, List.size_toArray, hl1]; omega) (flatG_one Rct.one _)
    rw [hm1, ← hWC] at h
    exact h
  have HP : Hid (InsP 51 4 Rct.cs w (.slice (some ⟨g, 0, none⟩) n cp) (l.take i ++ x :: l.drop i) (.returned (.slice (some ⟨NB, 0, none⟩) (n + 1) G)) WC) := by
    have e : splice C1 ((i + 1) * 4) (flatG Rct.cs (l.drop i)) = ROW.toList.take (i * 4) ++ (x.cs ++ (flatG Rct.cs (l.drop i) ++ ROW.toList.drop (i * 4 + 4 + (n - i) * 4))) := by
      have h := (splice_two ROW.toList x.cs (flatG Rct.cs (l.drop i)) (i * 4) 4 ((n - i) * 4) rfl hdl (by rw [Array.length_toList, hRs]; omega)).2
      rw [hC1, show (i + 1) * 4 = i * 4 + 4 by omega]
      exact h
    refine ⟨_, rfl, RowG.mk Rct.len (by simp [HN.out]; omega) (Nat.zero_le _) (by rw [hWC]; exact setRow_heap WB.drew NB _ _ _ _ hgB) (by simp [HN.out]; omega) hGm ?_ ?_, .inr ⟨NB, rfl, by omega⟩, ?_⟩
    · rw [List.size_toArray, length_splice _ _ _ (by rw [hl1, hdl]; omega), hl1]
    · rw [List.toList_toArray, e, hRt, flatG_app, flatG_cons, ← List.append_assoc, ← List.append_assoc]
      have e3 : (l.take i ++ x :: l.drop i).length * 4 = (flatG Rct.cs (l.take i) ++ x.cs ++ flatG Rct.cs (l.drop i)).length := by
        simp only [List.length_append, flatG_len Rct.len, Rct.len, List.length_cons, List.length_nil]; omega
      rw [e3]
      rw [List.take_left, List.append_assoc]
    · rw [hWC, hWB, hWA]
      exact Mut.setRow (Mut.drew (Mut.setRow (Mut.alloc (Mut.drew (Mut.refl _ w)) _) (.inr (by omega)) _)) (.inr (by omega)) _
  have hGi : ¬ (G = i) := by omega
  have hGi1 : ¬ (G = i + 1) := by omega
  have hz3 : (cp : Int) < (n : Int) + 1 := by omega
  have hw1 : IntKind.i64.wrap ((i : Int) + 1) = (i : Int) + 1 := by rw [IntKind.wrap_i64]; omega
  have hb1 : (0 : Int) ≤ (i : Int) + 1 := by omega
  have hin : i ≤ n := by omega
  have htn : ((i : Int) + 1).toNat = i + 1 := by omega
  have hb3 : (i : Int) ≤ (n : Int) + 1 := by omega
  have hb4 : (i : Int) ≤ (n : Int) := by omega
  unfold maxLen at hGm
  clear hWC hWB hWA hNB hG hROW hC1 hl1 hgA hgB hoA hoB hvA hm1 hm2 hdl htl hold hik hRs hRt hi0 hz0 hzs hzb i0
  revert HP
  generalize InsP 51 4 Rct.cs w (.slice (some ⟨g, 0, none⟩) n cp) (l.take i ++ x :: l.drop i) = PP
  intro HP
  go_enter Tryz.func105, Tryz.ntmps105
  go_wp2_with (first
    | (at_builtin; refine wpList_app3 rfl _ _ _ _ rfl _ _ rfl rfl _ _ (hrz _) ?_)
    | (at_builtin; refine wpList_copyN _ rfl _ _ 123 123 rfl _ _ rfl rfl (hcpA _ _) ?_))
  go_region_law (refine step_copyN rfl _ _ 123 123 rfl _ _ (by simp [Act.eval, Act.put]) (by simp [Act.eval, Act.put]) (hcpB _ _ _) ?_)
  go_wp2
  all_goals first | exact HP.out | (go_ret; exact HP.out)
/-- slices.Insert, everywhere. -/
theorem ins_anyr (w : World) (v : Value) (l : List Rct) (i : Nat) (vb : Nat) (x : Rct) (hv : RowR w v l) (hi : i ≤ l.length) (hl : l.length ≤ 4000000000000) (hvb : w.heap[vb]? = some (.cells x.cs.toArray 51 (0, 0))) (hne : v.ownBlock ≠ some vb) :
    Calls Tryz.prog 105 #[v, .int .i64 i, .slice (some ⟨vb, 0, none⟩) 1 1] w (InsP 51 4 Rct.cs w v (l.take i ++ x :: l.drop i)) := by
  by_cases e : i = l.length
  · subst e
    rw [List.take_length, List.drop_length]
    exact ins_endr w v l vb x hv hl hvb
  · rcases hv.two with ⟨rfl, rfl⟩ | ⟨g, cap, cur, rfl, _, h1, h2, h3, h4, h5, h6⟩
    · simp at hi e; omega
    · by_cases hr : l.length + 1 ≤ cap
      · exact ins_shiftr w g l.length cap i l cur vb x rfl (by omega) hr h4 hl h2 h5 h6 hvb (fun h => hne (by rw [h]; rfl))
      · exact ins_growr w g l.length cap i l cur vb x rfl (by omega) h3 (by omega) h4 hl h2 h5 h6 hvb
end Go.Proofs.YtcjanaldjokllaaGreat
namespace Go.Proofs.YtcjanaldjokllaaGreat
open Go.RowKit
set_option linter.all false
theorem run_clearr (w : World) (g o n cap : Nat) (cur : Array Value) (hg : w.heap[g]? = some (.cells cur 51 (0, 0))) (hf : o + n * 4 ≤ cur.size) (ty : TypeId) :
    ∃ C : Array Value, (Builtin.clear_ #[123] ty #[.slice (some ⟨g, o, none⟩) n cap]).run Tryz.prog w = .ok (.tuple #[]) (w.setRow g C) ∧ C.size = cur.size ∧ C.toList.take o = cur.toList.take o := by
  by_cases h0 : n = 0
  · subst h0
    refine ⟨cur, ?_, rfl, rfl⟩
    rw [setRow_self w g cur _ (0, 0) hg]
    simp [Builtin.clear_, run_underlying Tryz.underlying123]
  · obtain ⟨i0, hi0, hz0, hzs, hzb⟩ := info_parts infoRct
    obtain ⟨Z, hZ⟩ : ∃ Z : List Value, Z = (Builtin.zeroCells (Value.agg #[.int .i64 0, .int .i64 0, .int .i64 0, .int .i64 0]).cells n).toList := ⟨_, rfl⟩
    have hZl : Z.length = n * 4 := by rw [hZ, Array.length_toList, zero_size]; rfl
    have hZ1 : ∀ v ∈ Z, v.oneCell' = true := by
      intro v hv
      rw [hZ] at hv
      simp only [Builtin.zeroCells, Array.toList_map, List.mem_map] at hv
      obtain ⟨j, _, rfl⟩ := hv
      have hj : j % 4 < 4 := Nat.mod_lt _ (by omega)
      have : ∀ k, k < 4 → ((Value.agg #[.int .i64 0, .int .i64 0, .int .i64 0, .int .i64 0]).cells[k]!).oneCell' = true := by decide
      exact this _ hj
    have hst := run_storeCells_at Tryz.prog g o 51 Z 0 cur w hg (by simpa [hZl] using hf) hZ1
    simp only [Nat.add_zero] at hst
    refine ⟨(cur.toList.take o ++ Z ++ cur.toList.drop (o + Z.length)).toArray, ?_, ?_, ?_⟩
    · obtain ⟨k, rfl⟩ : ∃ k, n = k + 1 := ⟨n - 1, by omega⟩
      simp [Builtin.clear_, run_underlying Tryz.underlying123, zeroValue, typeInfo, hi0, hz0, ← hZ, hst]
    · simp only [List.size_toArray, List.length_append, List.length_take, List.length_drop, Array.length_toList, hZl]; omega
    · rw [List.toList_toArray, List.append_assoc]; exact List.take_left' (by rw [List.length_take, Array.length_toList]; omega)
theorem step_appr {ops : Array Oper} {o : Oper} {a : Act} {w : World} {K : Act → World → Prop} {Q : Exit → Act → World → Prop} {E : Prop}
    (hg : o.guard = none) (d x : Operand) (dT sT : TypeId) (hop : o.op = Op.call { callee := Callee.builtin Builtin.append, args := #[d, x], argTypes := #[dT, sT] })
    (v u : Value) (hd : a.eval d = v) (hx : a.eval x = u) {v' : Value} {w' : World} (hr : (Builtin.append_ #[dT, sT] o.type #[v, u]).run Tryz.prog w = .ok v' w') (hK : K (a.put o.dst v') w') :
    if Region.wanted o (yielded ops a.tmps) = true then Oper.wp Tryz.prog o a w K Q else E := by
  have hw : Region.wanted o (yielded ops a.tmps) = true := by simp [Region.wanted, hg]
  rw [if_pos hw]
  unfold Oper.wp
  simp [execOp, hop, resolve, invoke, builtin, hd, hx, hr, Result.andThen]
  exact hK
set_option maxRecDepth 100000 in
set_option maxHeartbeats 4000000 in
theorem del_anyr (w : World) (v : Value) (l : List Rct) (i : Nat) (hv : RowR w v l) (hi : i < l.length) (hl : l.length ≤ 4000000000000) :
    Calls Tryz.prog 117 #[v, .int .i64 i, .int .i64 ((i : Int) + 1)] w (InsP 51 4 Rct.cs w v (l.take i ++ l.drop (i + 1))) := by
  have mixed : Tryz.prog.follows .mixedOrders = true := by kernel_rfl
  rcases hv.two with ⟨rfl, rfl⟩ | ⟨g, cap, cur, rfl, _, h1, h2, h3, h4, h5, h6⟩
  · simp at hi
  · obtain ⟨i0, hi0, hz0, hzs, hzb⟩ := info_parts infoRct
    obtain ⟨n, hn⟩ : ∃ n, n = l.length := ⟨_, rfl⟩
    have HN : Hid (n = l.length) := hn
    rw [← hn] at hi hl h3 ⊢
    have HT : Hid (cur.toList.take (l.length * 4) = flatG Rct.cs l) := h6
    clear hn hv h6
    unfold maxLen at h4
    have hdl : (flatG Rct.cs (l.drop (i + 1))).length = (n - (i + 1)) * 4 := by rw [flatG_len Rct.len, List.length_drop, ← HN.out]
    obtain ⟨A, hA⟩ : ∃ A, A = (if cap = i + 1 then (⟨g, 0, none⟩ : Addr) else ⟨g, (i + 1) * 4, none⟩) := ⟨_, rfl⟩
    have hsrc : ∀ j u, (flatG Rct.cs (l.drop (i + 1)))[j]? = some u → w.drew.cell? (A.add j) = some u := by
      intro j u hj
      have hlt := (List.getElem?_eq_some_iff.1 hj).1
      rw [hdl] at hlt
      rw [hA, if_neg (by omega), add_none, cell_row (w := w.drew) h2]
      rw [flatG_drop Rct.len, List.getElem?_drop, ← HT.out, List.getElem?_take] at hj
      split at hj
      · simpa using hj
      · cases hj
    obtain ⟨C1, hC1⟩ : ∃ C : Array Value, C = (cur.toList.take (i * 4) ++ flatG Rct.cs (l.drop (i + 1)) ++ cur.toList.drop (i * 4 + (flatG Rct.cs (l.drop (i + 1))).length)).toArray := ⟨_, rfl⟩
    have hA2 : (if cap = i + 1 then some (⟨g, 0, none⟩ : Addr) else some ⟨g, (i + 1) * 4, none⟩) = some A := by rw [hA]; split <;> rfl
    have hap : ∀ ty c, (Builtin.append_ #[123, 123] ty #[.slice (some ⟨g, 0, none⟩) i cap, .slice (if cap = i + 1 then some (⟨g, 0, none⟩ : Addr) else some ⟨g, (i + 1) * 4, none⟩) (n - (i + 1)) c]).run Tryz.prog w.drew = .ok (.slice (some ⟨g, 0, none⟩) (n - 1) cap) (w.drew.setRow g C1) := fun ty c => by
      have h := run_append_room (P := Tryz.prog) w.drew 123 ty 51 i0 Tryz.underlying123 hi0 g i cap cur h2 A (n - (i + 1)) c (flatG Rct.cs (l.drop (i + 1))) (by rw [hdl, hzs]) hsrc (flatG_one Rct.one _) (by omega) (by rw [hdl, hzs, h5]; omega)
      rw [hzs, ← hC1, show i + (n - (i + 1)) = n - 1 by omega] at h
      rw [hA2]
      exact h
    have hC1s : C1.size = cap * 4 := by
      rw [hC1]
      simp only [List.size_toArray, List.length_append, List.length_take, List.length_drop, Array.length_toList, hdl, h5]; omega
    have hC1t : C1.toList.take ((n - 1) * 4) = flatG Rct.cs (l.take i ++ l.drop (i + 1)) := by
      have e0 : cur.toList.take (i * 4) = flatG Rct.cs (l.take i) := by
        rw [flatG_take Rct.len, ← HT.out, List.take_take, Nat.min_eq_left (by rw [← HN.out]; omega)]
      rw [hC1, List.toList_toArray, e0, flatG_app]
      exact List.take_left' (by rw [List.length_append, hdl, flatG_len Rct.len, List.length_take, ← HN.out, Nat.min_eq_left (by omega)]; omega)
    obtain ⟨W1, hW1⟩ : ∃ W, W = w.drew.setRow g C1 := ⟨_, rfl⟩
    have hg1 : W1.heap[g]? = some (.cells C1 51 (0, 0)) := by rw [hW1]; exact setRow_heap w.drew g cur _ _ _ h2
    have hcl := fun ty c => run_clearr W1 g ((n - 1) * 4) 1 c C1 hg1 (by rw [hC1s]; omega) ty
    have HCL : Hid (∀ ty c, ∃ W2, (Builtin.clear_ #[123] ty #[.slice (some ⟨g, (n - 1) * 4, none⟩) (n - (n - 1)) c]).run Tryz.prog W1 = .ok (.tuple #[]) W2 ∧ InsP 51 4 Rct.cs w (.slice (some ⟨g, 0, none⟩) n cap) (l.take i ++ l.drop (i + 1)) (.returned (.slice (some ⟨g, 0, none⟩) (n - 1) cap)) W2) := (show _ from fun ty c => by
      obtain ⟨C2, k1, k2, k3⟩ := hcl ty c
      rw [show n - (n - 1) = 1 by omega]
      refine ⟨_, k1, _, rfl, RowG.mk Rct.len (by simp [← HN.out]; omega) (Nat.zero_le _) (setRow_heap W1 g _ _ _ _ hg1) (by simp [← HN.out]; omega) (by unfold maxLen; omega) (by rw [k2, hC1s]) ?_, .inl rfl, ?_⟩
      · rw [show (l.take i ++ l.drop (i + 1)).length = n - 1 by simp [← HN.out]; omega, k3, hC1t]
      · rw [hW1]
        exact Mut.setRow (S := fun k => (Value.slice (some ⟨g, 0, none⟩) n cap).ownBlock = some k) (Mut.setRow (S := fun k => (Value.slice (some ⟨g, 0, none⟩) n cap).ownBlock = some k) (Mut.drew (Mut.refl _ w)) (.inl rfl) _) (.inl rfl) _)
    rw [← hW1] at hap
    clear hA2 hA hC1 hC1s hC1t hcl hg1 hsrc hdl hi0 hz0 hzs hzb i0 hW1
    revert HCL
    generalize InsP 51 4 Rct.cs w (.slice (some ⟨g, 0, none⟩) n cap) (l.take i ++ l.drop (i + 1)) = PP
    intro HCL
    obtain ⟨W2, hr, hP⟩ := HCL.out 0 (cap - (n - 1))
    have HP : Hid _ := hP
    clear hP HCL
    have e1 : (i : Int) ≤ (i : Int) + 1 := by omega
    have e2 : (i : Int) + 1 ≤ (n : Int) := by omega
    have e3 : (n : Int) ≤ (cap : Int) := by omega
    have e4 : ((i : Int) == (i : Int) + 1) = false := by simp; omega
    have e5 : ((i : Int) + 1).toNat = i + 1 := by omega
    have e6 : (0 : Int) ≤ (i : Int) + 1 := by omega
    have e7 : ¬ (n = i) := by omega
    have e8 : (i : Int) ≤ (n : Int) := by omega
    have e9 : (i : Int) ≤ (cap : Int) := by omega
    have e10 : ¬ (cap = n - 1) := by omega
    have e11 : ((n - 1 : Nat) : Int) ≤ (n : Int) := by omega
    have e12 : (i : Int) + 1 ≤ (cap : Int) := by omega
    go_enter Tryz.func117, Tryz.ntmps117
    go_wp2
    go_region_law? (refine step_appr rfl _ _ 123 123 rfl (.slice (some ⟨g, 0, none⟩) i cap) (.slice (if cap = i + 1 then some (⟨g, 0, none⟩ : Addr) else some ⟨g, (i + 1) * 4, none⟩) (n - (i + 1)) (cap - (i + 1))) (by simp [Act.eval, Act.put]) (by simp [Act.eval, Act.put]) (hap _ _) ?_)
    all_goals go_wp2
    all_goals first | exact HP.out | (subst_vars; exact HP.out) | (go_ret; exact HP.out)
end Go.Proofs.YtcjanaldjokllaaGreat
