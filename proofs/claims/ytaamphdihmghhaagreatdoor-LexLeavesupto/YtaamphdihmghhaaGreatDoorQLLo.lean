/- The outer round of LexLeaves's loops: the token that comes is the one of the document's list; the count goes on, the inner loop begins anew, and the loop is left or goes on. The conditions: what the list, the counts and the sequence hold. -/
import Derived.Test.YtaamphdihmghhaaGreatDoorQLLi
namespace Go.Proofs.YtaamphdihmghhaaGreatDoor
open Go.Shelf Go.RowKit
set_option linter.all false
theorem run_store_func6 (P : Program) (w : World) (a : Addr) (c : Fn) (x y : Array Value) (m : Mode) : (store a (.func c x y) m).run P w = stored P w a (.func c x y) m := run_store P w a _ m rfl
attribute [local go_sem] Oper.semAt_some run_store_func6
set_option maxRecDepth 100000 in
set_option maxHeartbeats 8000000 in
theorem oround_w (s : ByteArray) (hs : s.size ≤ 1048576) (nn : Int) (c g cap bk : Nat) (V A1 : World) (hn0 : 0 ≤ nn) (hnL : nn ≤ (toks s).length) (hp : 0 < (toks s).length) (hbk4 : c + 4 ≤ bk) (hA1s : A1.heap.size = bk + 1) (hV1 : ∀ x, x < c + 4 → A1.heap[x]? = V.heap[x]?)
    (hgv : Gives Tryz.prog 11 #[.pointer (some ⟨c + 1 + 1, 0, none⟩)] encT (toks s) (ownT (c + 1 + 1)) V) (hO : ∀ x, ownT (c + 1 + 1) x → x < c + 4)
    (FV : Hid (∀ A : World, (∀ x, x < c + 4 → A.heap[x]? = V.heap[x]?) → Own A c #[.slice (some ⟨g, 0, none⟩) (toks s).length cap] ∧ Own A (c + 1) #[.int .i64 nn] ∧ Own A (c + 1 + 1 + 1) #[.func (.func 11) #[] #[.pointer (some ⟨c + 1 + 1, 0, none⟩)]] ∧ ∀ (i : Nat) (t : Tk), (toks s)[i]? = some t → ∀ j, j < 11 → A.cell? ⟨g, i * 11 + j, none⟩ = t.cells[j]?))
    {v0 v1 v2 v3 v4 v8 v10 v11 v12 v13 v14 v15 v16 v17 v18 v19 v20 v21 v22 v23 v24 v25 v26 v27 v28 v29 v30 v31 v32 v33 v34 v35 v36 v37 v38 v39 v40 v41 v42 v43 v44 v45 v46 v47 v48 v49 v50 v51 v52 v53 v54 v55 v56 v57 v58 v59 v60 v61 v62 v63 v64 v65 v66 v67 v68 v69 v70 v71 v72 v73 v74 v75 v76 v77 v78 v79 v80 v81 v82 v83 v84 v85 v86 v87 v88 : Value} :
    ∀ (L k : Nat) (t : Tk) (A2 : World), (toks s)[k]? = some t → Own A2 bk #[.int .i64 (k : Int)] → Box bk A1 A2 → A1.heap.size ≤ L → L < A2.heap.size →
      (rA RF1).wpIn (Fence.wide.inRound L) 9 Tryz.prog (Exit.then (fun a1 W1 => Below A2.heap.size A2 W1 ∧ ∀ W2, Sets L W1 W2 → (∃ r, W2.heap[L]? = some (.loop r)) → (rB RF1).wpIn (Fence.wide.inRound L) 9 Tryz.prog (lPost (fun k => (k : Int) < nn ∧ k ≤ 40) bk 2 k W2) a1 W2) (fun _ _ _ => False))
        { tmps := ((#[36] : Array Tmp).zip (encT t)).foldl (fun t (p, v) => t.setIfInBounds p v) (List.toArray (v0 :: v1 :: v2 :: v3 :: v4 :: .pointer (some ⟨c, 0, none⟩) :: .pointer (some ⟨c + 1, 0, none⟩) :: .pointer (some ⟨c + 1 + 1 + 1, 0, none⟩) :: v8 :: .pointer (some ⟨bk, 0, none⟩) :: v10 :: v11 :: v12 :: v13 :: v14 :: v15 :: v16 :: v17 :: v18 :: v19 :: v20 :: v21 :: v22 :: v23 :: v24 :: v25 :: v26 :: v27 :: v28 :: v29 :: v30 :: v31 :: v32 :: v33 :: v34 :: v35 :: v36 :: v37 :: v38 :: v39 :: v40 :: v41 :: v42 :: v43 :: v44 :: v45 :: v46 :: v47 :: v48 :: v49 :: v50 :: v51 :: v52 :: v53 :: v54 :: v55 :: v56 :: v57 :: v58 :: v59 :: v60 :: v61 :: v62 :: v63 :: v64 :: v65 :: v66 :: v67 :: v68 :: v69 :: v70 :: v71 :: v72 :: v73 :: v74 :: v75 :: v76 :: v77 :: v78 :: v79 :: v80 :: v81 :: v82 :: v83 :: v84 :: v85 :: v86 :: v87 :: v88 :: [])), defers := [] } A2 := by
  intro L k t A2 hx oK hBx hL hLA
  unfold encT
  dsimp only
  conv => arg 4; whnf
  gi_wp2
  refine ⟨bal _ _, fun W2 hset hrr => ?_⟩
  conv => arg 4; whnf
  obtain ⟨r0, hr0⟩ := hrr
  have hB2 : Box bk A1 W2 := hBx.step (bal _ _) hset hL
  have hz2 : W2.heap.size = A2.heap.size + 1 := by rw [hset.size]; simp
  have hbL : bk < L := by omega
  have oT : Own W2 A2.heap.size t.cells := (Own.new A2 t.cells 37).of_block (hset.block _ (by omega))
  have oK2 : Own W2 bk #[.int .i64 (k : Int)] := oK.of_block ((hset.block bk (by omega)).trans (Below.heap_alloc A2 _ bk oK.lt))
  have hVW : ∀ x, x < c + 4 → W2.heap[x]? = V.heap[x]? := fun x hx => (hB2.block x (by omega) (by omega)).trans (hV1 x hx)
  have HWi : Hid (∀ (nq : Nat) (Wi : World), Wi = ((W2.drewN nq).setCell ⟨bk, 0, none⟩ (.int .i64 ((k : Int) + 1))).alloc (.cells #[.int .i64 0] 3) → Wi.heap[L]? = some (.loop r0) ∧ Own Wi W2.heap.size #[.int .i64 ((0 : Nat) : Int)] ∧ (∀ x, x < c + 4 → Wi.heap[x]? = V.heap[x]?) ∧ Wi.heap.size = W2.heap.size + 1 ∧
      ∀ A', Box W2.heap.size Wi A' → Box bk W2 A' ∧ Own A' bk #[.int .i64 ((k + 1 : Nat) : Int)]) := by
    intro nq Wi hWi
    have hlW : L < W2.heap.size := (Array.getElem?_eq_some_iff.1 hr0).1
    have hl2 := oK2.lt
    refine ⟨?_, ?_, ?_, ?_, ?_⟩
    · rw [hWi]; exact (Below.heap_alloc _ _ _ (by rw [set_size]; exact hlW)).trans ((set_other (W := W2.drewN nq) (by show L ≠ bk; omega)).trans hr0)
    · rw [hWi]; exact Own.at (by rw [set_size]; rfl)
    · intro x hx4; rw [hWi]; exact (Below.heap_alloc _ _ _ (by rw [set_size]; show x < W2.heap.size; omega)).trans ((set_other (W := W2.drewN nq) (by show x ≠ bk; omega)).trans (hVW x hx4))
    · rw [hWi, World.size_alloc, set_size]; rfl
    · intro A' hA'
      rw [hWi] at hA'
      have h := Box.wrap hl2 hA'
      refine ⟨h.1, ?_⟩
      have h2 : Own ((W2.drewN nq).setCell ⟨bk, 0, none⟩ (.int .i64 ((k : Int) + 1))) bk #[.int .i64 ((k : Int) + 1)] := Own.put (Own.of_block (w' := W2.drewN nq) oK2 rfl)
      have h3 := h2.of_block h.2
      have e : ((k + 1 : Nat) : Int) = (k : Int) + 1 := by omega
      rw [e]; exact h3
  obtain ⟨oW, on, oq, hcl⟩ := FV.out W2 hVW
  have hkl' : (k : Int) < (toks s).length := by have := (List.getElem?_eq_some_iff.1 hx).1; omega
  have x0 : W2.cell? ⟨g, k * 11, none⟩ = some (.int .i64 t.kind) := hcl k _ hx 0 (by decide)
  have x1 : W2.cell? ⟨g, k * 11 + 1, none⟩ = some (.int .i64 t.at') := hcl k _ hx 1 (by decide)
  have x2 : W2.cell? ⟨g, k * 11 + 2, none⟩ = some (.int .i64 t.num) := hcl k _ hx 2 (by decide)
  have x3 : W2.cell? ⟨g, k * 11 + 3, none⟩ = some (.string t.str) := hcl k _ hx 3 (by decide)
  have x4 : W2.cell? ⟨g, k * 11 + 4, none⟩ = some (.int .i64 t.c0) := hcl k _ hx 4 (by decide)
  have x5 : W2.cell? ⟨g, k * 11 + 5, none⟩ = some (.int .i64 t.c1) := hcl k _ hx 5 (by decide)
  have x6 : W2.cell? ⟨g, k * 11 + 6, none⟩ = some (.int .i64 t.r0) := hcl k _ hx 6 (by decide)
  have x7 : W2.cell? ⟨g, k * 11 + 7, none⟩ = some (.int .i64 t.r1) := hcl k _ hx 7 (by decide)
  have x8 : W2.cell? ⟨g, k * 11 + 8, none⟩ = some (.int .i64 t.r2) := hcl k _ hx 8 (by decide)
  have x9 : W2.cell? ⟨g, k * 11 + 9, none⟩ = some (.int .i64 t.r3) := hcl k _ hx 9 (by decide)
  have x10 : W2.cell? ⟨g, k * 11 + 10, none⟩ = some (.int .i64 t.code) := hcl k _ hx 10 (by decide)
  have hgd : decide ((toks s).length ≤ k) = false := by simp; omega
  have hkb : k < 2000000 := by have := toks_le s; omega
  have hwk : wrap64 ((k : Int) + 1) = (k : Int) + 1 := by unfold wrap64; omega
  have e37 : ¬ (c + 1 + 1 + 1 = bk) := by omega
  have e37b : ¬ (bk = c + 1 + 1 + 1) := by omega
  have lq := oq.lt
  have lT := oT.lt
  have hne := neT t
  have cT := oT.cell
  unfold Tk.cells at cT
  have cW := oW.cell
  have cn := on.cell
  have cq := oq.cell
  have ck := oK2.cell
  have fk := oK2.fro
  have lk := oK2.lt
  clear hcl hx hr0 hset oT hVW oW on oq oK2 hB2 hBx oK hz2
  gi_wp2
  refine region_round (by kernel_rfl) (by kernel_rfl) (by kernel_rfl) ?_
  repeat (gi_big_quiet_step (fail))
  refine wpQuietIn_nil ?_
  intro _ hw'
  obtain ⟨nq, hw''⟩ := hw'
  subst hw''
  gi_wp2
  obtain ⟨Wi, hWi⟩ : ∃ Wi, ((W2.drewN nq).setCell ⟨bk, 0, none⟩ (.int .i64 ((k : Int) + 1))).alloc (.cells #[.int .i64 0] 3) = Wi := ⟨_, rfl⟩
  rw [hWi]
  obtain ⟨wr, wo, wV, ws, wB⟩ := HWi.out nq Wi hWi.symm
  clear HWi hWi cT cW cn cq ck fk x0 x1 x2 x3 x4 x5 x6 x7 x8 x9 x10
  have hbW : c + 4 ≤ W2.heap.size := by omega
  refine leaf_in (l0 := L) (r0 := r0) wr (gf := 11) (lb := #[.pointer (some ⟨c + 1 + 1, 0, none⟩)]) rfl (enters_of Tryz.func11 (by kernel_rfl) rfl) hgv (fun _ => rfl) W2.heap.size 4 (fun i => (i : Int) < nn) hp (by intro h; omega) wo ?iown ?iround ?iend
  case iown => intro x hx; have := hO x hx; exact ⟨wV x this, by omega, by omega⟩
  case iend =>
    intro i W hil hgo oI hBi
    obtain ⟨hBk, oKw⟩ := wB W hBi
    have hVW : ∀ x, x < c + 4 → W.heap[x]? = V.heap[x]? := fun x hx => (hBi.block x (by omega) (by omega)).trans (wV x hx)
    obtain ⟨-, on, -, -⟩ := FV.out W hVW
    have cn := on.cell
    have ln := on.lt
    have ck := oKw.cell
    have lk := oKw.lt
    have HB : Hid (Box bk W2 W) := hBk
    have HO2 : Hid (Own W bk #[.int .i64 ((k + 1 : Nat) : Int)]) := oKw
    clear wB wV hVW on hBi oI hBk oKw wr wo hgo FV hgv hO
    by_cases h1 : (k : Int) + 1 < nn
    · have h1a : ¬ nn ≤ (k : Int) + 1 := by omega
      have h1b : decide (nn ≤ (k : Int) + 1) = false := by simp; omega
      by_cases h2 : (40 : Int) < (k : Int) + 1
      · gi_wp2
        exact ⟨rfl, by rintro ⟨_, h⟩; omega, HO2.out, HB.out⟩
      · have h2a : decide ((40 : Int) < (k : Int) + 1) = false := by simp; omega
        gi_wp2
        exact ⟨⟨by omega, by omega⟩, HO2.out, HB.out⟩
    · have h1a : nn ≤ (k : Int) + 1 := by omega
      have h1b : decide (nn ≤ (k : Int) + 1) = true := by simp; omega
      gi_wp2
      exact ⟨rfl, by rintro ⟨h, _⟩; omega, HO2.out, HB.out⟩
  case iround => exact iround_w s nn c g cap W2.heap.size Wi (by have := toks_le s; omega) (by omega) (fun A hA => by obtain ⟨o1, o2, -, o4⟩ := FV.out A (fun x hx => (hA x hx).trans (wV x hx)); exact ⟨o1, o2, o4⟩) hbW
  
end Go.Proofs.YtaamphdihmghhaaGreatDoor
