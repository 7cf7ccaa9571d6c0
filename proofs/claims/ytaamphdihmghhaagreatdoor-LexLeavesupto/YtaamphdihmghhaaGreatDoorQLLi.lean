/- The inner round of LexLeaves's loops: the token that comes is the one of the document's list; the count goes on, or the loop is left. The conditions: what the list and the counts hold. -/
import Derived.Test.YtaamphdihmghhaaGreatDoorQLQ
namespace Go.Proofs.YtaamphdihmghhaaGreatDoor
open Go.Shelf Go.RowKit
set_option linter.all false
theorem run_store_func5 (P : Program) (w : World) (a : Addr) (c : Fn) (x y : Array Value) (m : Mode) : (store a (.func c x y) m).run P w = stored P w a (.func c x y) m := run_store P w a _ m rfl
attribute [local go_sem] Oper.semAt_some run_store_func5
/-- Parts of a code. -/
def sL : Code → Code | .seq a _ => a | c => c
def sR : Code → Code | .seq _ b => b | c => c
def bI : Code → Code | .block _ c => c | c => c
def lI : Code → Code | .loop c => c | c => c
def rA : Code → Code | .rangeFunc _ _ a _ => a | c => c
def rB : Code → Code | .rangeFunc _ _ _ b => b | c => c
noncomputable def c0L : Code := (Tryz.f4.body).getD .skip
noncomputable def RF1 : Code := bI (sR (sL (sR (bI (sL (sR (lI (bI (sR (sL (sR (sR (sR (sR (sR (sR (sR c0L)))))))))))))))))
noncomputable def RF2 : Code := bI (sR (sL (sR (sR (sR (bI (rB RF1)))))))
set_option maxRecDepth 100000 in
set_option maxHeartbeats 8000000 in
theorem iround_w (s : ByteArray) (nn : Int) (c g cap B : Nat) (Wi : World) (hlen : (toks s).length < 2000000) (hWB : B < Wi.heap.size)
    (FW : ∀ A : World, (∀ x, x < c + 4 → A.heap[x]? = Wi.heap[x]?) → Own A c #[.slice (some ⟨g, 0, none⟩) (toks s).length cap] ∧ Own A (c + 1) #[.int .i64 nn] ∧ ∀ (i : Nat) (t : Tk), (toks s)[i]? = some t → ∀ j, j < 11 → A.cell? ⟨g, i * 11 + j, none⟩ = t.cells[j]?)
    (hB : c + 4 ≤ B) {v0 v1 v2 v3 v4 v7 v8 v9 v10 v12 v13 v14 v15 v16 v17 v18 v19 v20 v21 v22 v23 v24 v25 v26 v27 v28 v29 v30 v31 v32 v33 v34 v35 v36 v37 v38 v39 v40 v41 v42 v43 v44 v45 v46 v47 v48 v49 v50 v51 v52 v53 v54 v55 v56 v57 v58 v59 v60 v61 v62 v63 v64 v65 v66 v67 v68 v69 v70 v71 v72 v73 v74 v75 v76 v77 v78 v79 v80 v81 v82 v83 v84 v85 v86 v87 v88 : Value} :
    ∀ (L2 i : Nat) (u : Tk) (A3 : World), (toks s)[i]? = some u → Own A3 B #[.int .i64 (i : Int)] → Box B Wi A3 → Wi.heap.size ≤ L2 → L2 < A3.heap.size →
      (rA RF2).wpIn (Fence.wide.inRound L2) 9 Tryz.prog (Exit.then (fun a1 W1 => Below A3.heap.size A3 W1 ∧ ∀ W2, Sets L2 W1 W2 → (∃ r, W2.heap[L2]? = some (.loop r)) → (rB RF2).wpIn (Fence.wide.inRound L2) 9 Tryz.prog (lPost (fun i => (i : Int) < nn) B 4 i W2) a1 W2) (fun _ _ _ => False))
        { tmps := ((#[52] : Array Tmp).zip (encT u)).foldl (fun t (p, v) => t.setIfInBounds p v) (List.toArray (v0 :: v1 :: v2 :: v3 :: v4 :: .pointer (some ⟨c, 0, none⟩) :: .pointer (some ⟨c + 1, 0, none⟩) :: v7 :: v8 :: v9 :: v10 :: .pointer (some ⟨B, 0, none⟩) :: v12 :: v13 :: v14 :: v15 :: v16 :: v17 :: v18 :: v19 :: v20 :: v21 :: v22 :: v23 :: v24 :: v25 :: v26 :: v27 :: v28 :: v29 :: v30 :: v31 :: v32 :: v33 :: v34 :: v35 :: v36 :: v37 :: v38 :: v39 :: v40 :: v41 :: v42 :: v43 :: v44 :: v45 :: v46 :: v47 :: v48 :: v49 :: v50 :: v51 :: v52 :: v53 :: v54 :: v55 :: v56 :: v57 :: v58 :: v59 :: v60 :: v61 :: v62 :: v63 :: v64 :: v65 :: v66 :: v67 :: v68 :: v69 :: v70 :: v71 :: v72 :: v73 :: v74 :: v75 :: v76 :: v77 :: v78 :: v79 :: v80 :: v81 :: v82 :: v83 :: v84 :: v85 :: v86 :: v87 :: v88 :: [])), defers := [] } A3 := by
  intro L2 i u A3 hx oI hBi hL2 hLA2
  unfold encT
  dsimp only
  conv => arg 4; whnf
  gi_wp2
  refine ⟨bal _ _, fun W3 hset hrr => ?_⟩
  conv => arg 4; whnf
  clear hrr
  have hB3 : Box B Wi W3 := hBi.step (bal _ _) hset hL2
  have oT : Own W3 A3.heap.size u.cells := (Own.new A3 u.cells 37).of_block (hset.block _ (by omega))
  have oI3 : Own W3 B #[.int .i64 (i : Int)] := oI.of_block ((hset.block _ (by omega)).trans (Below.heap_alloc A3 _ _ oI.lt))
  have hVW : ∀ x, x < c + 4 → W3.heap[x]? = Wi.heap[x]? := fun x hx => hB3.block x (by omega) (by omega)
  obtain ⟨oW, on, hcl⟩ := FW W3 hVW
  have hil : (i : Int) < (toks s).length := by have := (List.getElem?_eq_some_iff.1 hx).1; omega
  have x0 : W3.cell? ⟨g, i * 11, none⟩ = some (.int .i64 u.kind) := hcl i _ hx 0 (by decide)
  have x1 : W3.cell? ⟨g, i * 11 + 1, none⟩ = some (.int .i64 u.at') := hcl i _ hx 1 (by decide)
  have x2 : W3.cell? ⟨g, i * 11 + 2, none⟩ = some (.int .i64 u.num) := hcl i _ hx 2 (by decide)
  have x3 : W3.cell? ⟨g, i * 11 + 3, none⟩ = some (.string u.str) := hcl i _ hx 3 (by decide)
  have x4 : W3.cell? ⟨g, i * 11 + 4, none⟩ = some (.int .i64 u.c0) := hcl i _ hx 4 (by decide)
  have x5 : W3.cell? ⟨g, i * 11 + 5, none⟩ = some (.int .i64 u.c1) := hcl i _ hx 5 (by decide)
  have x6 : W3.cell? ⟨g, i * 11 + 6, none⟩ = some (.int .i64 u.r0) := hcl i _ hx 6 (by decide)
  have x7 : W3.cell? ⟨g, i * 11 + 7, none⟩ = some (.int .i64 u.r1) := hcl i _ hx 7 (by decide)
  have x8 : W3.cell? ⟨g, i * 11 + 8, none⟩ = some (.int .i64 u.r2) := hcl i _ hx 8 (by decide)
  have x9 : W3.cell? ⟨g, i * 11 + 9, none⟩ = some (.int .i64 u.r3) := hcl i _ hx 9 (by decide)
  have x10 : W3.cell? ⟨g, i * 11 + 10, none⟩ = some (.int .i64 u.code) := hcl i _ hx 10 (by decide)
  have hgd : decide ((toks s).length ≤ i) = false := by simp; omega
  have hib : i < 2000000 := by omega
  have hwi : wrap64 ((i : Int) + 1) = (i : Int) + 1 := by unfold wrap64; omega
  have e36 : ¬ (c + 1 = B) := by omega
  have e36b : ¬ (B = c + 1) := by omega
  have ln := on.lt
  have hne := neT u
  have cT := oT.cell
  unfold Tk.cells at cT
  have cW := oW.cell
  have cn := on.cell
  have ck := oI3.cell
  have fk := oI3.fro
  have lk := oI3.lt
  have HI3 : Hid (Own W3 B #[.int .i64 (i : Int)]) := oI3
  have hi1 : Hid (∀ nq, Own ((W3.drewN nq).setCell ⟨B, 0, none⟩ (.int .i64 ((i : Int) + 1))) B #[.int .i64 ((i + 1 : Nat) : Int)]) := fun nq => by
    have h2 : Own ((W3.drewN nq).setCell ⟨B, 0, none⟩ (.int .i64 ((i : Int) + 1))) B #[.int .i64 ((i : Int) + 1)] := Own.put (Own.of_block (w' := W3.drewN nq) oI3 rfl)
    have e : ((i + 1 : Nat) : Int) = (i : Int) + 1 := by omega
    rw [e]; exact h2
  clear hcl hx hset oT hVW oW on oI3 hB3 hBi oI FW
  by_cases h1 : (i : Int) + 1 < nn
  · have h1a : ¬ nn ≤ (i : Int) + 1 := by omega
    have h1b : decide (nn ≤ (i : Int) + 1) = false := by simp; omega
    gi_wp2
    refine region_round (by kernel_rfl) (by kernel_rfl) (by kernel_rfl) ?_
    repeat (gi_big_quiet_step (fail))
    refine wpQuietIn_nil ?_
    intro _ hw'
    obtain ⟨nq, hw''⟩ := hw'
    subst hw''
    gi_wp2
    exact ⟨by show ((i + 1 : Nat) : Int) < nn; omega, hi1.out _, Box.put HI3.out.lt⟩
  · have h1a : nn ≤ (i : Int) + 1 := by omega
    have h1b : decide (nn ≤ (i : Int) + 1) = true := by simp; omega
    gi_wp2
    refine region_round (by kernel_rfl) (by kernel_rfl) (by kernel_rfl) ?_
    repeat (gi_big_quiet_step (fail))
    refine wpQuietIn_nil ?_
    intro _ hw'
    obtain ⟨nq, hw''⟩ := hw'
    subst hw''
    gi_wp2
    exact ⟨rfl, by show ¬ ((i + 1 : Nat) : Int) < nn; omega, hi1.out _, Box.put HI3.out.lt⟩
  
end Go.Proofs.YtaamphdihmghhaaGreatDoor
