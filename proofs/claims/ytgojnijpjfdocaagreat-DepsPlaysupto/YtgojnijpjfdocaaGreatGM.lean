/- The first deed of each cell; deeds of unlike cells the other way round leave the same behind; a list of deeds, one more. No function's text is walked here. -/
import Derived.Test.YtgojnijpjfdocaaGreatGD
namespace Go.Proofs.YtgojnijpjfdocaaGreat
open Go.RowKit Go.Shelf
set_option linter.all false
theorem D2w.fresh {F G : Nat → Prop} {w : World} {Na Nb : Nat} {Da Db : List Dv} (h : D2w F w Na Da Nb Db) (hS : ∀ b, G b → F b ∨ w.heap.size ≤ b) : D2w G w Na Da Nb Db := by
  obtain ⟨Ba, Bb, h1, h2, h3, h4⟩ := h
  exact ⟨Ba, Bb, h1, h2, fun b q => (hS b q).elim (h3 b) (fun q2 => ⟨h1.dp.dom b q2, h2.dp.dom b q2⟩), h4⟩
def isD (d e : Dv) : Bool := sameC e.r e.c d.r d.c
def fsS (acc : List Dv) (d : Dv) : List Dv := if acc.any (isD d) = true then acc else acc ++ [d]
/-- Of each cell the first. -/
def fsts (l : List Dv) : List Dv := l.foldl fsS []
theorem fsts_next {l : List Dv} {i : Nat} {d : Dv} (h : l[i]? = some d) : fsts (l.take (i + 1)) = fsS (fsts (l.take i)) d := by
  unfold fsts
  rw [List.take_succ, h, List.foldl_append]
  rfl
theorem fs_all : ∀ (l acc : List Dv), (∀ d ∈ l.foldl fsS acc, d ∈ acc ∨ d ∈ l)
  | [], acc, d, h => .inl h
  | e :: t, acc, d, h => by
    rcases fs_all t (fsS acc e) d h with q | q
    · unfold fsS at q
      split at q
      · exact .inl q
      · rcases List.mem_append.1 q with p | p
        · exact .inl p
        · exact .inr (by rw [List.mem_singleton.1 p]; exact List.mem_cons_self)
    · exact .inr (List.mem_cons_of_mem _ q)
theorem fsts_mem {l : List Dv} {d : Dv} (h : d ∈ fsts l) : d ∈ l := (fs_all l [] d h).elim (fun q => by cases q) id
theorem fs_pw : ∀ (l acc : List Dv), acc.Pairwise (fun a b => sameC a.r a.c b.r b.c = false) → (l.foldl fsS acc).Pairwise (fun a b => sameC a.r a.c b.r b.c = false)
  | [], acc, h => h
  | e :: t, acc, h => by
    refine fs_pw t (fsS acc e) ?_
    unfold fsS
    split
    · exact h
    · rename_i q
      rw [List.pairwise_append]
      refine ⟨h, List.pairwise_singleton _ _, fun a ha b hb => ?_⟩
      rw [List.mem_singleton.1 hb]
      cases hh : sameC a.r a.c e.r e.c
      · rfl
      · exact absurd (List.any_eq_true.2 ⟨a, ha, hh⟩) q
theorem fsts_pw (l : List Dv) : (fsts l).Pairwise (fun a b => sameC a.r a.c b.r b.c = false) := fs_pw l [] List.Pairwise.nil
theorem fs_cst : ∀ (l acc : List Dv), cst (l.foldl fsS acc) ≤ cst acc + cst l
  | [], acc => Nat.le_add_right _ _
  | e :: t, acc => by
    have := fs_cst t (fsS acc e)
    have h2 : cst (fsS acc e) ≤ cst acc + (e.l.length + 1) := by
      unfold fsS
      split
      · omega
      · rw [cst_app]; omega
    rw [cst_cons]
    simp only [List.foldl_cons]
    omega
theorem fsts_cst (l : List Dv) : cst (fsts l) ≤ cst l := by
  have := fs_cst l []
  have e : cst [] = 0 := rfl
  unfold fsts
  omega
theorem cst_rev (l : List Dv) : cst l.reverse = cst l := by
  induction l with
  | nil => rfl
  | cons d t ih => rw [List.reverse_cons, cst_app, cst_cons, ih]; omega
theorem step_comm (E : Int → Int → List Rf) {d e : Dv} (h : sameC d.r d.c e.r e.c = false) : stepE (stepE E d) e = stepE (stepE E e) d := by
  have hn : ¬ (d.r = e.r ∧ d.c = e.c) := fun q => by rw [sameC_is.2 q] at h; cases h
  unfold stepE
  cases h1 : d.ok <;> cases h2 : e.ok <;> simp
  exact updE_comm E _ _ hn
theorem run_last : ∀ (t : List Dv) (E : Int → Int → List Rf) (d : Dv), (∀ e ∈ t, sameC d.r d.c e.r e.c = false) → t.foldl stepE (stepE E d) = stepE (t.foldl stepE E) d
  | [], _, _, _ => rfl
  | e :: t, E, d, h => by
    simp only [List.foldl_cons]
    rw [step_comm E (h e List.mem_cons_self)]
    exact run_last t (stepE E e) d (fun x hx => h x (List.mem_cons_of_mem _ hx))
theorem run_rev : ∀ (l : List Dv) (E : Int → Int → List Rf), l.Pairwise (fun a b => sameC a.r a.c b.r b.c = false) → l.reverse.foldl stepE E = l.foldl stepE E
  | [], _, _ => rfl
  | d :: t, E, h => by
    have h1 := List.pairwise_cons.1 h
    rw [List.reverse_cons, List.foldl_append, List.foldl_cons, List.foldl_nil, List.foldl_cons, run_rev t E h1.2]
    exact (run_last t E d h1.1).symm
theorem runE_rev (l : List Dv) : runE (fsts l).reverse = runE (fsts l) := run_rev _ _ (fsts_pw l)
theorem infoDv : (Tryz.prog.info? 35).map (fun i => (i.zero, i.size, i.bytes)) = some (some (.agg #[.int .i64 0, .int .i64 0, .slice none 0 0]), 3, 40) := by kernel_rfl
/-- A list of deeds, one more. -/
def ApV (base : Nat) : Prop := ∀ W (v : Value) (L : List Dv) vb (x : Dv), RowG 35 3 Dv.cs W base v L → W.heap[vb]? = some (.cells x.cs.toArray 35 (0, 0)) → base ≤ W.heap.size → (L.length + 1) * 40 ≤ 140737488355328 → ∀ ty, ∃ v' w', (Builtin.append_ #[22, 22] ty #[v, .slice (some ⟨vb, 0, none⟩) 1 1]).run Tryz.prog W = .ok v' w' ∧ RowG 35 3 Dv.cs w' base v' (L ++ [x]) ∧ Below base W w' ∧ (v'.ownBlock = v.ownBlock ∨ v'.ownBlock = some W.heap.size) ∧ Mut (fun b => v.ownBlock = some b) W w'
theorem apV (base : Nat) : ApV base := by
  obtain ⟨i0, hi0, hz0, hzs, hzb⟩ := info_parts infoDv
  exact fun W v L vb x r1 r2 r3 r4 ty => app_one Tryz.underlying22 hi0 hz0 hzs hzb rfl (by omega) Dv.len Dv.one r1 r2 r3 r4 (by omega) ty
end Go.Proofs.YtgojnijpjfdocaaGreat
