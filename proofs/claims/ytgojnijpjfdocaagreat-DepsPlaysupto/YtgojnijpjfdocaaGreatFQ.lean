/- Deeds: a cell and its references; what all deeds in their order leave behind; Set at any deed. No function's text is walked here. -/
import Derived.Test.YtgojnijpjfdocaaGreatFS
import Derived.Test.YtgojnijpjfdocaaGreatFP
namespace Go.Proofs.YtgojnijpjfdocaaGreat
open Go.RowKit Go.Shelf
set_option linter.all false
/-- A deed: the cell, its slice, the references in it. -/
structure Dv where
  r : Int
  c : Int
  p : Option Addr
  n : Nat
  k : Nat
  l : List Rf
def Dv.v (d : Dv) : Value := .slice d.p d.n d.k
def Dv.cs (d : Dv) : List Value := [.int .i64 d.r, .int .i64 d.c, .slice d.p d.n d.k]
theorem Dv.len (d : Dv) : d.cs.length = 3 := rfl
theorem Dv.one (d : Dv) : ∀ u ∈ d.cs, u.oneCell' = true := by
  intro u hu
  simp [Dv.cs] at hu
  rcases hu with rfl | rfl | rfl <;> rfl
def Dv.ok (d : Dv) : Bool := mayC d.r d.c && d.l.all mayF
def Dv.err (d : Dv) : Int := if mayC d.r d.c = true then (if d.l.all mayF = true then 0 else 1) else 3
def stepE (E : Int → Int → List Rf) (d : Dv) : Int → Int → List Rf := if d.ok = true then updE E d.r d.c (onceR d.l) else E
def runE (D : List Dv) : Int → Int → List Rf := D.foldl stepE (fun _ _ => [])
theorem runE_next {D : List Dv} {i : Nat} {d : Dv} (h : D[i]? = some d) : runE (D.take (i + 1)) = stepE (runE (D.take i)) d := by
  unfold runE
  rw [List.take_succ, h, List.foldl_append]
  rfl
theorem Few.step {E : Int → Int → List Rf} {M : Nat} (h : Few E M) (d : Dv) : Few (stepE E d) (M + d.l.length) := by
  unfold stepE
  split
  · exact (h.upd d.r d.c (onceR d.l)).more (by have := onceR_len d.l; omega)
  · exact h.more (by omega)
theorem Few.at {E : Int → Int → List Rf} {M : Nat} (h : Few E M) (hE : EOk E) (r c : Int) : (E r c).length ≤ M := by
  have := h ((E r c).map (Ed.mk r c)) (List.Pairwise.map _ (fun a b (q : a ≠ b) e => q (by injection e)) (srtF_nodup (hE.srt r c))) (fun e he => by
    obtain ⟨f, hf, rfl⟩ := List.mem_map.1 he
    exact hf)
  rwa [List.length_map] at this
theorem EOk.step {E : Int → Int → List Rf} (h : EOk E) (d : Dv) : EOk (stepE E d) := by
  unfold stepE
  split
  · rename_i e
    unfold Dv.ok at e
    rw [Bool.and_eq_true] at e
    exact updE_ok h e.1 (fun f hf => List.all_eq_true.1 e.2 f hf)
  · exact h
theorem Dp.more {w : World} {N : Nat} {B : Nat → Option TagD} {E : Int → Int → List Rf} {n m n' m' : Nat} (h : Dp w N B E n m) (hn : n ≤ n') (hm : m ≤ m') : Dp w N B E n' m' := by
  obtain ⟨h1, h2, h0, bf, bc, NB, h3, h4, h5⟩ := h
  exact ⟨h1, h2, h0, bf, bc, NB, h3, h4.more hn, h5.more hn hm⟩
theorem DpOut.more {w w' : World} {N : Nat} {B : Nat → Option TagD} {E : Int → Int → List Rf} {n m n' m' : Nat} (h : DpOut w N B E n m w') (hn : n ≤ n') (hm : m ≤ m') : DpOut w N B E n' m' w' := by
  obtain ⟨B', h1, h2⟩ := h
  exact ⟨B', h1.more hn hm, h2⟩
theorem Dp.out {w w' : World} {N : Nat} {B : Nat → Option TagD} {E : Int → Int → List Rf} {n m n' m' : Nat} (h : Dp w N B E n m) (hb : Below w.heap.size w w') (hn : n ≤ n') (hm : m ≤ m') : DpOut w N B E n' m' w' := ⟨B, (h.keep hb).more hn hm, Mut.of_below hb, fun _ _ => rfl⟩
theorem dset_any (w : World) (N : Nat) (B : Nat → Option TagD) (E : Int → Int → List Rf) (n m M : Nat) (d : Dv) (h : Dp w N B E n m) (hv : VF w d.v d.l) (hvb : ∀ p n c, d.v = .slice (some p) n c → 0 < n → B p.block = none) (hf : Few E M) (hM : M ≤ 1048576) (hl : d.l.length ≤ 1048576) (hn : n + 2097155 ≤ 3000000000000) (hm : m + d.l.length + 1 ≤ 3000000000000) : Calls Tryz.prog 11 #[.pointer (some ⟨N, 0, none⟩), .agg #[.int .i64 d.r, .int .i64 d.c], d.v] w fun e w' => e = .returned (.int .i64 d.err) ∧ DpOut w N B (stepE E d) (n + 2097153) (m + d.l.length) w' := by
  unfold Dv.err stepE Dv.ok
  cases hc : mayC d.r d.c
  · refine (dset_addr w N d.v d.r d.c hc).mono ?_
    rintro e w' ⟨rfl, hb⟩
    exact ⟨rfl, h.out hb (by omega) (by omega)⟩
  · cases ha : d.l.all mayF
    · refine (dset_arg w N d.v d.l d.r d.c hv hc ?_).mono ?_
      · have q : ¬ ∀ f ∈ d.l, mayF f = true := fun q => by rw [List.all_eq_true.2 q] at ha; cases ha
        have ⟨f, hf⟩ := Classical.not_forall.1 q
        have ⟨h1, h2⟩ := Classical.not_imp.1 hf
        exact ⟨f, h1, by simpa using h2⟩
      · rintro e w' ⟨rfl, hb⟩
        exact ⟨rfl, h.out hb (by omega) (by omega)⟩
    · have hE := hf.at h.ok d.r d.c
      refine (dset_ok w N B E n m d.v d.l d.r d.c h hv hvb hc (fun f hf => List.all_eq_true.1 ha f hf) (by omega) hm).mono ?_
      rintro e w' ⟨rfl, ho⟩
      exact ⟨rfl, ho.more (by omega) (Nat.le_refl _)⟩
/-- How much a row of deeds holds. -/
def cst (D : List Dv) : Nat := (D.map (fun d => d.l.length + 1)).sum
theorem cst_take {D : List Dv} {i : Nat} {d : Dv} (h : D[i]? = some d) : cst (D.take (i + 1)) = cst (D.take i) + d.l.length + 1 := by
  unfold cst
  rw [List.take_succ, h]
  simp
  omega
theorem cst_le (D : List Dv) (i : Nat) : cst (D.take i) ≤ cst D := by
  unfold cst
  conv => rhs; rw [← List.take_append_drop i D]
  rw [List.map_append, List.sum_append]
  omega
theorem cst_len (D : List Dv) : D.length ≤ cst D := by
  induction D with
  | nil => exact Nat.zero_le _
  | cons x t ih => simp only [cst, List.map_cons, List.sum_cons, List.length_cons] at ih ⊢; omega
/-- A Deps behind some deeds. -/
structure Dn (w : World) (N : Nat) (B : Nat → Option TagD) (D : List Dv) : Prop where
  dp : Dp w N B (runE D) (D.length * 2097153) (cst D)
  few : Few (runE D) (cst D)
theorem runE_few (D : List Dv) : Few (runE D) (cst D) := by
  have h : ∀ (D : List Dv) (E : Int → Int → List Rf) (M : Nat), Few E M → Few (D.foldl stepE E) (M + cst D) := by
    intro D
    induction D with
    | nil => intro E M h; exact h
    | cons d t ih =>
      intro E M h
      have := ih (stepE E d) _ (h.step d)
      refine this.more ?_
      simp only [cst, List.map_cons, List.sum_cons]
      omega
  have := h D _ 0 Few.none
  rwa [Nat.zero_add] at this
theorem runE_ok (D : List Dv) : EOk (runE D) := by
  have h : ∀ (D : List Dv) (E : Int → Int → List Rf), EOk E → EOk (D.foldl stepE E) := by
    intro D
    induction D with
    | nil => intro E h; exact h
    | cons d t ih => intro E h; exact ih _ (h.step d)
  exact h D _ ⟨fun _ _ => List.Pairwise.nil, fun _ _ f hf => by cases hf⟩
def DnOut (w : World) (N : Nat) (B : Nat → Option TagD) (D : List Dv) (w' : World) : Prop := ∃ B', Dn w' N B' D ∧ Mut (fun b => (B b).isSome = true) w w' ∧ (∀ b, b < w.heap.size → B' b = B b)
set_option maxRecDepth 100000 in
theorem dset_dn (w : World) (N : Nat) (B : Nat → Option TagD) (D : List Dv) (d : Dv) (h : Dn w N B D) (hv : VF w d.v d.l) (hvb : ∀ p n c, d.v = .slice (some p) n c → 0 < n → B p.block = none) (hs : cst (D ++ [d]) ≤ 1048576) : Calls Tryz.prog 11 #[.pointer (some ⟨N, 0, none⟩), .agg #[.int .i64 d.r, .int .i64 d.c], d.v] w fun e w' => e = .returned (.int .i64 d.err) ∧ DnOut w N B (D ++ [d]) w' := by
  have e1 : cst (D ++ [d]) = cst D + d.l.length + 1 := by simp [cst]; omega
  have e2 := cst_len D
  have e3 : runE (D ++ [d]) = stepE (runE D) d := by simp [runE]
  refine (dset_any w N B (runE D) _ _ (cst D) d h.dp hv hvb h.few (by omega) (by omega) ?_ (by omega)).mono ?_
  · have : D.length * 2097153 ≤ 2199024304128 := Nat.le_trans (Nat.mul_le_mul_right _ (show D.length ≤ 1048576 by omega)) (by decide)
    exact Nat.le_trans (Nat.add_le_add_right this _) (by decide)
  · rintro e w' ⟨rfl, B', k1, k2, k3⟩
    refine ⟨rfl, B', ⟨?_, runE_few _⟩, k2, k3⟩
    rw [e3]
    exact k1.more (by simp only [List.length_append, List.length_singleton]; omega) (by omega)
theorem Dn.keep {w w' : World} {N : Nat} {B : Nat → Option TagD} {D : List Dv} (h : Dn w N B D) (hb : Below w.heap.size w w') : Dn w' N B D := ⟨h.dp.keep hb, h.few⟩
end Go.Proofs.YtgojnijpjfdocaaGreat
