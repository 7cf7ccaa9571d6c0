/- Two lists in order with the same members are one; who refers to a place, and all edges, as the one list in order. No function's text is walked here. · Deeds: a cell and its references; what all deeds in their order leave behind; Set at any deed. No function's text is walked here. · The contracts of targets.who and deps.Direct: who refers to a place, each once, in order. New memory alone is made. -/
import Derived.Test.YtcjanaldjokllaaGreatQFBFC
import Derived.Test.YtcjanaldjokllaaGreatQFS
namespace Go.Proofs.YtcjanaldjokllaaGreat
open Go.RowKit Go.Shelf
set_option linter.all false
theorem srt_uniq {α : Type} {lt : α → α → Prop} (has : ∀ x y, lt x y → ¬ lt y x) : ∀ (l k : List α), l.Pairwise lt → k.Pairwise lt → (∀ z, z ∈ l ↔ z ∈ k) → l = k
  | [], [], _, _, _ => rfl
  | [], y :: s, _, _, h => by have := (h y).2 List.mem_cons_self; cases this
  | x :: t, [], _, _, h => by have := (h x).1 List.mem_cons_self; cases this
  | x :: t, y :: s, h1, h2, h => by
    have k1 := List.pairwise_cons.1 h1
    have k2 := List.pairwise_cons.1 h2
    have e : x = y := by
      rcases List.mem_cons.1 ((h x).1 List.mem_cons_self) with q | q
      · exact q
      · rcases List.mem_cons.1 ((h y).2 List.mem_cons_self) with p | p
        · exact p.symm
        · exact absurd (k1.1 y p) (has _ _ (k2.1 x q))
    subst e
    have hirr : ¬ lt x x := fun q => has _ _ q q
    rw [srt_uniq has t s k1.2 k2.2 (fun z => ⟨fun q => by
      rcases List.mem_cons.1 ((h z).1 (List.mem_cons_of_mem _ q)) with p | p
      · subst p; exact absurd (k1.1 _ q) hirr
      · exact p, fun q => by
      rcases List.mem_cons.1 ((h z).2 (List.mem_cons_of_mem _ q)) with p | p
      · subst p; exact absurd (k2.1 _ q) hirr
      · exact p⟩)]
theorem cmpK_as (x y : Cl) (h : cmpK x y < 0) : ¬ cmpK y x < 0 := by rw [cmpK_neg] at *; omega
theorem cmpD_as (x y : Ed) (h : cmpD x y < 0) : ¬ cmpD y x < 0 := fun q => by
  have h1 : ltOf cmpD x y = true := decide_eq_true h
  have h2 : ltOf cmpD y x = true := decide_eq_true q
  rw [cmpD_lt] at h1 h2
  omega
theorem cmpD_tr {x y z : Ed} (h : cmpD x y < 0) (q : cmpD y z < 0) : cmpD x z < 0 := by
  have h1 : ltOf cmpD x y = true := decide_eq_true h
  have h2 : ltOf cmpD y z = true := decide_eq_true q
  have h3 : ltOf cmpD x z = true := by rw [cmpD_lt] at *; omega
  exact of_decide_eq_true h3
abbrev SrtE (l : List Ed) : Prop := l.Pairwise (fun a b => cmpD a b < 0)
/-- Who refers to a place. -/
def IsWho (E : Int → Int → List Rf) (x y : Int) (l : List Cl) : Prop := SrtK l ∧ ∀ z, z ∈ l ↔ ∃ f, f ∈ E z.r z.c ∧ inB f.t f.l f.b f.q x y = true
/-- All references. -/
def IsEdg (E : Int → Int → List Rf) (l : List Ed) : Prop := SrtE l ∧ ∀ e, e ∈ l ↔ e.f ∈ E e.r e.c
theorem IsWho.uniq {E : Int → Int → List Rf} {x y : Int} {l k : List Cl} (h : IsWho E x y l) (h' : IsWho E x y k) : l = k := srt_uniq cmpK_as l k h.1 h'.1 (fun z => (h.2 z).trans (h'.2 z).symm)
theorem IsEdg.uniq {E : Int → Int → List Rf} {l k : List Ed} (h : IsEdg E l) (h' : IsEdg E k) : l = k := srt_uniq cmpD_as l k h.1 h'.1 (fun z => (h.2 z).trans (h'.2 z).symm)
/-- No more than M references. -/
def Few (E : Int → Int → List Rf) (M : Nat) : Prop := ∀ l : List Ed, l.Nodup → (∀ e ∈ l, e.f ∈ E e.r e.c) → l.length ≤ M
theorem Few.none : Few (fun _ _ => []) 0 := fun l _ h => by
  cases l with
  | nil => exact Nat.le_refl _
  | cons x t => have := h x List.mem_cons_self; cases this
theorem nodup_len {α : Type} : ∀ (l k : List α), l.Nodup → (∀ x ∈ l, x ∈ k) → l.length ≤ k.length
  | [], _, _, _ => Nat.zero_le _
  | x :: t, k, h1, h2 => by
    obtain ⟨s1, s2, rfl⟩ := List.append_of_mem (h2 x List.mem_cons_self)
    have h3 := List.nodup_cons.1 h1
    have := nodup_len t (s1 ++ s2) h3.2 (fun y hy => by
      have := h2 y (List.mem_cons_of_mem _ hy)
      rcases List.mem_append.1 this with q | q
      · exact List.mem_append_left _ q
      · rcases List.mem_cons.1 q with p | p
        · subst p; exact absurd hy h3.1
        · exact List.mem_append_right _ p)
    simp only [List.length_cons, List.length_append] at *
    omega
theorem Few.upd {E : Int → Int → List Rf} {M : Nat} (h : Few E M) (r c : Int) (L : List Rf) : Few (updE E r c L) (M + L.length) := fun l h1 h2 => by
  have hp : l.length = (l.filter (fun e => decide (e.r = r ∧ e.c = c))).length + (l.filter (fun e => !decide (e.r = r ∧ e.c = c))).length := by
    clear h1 h2
    induction l with
    | nil => rfl
    | cons a t ih =>
      by_cases q : (a.r = r ∧ a.c = c)
      · rw [List.filter_cons_of_pos (by simpa using q), List.filter_cons_of_neg (by simpa using q), List.length_cons, List.length_cons, ih]; omega
      · rw [List.filter_cons_of_neg (by rw [decide_eq_true_iff]; exact q), List.filter_cons_of_pos (by rw [decide_eq_false q]; rfl), List.length_cons, List.length_cons, ih]; omega
  have q1 : (l.filter (fun e => decide (e.r = r ∧ e.c = c))).length ≤ (L.map (Ed.mk r c)).length := nodup_len _ _ (h1.filter _) (fun e he => by
    obtain ⟨a1, a2⟩ := List.mem_filter.1 he
    have a3 := of_decide_eq_true a2
    have a4 := h2 e a1
    unfold updE at a4
    rw [if_pos a3] at a4
    refine List.mem_map.2 ⟨e.f, a4, ?_⟩
    obtain ⟨er, ec, ef⟩ := e
    simp only at a3
    rw [a3.1, a3.2])
  have q2 := h (l.filter (fun e => !decide (e.r = r ∧ e.c = c))) (h1.filter _) (fun e he => by
    obtain ⟨a1, a2⟩ := List.mem_filter.1 he
    have a3 : ¬ (e.r = r ∧ e.c = c) := fun q => by rw [decide_eq_true q] at a2; cases a2
    have a4 := h2 e a1
    unfold updE at a4
    rw [if_neg a3] at a4
    exact a4)
  rw [List.length_map] at q1
  omega
theorem Few.more {E : Int → Int → List Rf} {M M' : Nat} (h : Few E M) (hm : M ≤ M') : Few E M' := fun l h1 h2 => Nat.le_trans (h l h1 h2) hm
/-- Cells in order, each of which may be: not many. -/
theorem srtK_few {L : List Cl} (h : SrtK L) (hm : ∀ z ∈ L, mayC z.r z.c = true) : L.length ≤ 1048576 := by
  have hw : ∀ z ∈ L, 1 ≤ z.r ∧ z.r ≤ 4096 ∧ 1 ≤ z.c ∧ z.c ≤ 256 := fun z hz => mayC_is (hm z hz)
  have hp : L.Pairwise (fun x y => (x.r * 256 + x.c) < (y.r * 256 + y.c)) := by
    refine List.Pairwise.imp_of_mem ?_ h
    intro x y hx hy hxy
    have h1 := hw x hx
    have h2 := hw y hy
    rw [cmpK_neg] at hxy
    omega
  have := pw_len (f := fun z : Cl => z.r * 256 + z.c) (M := 4096 * 256 + 256 + 1) L (256 + 1) hp (fun x hx => by have := hw x hx; omega) (by omega)
  omega
theorem srtF_nodup {L : List Rf} (h : L.Pairwise (fun x y => cmpF x y < 0)) : L.Nodup := h.imp (fun {x y} q e => by
  subst e
  have : cmpF x x = 0 := (cmpF_zero x x).2 rfl
  omega)
theorem srtE_nodup {L : List Ed} (h : SrtE L) : L.Nodup := h.imp (fun {x y} q e => by
  subst e
  have : cmpD x x = 0 := (cmpD_zero x x).2 rfl
  omega)
/-- A list of all, put in order, each once. -/
theorem isWho_srt {E : Int → Int → List Rf} {x y : Int} {l : List Cl} (hm : ∀ z, z ∈ l ↔ ∃ f, f ∈ E z.r z.c ∧ inB f.t f.l f.b f.q x y = true) : IsWho E x y (cpt sCl (srtL cmpK l)) := by
  have h : (srtL cmpK l).Pairwise (fun x y => cmpK x y < 0 ∨ x = y) := (srtL_srt cmpK_swo l).imp (fun {x y} h => by
    by_cases h2 : cmpK x y < 0
    · exact .inl h2
    · exact .inr (cmpK_tot x y (decide_eq_false h2) (decide_eq_false h)))
  refine ⟨cpt_srt (s := sCl) (lt := fun x y => cmpK x y < 0) (fun _ _ => sCl_is) (fun h1 h2 => cmpK_tr h1 h2) h, fun z => ?_⟩
  rw [mem_cpt (fun _ _ => sCl_is), (srtL_perm cmpK l).mem_iff]
  exact hm z
theorem inB_one {t l x y : Int} : inB t l t l x y = true ↔ (t = x ∧ l = y) := by
  unfold inB
  rw [decide_eq_true_iff]
  omega
end Go.Proofs.YtcjanaldjokllaaGreat
namespace Go.Proofs.YtcjanaldjokllaaGreat
open Go.RowKit Go.Shelf
set_option linter.all false
/-- A deed: the cell, its slice, the references in it. -/
structure Dv where
  r : Int
  c : Int
  p : Option Addr
  n : Nat
  k : Nat
  l : List Rf
def Dv.v (d : Dv) : Value := .slice d.p d.n d.k
def Dv.cs (d : Dv) : List Value := [.int .i64 d.r, .int .i64 d.c, .slice d.p d.n d.k]
theorem Dv.len (d : Dv) : d.cs.length = 3 := rfl
theorem Dv.one (d : Dv) : ∀ u ∈ d.cs, u.oneCell' = true := by
  intro u hu
  simp [Dv.cs] at hu
  rcases hu with rfl | rfl | rfl <;> rfl
def Dv.ok (d : Dv) : Bool := mayC d.r d.c && d.l.all mayF
def Dv.err (d : Dv) : Int := if mayC d.r d.c = true then (if d.l.all mayF = true then 0 else 1) else 3
def stepE (E : Int → Int → List Rf) (d : Dv) : Int → Int → List Rf := if d.ok = true then updE E d.r d.c (onceR d.l) else E
def runE (D : List Dv) : Int → Int → List Rf := D.foldl stepE (fun _ _ => [])
theorem Few.step {E : Int → Int → List Rf} {M : Nat} (h : Few E M) (d : Dv) : Few (stepE E d) (M + d.l.length) := by
  unfold stepE
  split
  · exact (h.upd d.r d.c (onceR d.l)).more (by have := onceR_len d.l; omega)
  · exact h.more (by omega)
theorem Few.at {E : Int → Int → List Rf} {M : Nat} (h : Few E M) (hE : EOk E) (r c : Int) : (E r c).length ≤ M := by
  have := h ((E r c).map (Ed.mk r c)) (List.Pairwise.map _ (fun a b (q : a ≠ b) e => q (by injection e)) (srtF_nodup (hE.srt r c))) (fun e he => by
    obtain ⟨f, hf, rfl⟩ := List.mem_map.1 he
    exact hf)
  rwa [List.length_map] at this
theorem EOk.step {E : Int → Int → List Rf} (h : EOk E) (d : Dv) : EOk (stepE E d) := by
  unfold stepE
  split
  · rename_i e
    unfold Dv.ok at e
    rw [Bool.and_eq_true] at e
    exact updE_ok h e.1 (fun f hf => List.all_eq_true.1 e.2 f hf)
  · exact h
theorem Dp.more {w : World} {N : Nat} {B : Nat → Option TagD} {E : Int → Int → List Rf} {n m n' m' : Nat} (h : Dp w N B E n m) (hn : n ≤ n') (hm : m ≤ m') : Dp w N B E n' m' := by
  obtain ⟨h1, h2, h0, bf, bc, NB, h3, h4, h5⟩ := h
  exact ⟨h1, h2, h0, bf, bc, NB, h3, h4.more hn, h5.more hn hm⟩
theorem DpOut.more {w w' : World} {N : Nat} {B : Nat → Option TagD} {E : Int → Int → List Rf} {n m n' m' : Nat} (h : DpOut w N B E n m w') (hn : n ≤ n') (hm : m ≤ m') : DpOut w N B E n' m' w' := by
  obtain ⟨B', h1, h2⟩ := h
  exact ⟨B', h1.more hn hm, h2⟩
theorem Dp.out {w w' : World} {N : Nat} {B : Nat → Option TagD} {E : Int → Int → List Rf} {n m n' m' : Nat} (h : Dp w N B E n m) (hb : Below w.heap.size w w') (hn : n ≤ n') (hm : m ≤ m') : DpOut w N B E n' m' w' := ⟨B, (h.keep hb).more hn hm, Mut.of_below hb, fun _ _ => rfl⟩
theorem dset_any (w : World) (N : Nat) (B : Nat → Option TagD) (E : Int → Int → List Rf) (n m M : Nat) (d : Dv) (h : Dp w N B E n m) (hv : VF w d.v d.l) (hvb : ∀ p n c, d.v = .slice (some p) n c → 0 < n → B p.block = none) (hf : Few E M) (hM : M ≤ 1048576) (hl : d.l.length ≤ 1048576) (hn : n + 2097155 ≤ 3000000000000) (hm : m + d.l.length + 1 ≤ 3000000000000) : Calls Tryz.prog 10 #[.pointer (some ⟨N, 0, none⟩), .agg #[.int .i64 d.r, .int .i64 d.c], d.v] w fun e w' => e = .returned (.int .i64 d.err) ∧ DpOut w N B (stepE E d) (n + 2097153) (m + d.l.length) w' := by
  unfold Dv.err stepE Dv.ok
  cases hc : mayC d.r d.c
  · refine (dset_addr w N d.v d.r d.c hc).mono ?_
    rintro e w' ⟨rfl, hb⟩
    exact ⟨rfl, h.out hb (by omega) (by omega)⟩
  · cases ha : d.l.all mayF
    · refine (dset_arg w N d.v d.l d.r d.c hv hc ?_).mono ?_
      · have q : ¬ ∀ f ∈ d.l, mayF f = true := fun q => by rw [List.all_eq_true.2 q] at ha; cases ha
        have ⟨f, hf⟩ := Classical.not_forall.1 q
        have ⟨h1, h2⟩ := Classical.not_imp.1 hf
        exact ⟨f, h1, by simpa using h2⟩
      · rintro e w' ⟨rfl, hb⟩
        exact ⟨rfl, h.out hb (by omega) (by omega)⟩
    · have hE := hf.at h.ok d.r d.c
      refine (dset_ok w N B E n m d.v d.l d.r d.c h hv hvb hc (fun f hf => List.all_eq_true.1 ha f hf) (by omega) hm).mono ?_
      rintro e w' ⟨rfl, ho⟩
      exact ⟨rfl, ho.more (by omega) (Nat.le_refl _)⟩
/-- How much a row of deeds holds. -/
def cst (D : List Dv) : Nat := (D.map (fun d => d.l.length + 1)).sum
theorem cst_len (D : List Dv) : D.length ≤ cst D := by
  induction D with
  | nil => exact Nat.zero_le _
  | cons x t ih => simp only [cst, List.map_cons, List.sum_cons, List.length_cons] at ih ⊢; omega
/-- A Deps behind some deeds. -/
structure Dn (w : World) (N : Nat) (B : Nat → Option TagD) (D : List Dv) : Prop where
  dp : Dp w N B (runE D) (D.length * 2097153) (cst D)
  few : Few (runE D) (cst D)
theorem runE_few (D : List Dv) : Few (runE D) (cst D) := by
  have h : ∀ (D : List Dv) (E : Int → Int → List Rf) (M : Nat), Few E M → Few (D.foldl stepE E) (M + cst D) := by
    intro D
    induction D with
    | nil => intro E M h; exact h
    | cons d t ih =>
      intro E M h
      have := ih (stepE E d) _ (h.step d)
      refine this.more ?_
      simp only [cst, List.map_cons, List.sum_cons]
      omega
  have := h D _ 0 Few.none
  rwa [Nat.zero_add] at this
theorem runE_ok (D : List Dv) : EOk (runE D) := by
  have h : ∀ (D : List Dv) (E : Int → Int → List Rf), EOk E → EOk (D.foldl stepE E) := by
    intro D
    induction D with
    | nil => intro E h; exact h
    | cons d t ih => intro E h; exact ih _ (h.step d)
  exact h D _ ⟨fun _ _ => List.Pairwise.nil, fun _ _ f hf => by cases hf⟩
def DnOut (w : World) (N : Nat) (B : Nat → Option TagD) (D : List Dv) (w' : World) : Prop := ∃ B', Dn w' N B' D ∧ Mut (fun b => (B b).isSome = true) w w' ∧ (∀ b, b < w.heap.size → B' b = B b)
set_option maxRecDepth 100000 in
theorem dset_dn (w : World) (N : Nat) (B : Nat → Option TagD) (D : List Dv) (d : Dv) (h : Dn w N B D) (hv : VF w d.v d.l) (hvb : ∀ p n c, d.v = .slice (some p) n c → 0 < n → B p.block = none) (hs : cst (D ++ [d]) ≤ 1048576) : Calls Tryz.prog 10 #[.pointer (some ⟨N, 0, none⟩), .agg #[.int .i64 d.r, .int .i64 d.c], d.v] w fun e w' => e = .returned (.int .i64 d.err) ∧ DnOut w N B (D ++ [d]) w' := by
  have e1 : cst (D ++ [d]) = cst D + d.l.length + 1 := by simp [cst]; omega
  have e2 := cst_len D
  have e3 : runE (D ++ [d]) = stepE (runE D) d := by simp [runE]
  refine (dset_any w N B (runE D) _ _ (cst D) d h.dp hv hvb h.few (by omega) (by omega) ?_ (by omega)).mono ?_
  · have : D.length * 2097153 ≤ 2199024304128 := Nat.le_trans (Nat.mul_le_mul_right _ (show D.length ≤ 1048576 by omega)) (by decide)
    exact Nat.le_trans (Nat.add_le_add_right this _) (by decide)
  · rintro e w' ⟨rfl, B', k1, k2, k3⟩
    refine ⟨rfl, B', ⟨?_, runE_few _⟩, k2, k3⟩
    rw [e3]
    exact k1.more (by simp only [List.length_append, List.length_singleton]; omega) (by omega)
theorem Dn.keep {w w' : World} {N : Nat} {B : Nat → Option TagD} {D : List Dv} (h : Dn w N B D) (hb : Below w.heap.size w w') : Dn w' N B D := ⟨h.dp.keep hb, h.few⟩
end Go.Proofs.YtcjanaldjokllaaGreat
namespace Go.Proofs.YtcjanaldjokllaaGreat
open Go.RowKit Go.Shelf
set_option linter.all false
theorem RowG.vg {α : Type} {E : TypeId} {sz : Nat} {cs : α → List Value} {w : World} {base : Nat} {v : Value} {l : List α} (h : RowG E sz cs w base v l) : VG sz cs w v l := by
  rcases h.two with ⟨rfl, rfl⟩ | ⟨g, cap, cur, rfl, _, h1, h2, h3, h4, h5, h6⟩
  · exact .inl ⟨rfl, rfl⟩
  · refine .inr ⟨⟨g, 0, none⟩, cap, rfl, fun j u hu => ?_⟩
    rw [add_none, Nat.zero_add, cell_row h2]
    rw [← h6, List.getElem?_take] at hu
    split at hu
    · simpa using hu
    · cases hu
theorem Own.lowD {w w' : World} {b w0 : Nat} {A : Array Value} (h : Own w b A) (hb : Below w0 w w') (hl : b < w0) : Own w' b A := h.of_block (hb.block b hl)
theorem RowG.sl {α : Type} {E : TypeId} {sz : Nat} {cs : α → List Value} {w : World} {base : Nat} {v : Value} {l : List α} (h : RowG E sz cs w base v l) : ∃ q n c, v = .slice q n c := by
  rcases h.two with ⟨rfl, rfl⟩ | ⟨g, cap, cur, rfl, _⟩ <;> exact ⟨_, _, _, rfl⟩
theorem RowG.up {α : Type} {E : TypeId} {sz : Nat} {cs : α → List Value} {w : World} {base base' : Nat} {v : Value} {l : List α} (hc : ∀ x, (cs x).length = sz) (h : RowG E sz cs w base v l) (hb : ∀ g, v.ownBlock = some g → base' ≤ g) : RowG E sz cs w base' v l := by
  rcases h.two with ⟨rfl, rfl⟩ | ⟨g, cap, cur, rfl, _, h1, h2, h3, h4, h5, h6⟩
  · exact RowG.nil _
  · exact RowG.mk hc rfl (hb g rfl) h2 h3 h4 h5 h6
set_option maxRecDepth 100000 in
set_option maxHeartbeats 4000000 in
theorem who_any (w : World) (bc NB : Nat) (B : Nat → Option TagD) (G : Int → Int → Rf → Prop) (n m : Nat) (x y : Int) (h : To w bc NB B G n m) (hx : I64 x) (hy : I64 y) (hG : ∀ r c f, G r c f → mayC r c = true) : Calls Tryz.prog 78 #[.agg #[.map (some bc), .pointer (some ⟨NB, 0, none⟩)], .agg #[.int .i64 x, .int .i64 y]] w fun e w' => ∃ v, e = .returned v ∧ ∃ l, RowG 32 2 Cl.cs w' w.heap.size v l ∧ l.length ≤ 2097152 ∧ (∀ z, z ∈ l ↔ ((∃ t p b q, G z.r z.c ⟨true, t, p, b, q⟩ ∧ inB t p b q x y = true) ∨ G z.r z.c ⟨false, x, y, x, y⟩)) ∧ Below w.heap.size w w' := by
  have mixed : Tryz.prog.follows .mixedOrders = true := by kernel_rfl
  obtain ⟨⟨fc, h1, h2⟩, h3, Db, P, h4, h5, h6⟩ := h
  obtain ⟨L, k1, k2, k3, k4, k5, k6⟩ := h2 x y hx hy
  obtain ⟨v0, hv⟩ : ∃ v0, v0 = fc x y := ⟨_, rfl⟩
  rw [← hv] at k1
  have hs1 : SrtK (overP P x y) := (overP_srt h4.srt x y).imp (fun {a b} q => (cmpK_neg a b).2 q)
  have hm1 : ∀ z ∈ overP P x y, mayC z.r z.c = true := fun z hz => by
    obtain ⟨p, q1, q2, rfl⟩ := (overP_mem h4.srt x y z).1 hz
    exact (h4.may p q1).1
  have hl1 := srtK_few hs1 hm1
  have hl2 : L.length ≤ 1048576 := srtK_few k3 (fun z hz => hG _ _ _ ((k4 z).1 hz))
  have HMem : Hid (∀ z, z ∈ overP P x y ++ L ↔ ((∃ t p b q, G z.r z.c ⟨true, t, p, b, q⟩ ∧ inB t p b q x y = true) ∨ G z.r z.c ⟨false, x, y, x, y⟩)) := (show _ from fun z => by
    rw [List.mem_append, k4, overP_mem h4.srt]
    constructor
    · rintro (⟨p, q1, q2, rfl⟩ | q)
      · exact .inl ⟨p.t, p.l, p.b, p.q, (h6 p).1 q1, q2⟩
      · exact .inr q
    · rintro (⟨t, p, b, q, q1, q2⟩ | q)
      · exact .inl ⟨⟨z.r, z.c, t, p, b, q⟩, (h6 _).2 q1, q2, rfl⟩
      · exact .inr q)
  have HLen : Hid ((overP P x y ++ L).length ≤ 2097152) := (show _ ≤ _ by rw [List.length_append]; omega)
  have HOv : Hid (∀ W, Below w.heap.size w W → Calls Tryz.prog 108 #[.pointer (some ⟨NB, 0, none⟩), .agg #[.int .i64 x, .int .i64 y]] W fun e w' => ∃ v, e = .returned v ∧ RowG 32 2 Cl.cs w' W.heap.size v (overP P x y) ∧ Below W.heap.size W w') := (show _ from fun W hb => bover_any W NB Db P m x y (h4.keep hb))
  obtain ⟨qL, nL, cL, rfl⟩ := k1.sl
  have HL : Hid (∀ W, Below w.heap.size w W → (Instr.lookup 71 (.map (some bc)) (.agg #[.int .i64 x, .int .i64 y]) false).run Tryz.prog W = .ok (.slice qL nL cL) W) := (show _ from fun W hb => by rw [hv]; exact (h1.keep hb).look Tryz.underlying71 (zeroCells W) x y hx hy)
  obtain ⟨i0, hi0, hz0, hzs, hzb⟩ := info_parts infoCl
  have HAP : Hid (∀ W0 W u, RowG 32 2 Cl.cs W W0.heap.size u (overP P x y) → Below W0.heap.size W0 W → Below w.heap.size w W0 → ∃ q' n' c' w', (Builtin.append_ #[41, 41] 41 #[u, .slice qL nL cL]).run Tryz.prog W = .ok (.slice q' n' c') w' ∧ RowG 32 2 Cl.cs w' w.heap.size (.slice q' n' c') (overP P x y ++ L) ∧ Below w.heap.size w w' ∧ Below W0.heap.size W w') := (show _ from fun W0 W u q1 q2 q3 => by
    obtain ⟨q', n', c', w', r1, r2, r3⟩ := app_piece Tryz.underlying41 hi0 hz0 hzs hzb rfl (by omega) Cl.len Cl.one q1 (RowG.vg (RowG.keep (RowG.keep k1 q3) q2)) q2.size (by omega) (by omega) 41
    exact ⟨q', n', c', w', r1, RowG.mono r2 q3.size, (bup q3 q2).trans (r3.mono q3.size), r3⟩)
  clear h1 h2 h3 h4 h5 h6 k1 k2 k3 k4 k5 k6 hs1 hm1 hl1 hl2 hv hG hi0 hz0 hzs hzb i0 hx hy
  go_enter Tryz.func78, Tryz.ntmps78
  go_wp2
  obtain ⟨W1, hW1⟩ : ∃ W1 : World, W1 = (w.alloc (.cells #[.map (some bc), .pointer (some ⟨NB, 0, none⟩)] 74)).alloc (.cells #[.int .i64 x, .int .i64 y] 32) := ⟨_, rfl⟩
  have hB1 : Below w.heap.size w W1 := (by rw [hW1]; with_reducible (repeat' first | assumption | exact Below.refl _ _ | refine Below.drew ?_ | refine bdrewN ?_ _ | refine Below.setCell ?_ (by first | exact Nat.le_refl _ | (simp; done) | (simp; omega) | omega) _ | refine Below.alloc ?_ (by first | exact Nat.le_refl _ | (simp; done) | (simp; omega) | omega) _))
  have oT1 : Own W1 w.heap.size #[.map (some bc), .pointer (some ⟨NB, 0, none⟩)] := (by rw [hW1]; with_reducible (repeat' first | assumption | refine Own.drew ?_ | refine Own.drewN ?_ _ | (refine Own.at ?_; first | rfl | (simp; done)) | refine Own.past ?_ _))
  have oC1 : Own W1 (w.heap.size + 1) #[.int .i64 x, .int .i64 y] := (by rw [hW1]; with_reducible (repeat' first | assumption | refine Own.drew ?_ | refine Own.drewN ?_ _ | (refine Own.at ?_; first | rfl | (simp; done)) | refine Own.past ?_ _))
  have z1 := oC1.lt
  rw [← hW1]
  clear hW1
  have a10 : W1.cell? ⟨w.heap.size, 0, none⟩ = some (.map (some bc)) := oT1.cell 0; have a11 : W1.cell? ⟨w.heap.size, 1, none⟩ = some (.pointer (some ⟨NB, 0, none⟩)) := oT1.cell 1; have b10 : W1.cell? ⟨w.heap.size + 1, 0, none⟩ = some (.int .i64 x) := oC1.cell 0; have b11 : W1.cell? ⟨w.heap.size + 1, 1, none⟩ = some (.int .i64 y) := oC1.cell 1
  have hk1 := HL.out W1.drew zqb
  refine wp_region_held_drew (S := (fun w' => w'.cell? ⟨w.heap.size, 0, none⟩ = some (.map (some bc)) ∧ w'.cell? ⟨w.heap.size, 1, none⟩ = some (.pointer (some ⟨NB, 0, none⟩)) ∧ w'.cell? ⟨w.heap.size + 1, 0, none⟩ = some (.int .i64 x) ∧ w'.cell? ⟨w.heap.size + 1, 1, none⟩ = some (.int .i64 y) ∧ (Instr.lookup 71 (.map (some bc)) (.agg #[.int .i64 x, .int .i64 y]) false).run Tryz.prog w' = .ok (.slice qL nL cL) w')) (by kernel_rfl) (by (try dsimp only); ((repeat' apply And.intro) <;> (first | (go_keep; done) | (go_simp; done)))) (fun hHeld => ?_)
  refine wpAnyH_take (i := 0) (v := .pointer (some ⟨w.heap.size, 1, none⟩)) rfl (by kernel_rfl) (by kernel_rfl) (by kernel_rfl) (fun _ _ _ h => h) (Or.inl ⟨by first | rfl | kernel_rfl, by intro wz hSw; (try dsimp only at hSw); go_simp⟩) (by assumption) ?_
  (try simp only [Act.put, List.getElem_toArray, List.getElem_cons_succ, List.getElem_cons_zero, List.setIfInBounds_toArray, List.set_cons_zero, List.set_cons_succ])
  refine wpAnyH_take (i := 1) (v := .pointer (some ⟨NB, 0, none⟩)) rfl (by kernel_rfl) (by kernel_rfl) (by kernel_rfl) (fun _ _ _ h => h) (Or.inl ⟨by first | rfl | kernel_rfl, by intro wz hSw; (try dsimp only at hSw); go_simp⟩) (by assumption) ?_
  (try simp only [Act.put, List.getElem_toArray, List.getElem_cons_succ, List.getElem_cons_zero, List.setIfInBounds_toArray, List.set_cons_zero, List.set_cons_succ])
  refine wpAnyH_take (i := 2) (v := (.agg #[.int .i64 x, .int .i64 y])) rfl (by kernel_rfl) (by kernel_rfl) (by kernel_rfl) (fun _ _ _ h => h) (Or.inl ⟨by first | rfl | kernel_rfl, by intro wz hSw; (try dsimp only at hSw); go_simp⟩) (by assumption) ?_
  (try simp only [Act.put, List.getElem_toArray, List.getElem_cons_succ, List.getElem_cons_zero, List.setIfInBounds_toArray, List.set_cons_zero, List.set_cons_succ])
  refine wpAnyH_take (i := 4) (v := .pointer (some ⟨w.heap.size, 0, none⟩)) rfl (by kernel_rfl) (by kernel_rfl) (by kernel_rfl) (fun _ _ _ h => h) (Or.inl ⟨by first | rfl | kernel_rfl, by intro wz hSw; (try dsimp only at hSw); go_simp⟩) (by assumption) ?_
  (try simp only [Act.put, List.getElem_toArray, List.getElem_cons_succ, List.getElem_cons_zero, List.setIfInBounds_toArray, List.set_cons_zero, List.set_cons_succ])
  refine wpAnyH_take (i := 5) (v := .map (some bc)) rfl (by kernel_rfl) (by kernel_rfl) (by kernel_rfl) (fun _ _ _ h => h) (Or.inl ⟨by first | rfl | kernel_rfl, by intro wz hSw; (try dsimp only at hSw); go_simp⟩) (by assumption) ?_
  (try simp only [Act.put, List.getElem_toArray, List.getElem_cons_succ, List.getElem_cons_zero, List.setIfInBounds_toArray, List.set_cons_zero, List.set_cons_succ])
  refine wpAnyH_take (i := 6) (v := (.agg #[.int .i64 x, .int .i64 y])) rfl (by kernel_rfl) (by kernel_rfl) (by kernel_rfl) (fun _ _ _ h => h) (Or.inl ⟨by first | rfl | kernel_rfl, by intro wz hSw; (try dsimp only at hSw); go_simp⟩) (by assumption) ?_
  (try simp only [Act.put, List.getElem_toArray, List.getElem_cons_succ, List.getElem_cons_zero, List.setIfInBounds_toArray, List.set_cons_zero, List.set_cons_succ])
  refine wpAnyH_take (i := 7) (v := .slice qL nL cL) rfl (by kernel_rfl) (by kernel_rfl) (by kernel_rfl) (fun _ _ _ h => h) (Or.inl ⟨by first | rfl | kernel_rfl, by intro wz hSw; (try dsimp only at hSw); go_simp⟩) (by assumption) ?_
  (try simp only [Act.put, List.getElem_toArray, List.getElem_cons_succ, List.getElem_cons_zero, List.setIfInBounds_toArray, List.set_cons_zero, List.set_cons_succ])
  refine wpAnyH_ready (rs := [3]) (by kernel_rfl) (by simp) ?_
  refine AllReadyH.cons rfl (fun K hK => ?_) ?_
  · go_simp
    (go_at_call 108; refine (HOv.out _ zqb).mono ?_; rintro e wb ⟨u, rfl, q1, q2⟩; have hBb : Below w.heap.size w wb := bup zqb q2; have oTb : Own wb w.heap.size #[.map (some bc), .pointer (some ⟨NB, 0, none⟩)] := Own.keep (by with_reducible (repeat' first | assumption | refine Own.drew ?_ | refine Own.drewN ?_ _ | (refine Own.at ?_; first | rfl | (simp; done)) | refine Own.past ?_ _)) q2; have oCb : Own wb (w.heap.size + 1) #[.int .i64 x, .int .i64 y] := Own.keep (by with_reducible (repeat' first | assumption | refine Own.drew ?_ | refine Own.drewN ?_ _ | (refine Own.at ?_; first | rfl | (simp; done)) | refine Own.past ?_ _)) q2; have ab0 : wb.cell? ⟨w.heap.size, 0, none⟩ = some (.map (some bc)) := oTb.cell 0; have ab1 : wb.cell? ⟨w.heap.size, 1, none⟩ = some (.pointer (some ⟨NB, 0, none⟩)) := oTb.cell 1; have bb0 : wb.cell? ⟨w.heap.size + 1, 0, none⟩ = some (.int .i64 x) := oCb.cell 0; have bb1 : wb.cell? ⟨w.heap.size + 1, 1, none⟩ = some (.int .i64 y) := oCb.cell 1; have hkb := HL.out wb hBb; obtain ⟨q', n', c', W3, happ, r1, r2, r3⟩ := HAP.out _ wb u q1 q2 zqb; have oT3 := oTb.lowD r3 (by first | omega | (simp; omega)); have oC3 := oCb.lowD r3 (by first | omega | (simp; omega)); have a30 : W3.cell? ⟨w.heap.size, 0, none⟩ = some (.map (some bc)) := oT3.cell 0; have a31 : W3.cell? ⟨w.heap.size, 1, none⟩ = some (.pointer (some ⟨NB, 0, none⟩)) := oT3.cell 1; have b30 : W3.cell? ⟨w.heap.size + 1, 0, none⟩ = some (.int .i64 x) := oC3.cell 0; have b31 : W3.cell? ⟨w.heap.size + 1, 1, none⟩ = some (.int .i64 y) := oC3.cell 1; have hk3 := HL.out W3 r2; have HR3 : Hid (RowG 32 2 Cl.cs W3 w.heap.size (.slice q' n' c') (overP P x y ++ L)) := r1; have HB3 : Hid (Below w.heap.size w W3) := r2; clear q1 q2 r1 r2 r3)
    go_wp2_with fail
    refine hK.out _ _ (by (try dsimp only); first | (with_reducible assumption) | ((repeat' apply And.intro) <;> (first | (go_keep; done) | (go_simp; done)))) (fun hHeld => ?_)
    clear hK K
    (try simp only [Act.put, List.getElem_toArray, List.getElem_cons_succ, List.getElem_cons_zero, List.setIfInBounds_toArray, List.set_cons_zero, List.set_cons_succ])
    refine wpAnyH_ready (rs := [8]) (by kernel_rfl) (by simp) ?_
    refine AllReadyH.cons rfl (fun K hK => ?_) ?_
    · refine step_apps rfl (.tmp 8) (.tmp 12) 41 41 rfl u (.slice qL nL cL) (by simp [Act.eval, Act.put]) (by simp [Act.eval, Act.put]) happ ?_
      (try simp only [Act.put, List.getElem_toArray, List.getElem_cons_succ, List.getElem_cons_zero, List.setIfInBounds_toArray, List.set_cons_zero, List.set_cons_succ])
      refine hK.out _ _ (by (try dsimp only); first | (with_reducible assumption) | ((repeat' apply And.intro) <;> (first | (go_keep; done) | (go_simp; done)))) (fun hHeld => ?_)
      clear hK K
      (try simp only [Act.put, List.getElem_toArray, List.getElem_cons_succ, List.getElem_cons_zero, List.setIfInBounds_toArray, List.set_cons_zero, List.set_cons_succ])
      refine wpAnyH_ready (rs := [9]) (by kernel_rfl) (by simp) ?_
      refine AllReadyH.cons rfl (fun K hK => ?_) ?_
      · go_simp
        refine hK.out _ _ (by (try dsimp only); first | (with_reducible assumption) | ((repeat' apply And.intro) <;> (first | (go_keep; done) | (go_simp; done)))) (fun hHeld => ?_)
        clear hK K
        (try simp only [Act.put, List.getElem_toArray, List.getElem_cons_succ, List.getElem_cons_zero, List.setIfInBounds_toArray, List.set_cons_zero, List.set_cons_succ])
        refine wpAnyH_done (by kernel_rfl) ?_ _
        go_wp2
        go_ret
        exact ⟨_, rfl, _, HR3.out, HLen.out, HMem.out, HB3.out⟩
      exact AllReadyH.nil
    exact AllReadyH.nil
  exact AllReadyH.nil
set_option maxRecDepth 100000 in
set_option maxHeartbeats 4000000 in
theorem ddir_any (w : World) (N : Nat) (B : Nat → Option TagD) (E : Int → Int → List Rf) (n m : Nat) (x y : Int) (h : Dp w N B E n m) (hx : I64 x) (hy : I64 y) : Calls Tryz.prog 54 #[.pointer (some ⟨N, 0, none⟩), .agg #[.int .i64 x, .int .i64 y]] w fun e w' => ∃ v, e = .returned v ∧ ∃ l, RowG 32 2 Cl.cs w' w.heap.size v l ∧ IsWho E x y l ∧ Below w.heap.size w w' := by
  have mixed : Tryz.prog.follows .mixedOrders = true := by kernel_rfl
  obtain ⟨hE, hNT, hdom, bf, bc, NB, hN, hF, hT⟩ := h
  have a0 : w.cell? ⟨N, 0, none⟩ = some (.map (some bf)) := hN.cell 0
  have a1 : w.cell? ⟨N, 1, none⟩ = some (.map (some bc)) := hN.cell 1
  have a2 : w.cell? ⟨N, 2, none⟩ = some (.pointer (some ⟨NB, 0, none⟩)) := hN.cell 2
  have lN := hN.lt
  have HW : Hid (∀ W, Below w.heap.size w W → Calls Tryz.prog 78 #[.agg #[.map (some bc), .pointer (some ⟨NB, 0, none⟩)], .agg #[.int .i64 x, .int .i64 y]] W fun e w' => ∃ v, e = .returned v ∧ ∃ l, RowG 32 2 Cl.cs w' w.heap.size v l ∧ l.length ≤ 2097152 ∧ (∀ z, z ∈ l ↔ ∃ f, f ∈ E z.r z.c ∧ inB f.t f.l f.b f.q x y = true) ∧ Below w.heap.size w w' ∧ Below W.heap.size W w') := (show _ from fun W hb => (who_any W bc NB B (inE E) n m x y (hT.keep hb) hx hy (fun r c f hf => (hE.may r c f hf).2)).mono (by
    rintro e w' ⟨v, rfl, l, q1, q2, q3, q4⟩
    refine ⟨v, rfl, l, RowG.mono q1 hb.size, q2, fun z => (q3 z).trans ⟨?_, ?_⟩, bup hb q4, q4⟩
    · rintro (⟨t, p, b, q, p1, p2⟩ | p1)
      · exact ⟨_, p1, p2⟩
      · exact ⟨_, p1, inB_one.2 ⟨rfl, rfl⟩⟩
    · rintro ⟨f, p1, p2⟩
      cases hm : f.m
      · obtain ⟨e, _⟩ := mayF_one (hE.may z.r z.c f p1).1 hm
        rw [e] at p1 p2
        obtain ⟨rfl, rfl⟩ := inB_one.1 p2
        exact .inr p1
      · obtain ⟨fm, t, p, b, q⟩ := f
        simp only at hm
        subst hm
        exact .inl ⟨t, p, b, q, p1, p2⟩))
  have HSo : Hid (∀ W v l, RowG 32 2 Cl.cs W w.heap.size v l → l.length ≤ 2097152 → Below w.heap.size w W → Calls Tryz.prog 79 #[v, .func (.func 34) #[] #[]] W fun e w' => e = .returned (.tuple #[]) ∧ RowG 32 2 Cl.cs w' w.heap.size v (srtL cmpK l) ∧ Below w.heap.size w w') := (show _ from fun W v l q1 q2 q3 => (sortc_any W w.heap.size v l q1 (by omega)).mono (by
    rintro e w' ⟨rfl, k1, k2⟩
    exact ⟨rfl, k1, q3.trans (k2.to_below q3.size (fun k hk => (RowG.lt q1 k hk).1))⟩))
  have HCo : Hid (∀ W v l, RowG 32 2 Cl.cs W w.heap.size v (srtL cmpK l) → l.length ≤ 2097152 → Below w.heap.size w W → Calls Tryz.prog 80 #[v] W fun e w' => ∃ v', e = .returned v' ∧ RowG 32 2 Cl.cs w' w.heap.size v' (cpt sCl (srtL cmpK l)) ∧ Below w.heap.size w w') := (show _ from fun W v l q1 q2 q3 => (comp_anyc W v (srtL cmpK l) (RowG.mono q1 (Nat.zero_le _)) (by rw [srtL_len]; omega)).mono (by
    rintro e w' ⟨v', rfl, k1, k2, k3⟩
    exact ⟨v', rfl, RowG.up Cl.len k1 (fun g q => (k2 g q).elim (fun q2 => (RowG.lt q1 g q2).1) (fun q2 => Nat.le_trans q3.size q2)), q3.trans (k3.to_below q3.size (fun k hk => (RowG.lt q1 k hk).1))⟩))
  clear hNT hdom hF hT hE hx hy
  go_enter Tryz.func54, Tryz.ntmps54
  go_wp2
  go_region_held3 (fun w' => w'.cell? ⟨N, 0, none⟩ = some (.map (some bf)) ∧ w'.cell? ⟨N, 1, none⟩ = some (.map (some bc)) ∧ w'.cell? ⟨N, 2, none⟩ = some (.pointer (some ⟨NB, 0, none⟩)) ∧ w'.cell? ⟨w.heap.size, 0, none⟩ = some (.int .i64 x) ∧ w'.cell? ⟨w.heap.size, 1, none⟩ = some (.int .i64 y)) ((repeat' apply And.intro) <;> (first | (go_keep; done) | (go_simp; done))) ((go_at_call 78; refine (HW.out _ zqb).mono ?_; rintro e wa ⟨v, rfl, l, q1, q2, q3, q4, q5⟩; have oNa : Own wa N #[.map (some bf), .map (some bc), .pointer (some ⟨NB, 0, none⟩)] := Own.keep (by with_reducible (repeat' first | assumption | refine Own.drew ?_ | refine Own.drewN ?_ _ | (refine Own.at ?_; first | rfl | (simp; done)) | refine Own.past ?_ _)) q5; have oCa : Own wa w.heap.size #[.int .i64 x, .int .i64 y] := Own.keep (by with_reducible (repeat' first | assumption | refine Own.drew ?_ | refine Own.drewN ?_ _ | (refine Own.at ?_; first | rfl | (simp; done)) | refine Own.past ?_ _)) q5; have na0 : wa.cell? ⟨N, 0, none⟩ = some (.map (some bf)) := oNa.cell 0; have na1 : wa.cell? ⟨N, 1, none⟩ = some (.map (some bc)) := oNa.cell 1; have na2 : wa.cell? ⟨N, 2, none⟩ = some (.pointer (some ⟨NB, 0, none⟩)) := oNa.cell 2; have ca0 : wa.cell? ⟨w.heap.size, 0, none⟩ = some (.int .i64 x) := oCa.cell 0; have ca1 : wa.cell? ⟨w.heap.size, 1, none⟩ = some (.int .i64 y) := oCa.cell 1; have HR : Hid (RowG 32 2 Cl.cs wa w.heap.size v l) := q1; have HLe : Hid (l.length ≤ 2097152) := q2; have HM : Hid (∀ z, z ∈ l ↔ ∃ f, f ∈ E z.r z.c ∧ inB f.t f.l f.b f.q x y = true) := q3; have hBa : Below w.heap.size w wa := q4; clear q1 q2 q3 q4 q5))
  go_wp2_with (first
    | (go_at_call 79; refine (HSo.out _ v l (HR.out.keep zqb) HLe.out zqb).mono ?_; rintro e wb ⟨rfl, q1, q2⟩; have HRb : Hid (RowG 32 2 Cl.cs wb w.heap.size v (srtL cmpK l)) := q1; have hBb : Below w.heap.size w wb := q2; clear q1 q2)
    | (go_at_call 80; refine (HCo.out _ v l (HRb.out.keep zqb) HLe.out zqb).mono ?_; rintro e wc ⟨v', rfl, q1, q2⟩; have HRc : Hid (RowG 32 2 Cl.cs wc w.heap.size v' (cpt sCl (srtL cmpK l))) := q1; have hBc : Below w.heap.size w wc := q2; clear q1 q2))
  go_ret
  exact ⟨_, rfl, _, HRc.out, isWho_srt HM.out, hBc⟩
end Go.Proofs.YtcjanaldjokllaaGreat
