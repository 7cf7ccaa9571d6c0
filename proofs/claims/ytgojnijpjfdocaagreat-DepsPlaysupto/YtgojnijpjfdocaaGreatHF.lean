/- A Deps and the document's beside it. No function's text is walked here. -/
import Derived.Test.YtgojnijpjfdocaaGreatHC
namespace Go.Proofs.YtgojnijpjfdocaaGreat
open Go.RowKit Go.Shelf
set_option linter.all false
/-- The program's Deps at N behind the deeds Da, the document's at R behind Db; the blocks of F are none of their own. -/
def DR (F : Nat → Prop) (w : World) (N : Nat) (Da : List Dv) (R : Nat) (Db : List Dv) : Prop := ∃ v P, Own w R #[v] ∧ RowD w 0 v P ∧ IsEdg (runE Db) P ∧ ¬ F R ∧ (∀ g, v.ownBlock = some g → ¬ F g) ∧ Dw (fun b => F b ∨ b = R ∨ v.ownBlock = some b) w N Da
theorem own_ne {w : World} {R : Nat} {v : Value} {P : List Ed} (h : Own w R #[v]) (hr : RowD w 0 v P) : v.ownBlock ≠ some R := fun q => by
  rcases hr.two with ⟨rfl, _⟩ | ⟨g, cap, cur, rfl, _, h1, h2, h3, h4, h5, h6⟩
  · cases q
  · have e : g = R := by injection q
    subst e
    have ho := own_row h2
    have h0 := (h.cell 0).symm.trans (ho.cell 0)
    have h1' := (h.cell 6).symm.trans (ho.cell 6)
    by_cases hc : cap = 0
    · rw [Array.getElem?_eq_none (show cur.size ≤ 0 by rw [h5, hc]; omega)] at h0
      cases h0
    · rw [Array.getElem?_eq_none (show (#[(Value.slice (some ⟨g, 0, none⟩) P.length cap)] : Array Value).size ≤ 6 by simp), Array.getElem?_eq_getElem (show 6 < cur.size by rw [h5]; omega)] at h1'
      cases h1'
theorem DR.keep {F : Nat → Prop} {w w' : World} {N R : Nat} {Da Db : List Dv} (h : DR F w N Da R Db) (hb : Below w.heap.size w w') : DR F w' N Da R Db := by
  obtain ⟨v, P, h1, h2, h3, h4, h5, h6⟩ := h
  exact ⟨v, P, h1.keep hb, RowG.keep h2 hb, h3, h4, h5, h6.keep hb⟩
theorem DR.fresh {F G : Nat → Prop} {w : World} {N R : Nat} {Da Db : List Dv} (h : DR F w N Da R Db) (hG : ∀ b, G b → F b ∨ w.heap.size ≤ b) : DR G w N Da R Db := by
  obtain ⟨v, P, h1, h2, h3, h4, h5, h6⟩ := h
  refine ⟨v, P, h1, h2, h3, fun q => (hG R q).elim h4 (fun p => by have := h1.lt; omega), fun g hg q => (hG g q).elim (h5 g hg) (fun p => by have := (RowG.lt h2 g hg).2; omega), h6.fresh (fun b q => ?_)⟩
  rcases q with q | q
  · exact (hG b q).elim (fun p => .inl (.inl p)) .inr
  · exact .inl (.inr q)
theorem DR.turn {F S : Nat → Prop} {w w' : World} {N R : Nat} {Da Db : List Dv} (h : DR F w N Da R Db) (hm : Mut S w w') (hs : ∀ b, S b → F b) : DR F w' N Da R Db := by
  obtain ⟨v, P, h1, h2, h3, h4, h5, h6⟩ := h
  exact ⟨v, P, h1.mut hm (fun q => h4 (hs _ q)), RowG.mut h2 hm (fun g hg q => h5 g hg (hs g q)), h3, h4, h5, h6.turn hm (fun b q => .inl (hs b q))⟩
theorem DR.dw {F : Nat → Prop} {w : World} {N R : Nat} {Da Db : List Dv} (h : DR F w N Da R Db) : Dw F w N Da := by
  obtain ⟨v, P, h1, h2, h3, h4, h5, h6⟩ := h
  exact Dw.fresh h6 (fun b q => .inl (.inl q))
theorem edg_len {D : List Dv} {P : List Ed} (h : IsEdg (runE D) P) : P.length ≤ cst D := runE_few D P (srtE_nodup h.1) (fun e he => (h.2 e).1 he)
theorem DR.lt {F : Nat → Prop} {w : World} {N R : Nat} {Da Db : List Dv} (h : DR F w N Da R Db) : R < w.heap.size := by
  obtain ⟨v, P, h1, _⟩ := h
  exact h1.lt
theorem DR.made {F : Nat → Prop} {w W : World} {N : Nat} (h : Dw F w N []) (hF : ∀ b, F b → b < w.heap.size) (hb : Below w.heap.size w W) (hR : Own W w.heap.size #[.slice none 0 0]) : DR F W N [] w.heap.size [] :=
  ⟨.slice none 0 0, [], hR, RowG.nil _, ⟨List.Pairwise.nil, fun e => ⟨fun q => (by cases q), fun q => (by cases q)⟩⟩, fun q => by have := hF _ q; omega, fun g hg => (by cases hg), (Dw.fresh h (fun b q => by
    rcases q with q | q | q
    · exact .inl q
    · exact .inr (by omega)
    · cases q)).keep hb⟩
theorem Mut.wide {S T : Nat → Prop} {w w' : World} (h : Mut S w w') (hs : ∀ b, S b → T b) : Mut T w w' := ⟨h.os, h.tape, h.output, h.size, fun b hb hn => h.block b hb (fun q => hn (hs b q))⟩
theorem drd_set (w : World) (F : Nat → Prop) (N R : Nat) (Da Db : List Dv) (d : Dv) (h : DR F w N Da R Db) (hF : ∀ b, F b → b < w.heap.size) (hv : VF w d.v d.l) (hvb : ∀ p n c, d.v = .slice (some p) n c → 0 < n → F p.block) (hs : cst (Da ++ [d]) ≤ 1048576) : Calls Tryz.prog 11 #[.pointer (some ⟨N, 0, none⟩), .agg #[.int .i64 d.r, .int .i64 d.c], d.v] w fun e w' => e = .returned (.int .i64 d.err) ∧ DR F w' N (Da ++ [d]) R Db ∧ Mut (fun b => ¬ F b) w w' := by
  obtain ⟨v, P, h1, h2, h3, h4, h5, h6⟩ := h
  refine (dset_dw w N _ Da d h6 (fun b q => ?_) hv (fun p n c e q => .inl (hvb p n c e q)) hs).mono ?_
  · rcases q with q | q | q
    · exact hF b q
    · rw [q]; exact h1.lt
    · exact (RowG.lt h2 b q).2
  · rintro e w' ⟨rfl, k1, k2⟩
    exact ⟨rfl, ⟨v, P, h1.mut k2 (fun q => q (.inr (.inl rfl))), RowG.mut h2 k2 (fun g hg q => q (.inr (.inr hg))), h3, h4, h5, k1⟩, Mut.wide k2 (fun b q p => q (.inl p))⟩
theorem drr_set (w : World) (F : Nat → Prop) (N R : Nat) (Da Db : List Dv) (d : Dv) (h : DR F w N Da R Db) (hF : ∀ b, F b → b < w.heap.size) (hv : VF w d.v d.l) (hs : cst (Db ++ [d]) ≤ 1048576) : Calls Tryz.prog 12 #[.pointer (some ⟨R, 0, none⟩), .agg #[.int .i64 d.r, .int .i64 d.c], d.v] w fun e w' => e = .returned (.int .i64 d.err) ∧ DR F w' N Da R (Db ++ [d]) ∧ Mut (fun b => ¬ F b) w w' := by
  obtain ⟨v, P, h1, h2, h3, h4, h5, h6⟩ := h
  have hrun : runE (Db ++ [d]) = stepE (runE Db) d := by simp [runE]
  have hsame : d.ok = false → ∀ w', Below w.heap.size w w' → DR F w' N Da R (Db ++ [d]) ∧ Mut (fun b => ¬ F b) w w' := fun ho w' hb => by
    refine ⟨⟨v, P, h1.keep hb, RowG.keep h2 hb, ?_, h4, h5, h6.keep hb⟩, Mut.of_below hb⟩
    rw [hrun]
    unfold stepE
    rw [ho]
    exact h3
  unfold Dv.err
  cases hc : mayC d.r d.c
  · refine (rset_addr w R d.v d.r d.c hc).mono ?_
    rintro e w' ⟨rfl, hb⟩
    exact ⟨rfl, hsame (by unfold Dv.ok; rw [hc]; rfl) w' hb⟩
  · cases ha : d.l.all mayF
    · refine (rset_arg w R d.v d.l d.r d.c hv hc ?_).mono ?_
      · have q : ¬ ∀ f ∈ d.l, mayF f = true := fun q => by rw [List.all_eq_true.2 q] at ha; cases ha
        have ⟨f, hf⟩ := Classical.not_forall.1 q
        have ⟨h1, h2⟩ := Classical.not_imp.1 hf
        exact ⟨f, h1, by simpa using h2⟩
      · rintro e w' ⟨rfl, hb⟩
        exact ⟨rfl, hsame (by unfold Dv.ok; rw [hc, ha]; rfl) w' hb⟩
    · have ho : d.ok = true := by unfold Dv.ok; rw [hc, ha]; rfl
      have hlen := edg_len h3
      rw [cst_app] at hs
      have q := rset_ok w R v P d.r d.c d.p d.n d.k d.l h1 h2 h3.1 hv hc (fun f hf => List.all_eq_true.1 ha f hf) (by omega)
      refine q.mono ?_
      rintro e w' ⟨rfl, P', ⟨⟨v', k1, k2, k3⟩, k4⟩, k5⟩
      refine ⟨rfl, ⟨v', P', k1, k2, ?_, h4, fun g hg q => ?_, ?_⟩, Mut.wide k4 (fun b q p => h4 (by rw [← q]; exact p))⟩
      · rw [hrun]
        exact Ins.last h3 k5 ho
      · rcases k3 g hg with p | p
        · exact h5 g p q
        · have := hF g q; omega
      · refine (Dw.fresh h6 (fun b q => ?_)).turn k4 (fun b q => .inr (.inl q))
        rcases q with q | q | q
        · exact .inl (.inl q)
        · exact .inl (.inr (.inl q))
        · exact (k3 b q).elim (fun p => .inl (.inr (.inr p))) .inr
theorem drr_dir (w : World) (F : Nat → Prop) (N R : Nat) (Da Db : List Dv) (x y : Int) (h : DR F w N Da R Db) (hs : cst Db ≤ 1048576) : Calls Tryz.prog 16 #[.pointer (some ⟨R, 0, none⟩), .agg #[.int .i64 x, .int .i64 y]] w fun e w' => ∃ u, e = .returned u ∧ ∃ k, RowG 33 2 Cl.cs w' w.heap.size u k ∧ IsWho (runE Db) x y k ∧ Below w.heap.size w w' := by
  obtain ⟨v, P, h1, h2, h3, h4, h5, h6⟩ := h
  have := edg_len h3
  exact rdir_any w R v P (runE Db) x y h1 h2 h3 (by omega)
/-- The document's list, as it lies. -/
theorem DR.lst {F : Nat → Prop} {w : World} {N R : Nat} {Da Db : List Dv} (h : DR F w N Da R Db) : ∃ q n c P, Own w R #[.slice q n c] ∧ VL 7 Ed.cs w (.slice q n c) P ∧ IsEdg (runE Db) P := by
  obtain ⟨v, P, h1, h2, h3, h4, h5, h6⟩ := h
  obtain ⟨q, n, c, rfl⟩ := RowG.sl h2
  exact ⟨q, n, c, P, h1, RowG.vl Ed.len h2, h3⟩
end Go.Proofs.YtgojnijpjfdocaaGreat
