/- A store and the document's side by side, with the contents that are put, by their numbers (the law's Both): what keeps through calls; the calls on either. -/
import Derived.Test.YtaafpfjmnhmalaaS22
import Derived.Test.YtaafpfjmnhmalaaS18
namespace Go.Proofs.Ytaafpfjmnhmalaa
open Go.RowKit
set_option linter.all false
/-- Where the law's Both lies: its own block, the store's, the document's, the list of contents, the contents. -/
structure Bx where
  q : Nat
  s : Nat
  y : Nat
  p : Nat
  pc : Nat
  x : Nat → Nat
/-- What is never written. -/
def Bx.fix (k : Bx) (b : Nat) : Prop := b = k.q ∨ b = k.p ∨ ∃ j, j < 8 ∧ b = k.x j
structure BW (w : World) (F : Nat → Prop) (k : Bx) (L : List It) (R : List Im) : Prop where
  q : Own w k.q #[.pointer (some ⟨k.s, 0, none⟩), .pointer (some ⟨k.y, 0, none⟩), .slice (some ⟨k.p, 0, none⟩) 8 k.pc]
  pc : 8 ≤ k.pc ∧ k.pc ≤ maxLen
  p : ∀ j, j < 8 → w.cell? ⟨k.p, j, none⟩ = some (.pointer (some ⟨k.x j, 0, none⟩))
  x : ∀ j, j < 8 → ∃ cs T, w.heap[k.x j]? = some (.cells cs T (0, 0))
  xi : ∀ i j, i < 8 → j < 8 → k.x i = k.x j → i = j
  st : ∃ D v, SW w D k.s L ∧ Own w k.y #[v] ∧ RowI w 0 v R ∧ (∀ b, (D b).isSome = true → F b ∧ ¬ k.fix b ∧ b ≠ k.y) ∧ (∀ g, v.ownBlock = some g → F g ∧ ¬ k.fix g ∧ g ≠ k.y ∧ D g = none)
  fy : F k.y ∧ ¬ k.fix k.y
  ff : ∀ b, k.fix b → F b
  fl : ∀ b, F b → b < w.heap.size
  srt : SrtR R
  few : R.length ≤ 1048576
theorem BW.of_block {w w' : World} {F : Nat → Prop} {k : Bx} {L : List It} {R : List Im} (h : BW w F k L R) (hs : w.heap.size ≤ w'.heap.size) (hb : ∀ b, F b → w'.heap[b]? = w.heap[b]?) : BW w' F k L R := by
  obtain ⟨D, v, s1, s2, s3, s4, s5⟩ := h.st
  exact ⟨h.q.of_block (hb _ (h.ff _ (.inl rfl))), h.pc, fun j hj => (World.cell?_of_block (a := ⟨k.p, j, none⟩) (hb _ (h.ff _ (.inr (.inl rfl))))).trans (h.p j hj), fun j hj => by
    obtain ⟨cs, T, e⟩ := h.x j hj
    exact ⟨cs, T, (hb _ (h.ff _ (.inr (.inr ⟨j, hj, rfl⟩)))).trans e⟩, h.xi, ⟨D, v, s1.of_block hs (fun b t e => hb b (s4 b (by rw [e]; rfl)).1), s2.of_block (hb _ h.fy.1), s3.of_block (fun g hg => hb g (s5 g hg).1), s4, s5⟩, h.fy, h.ff, fun b hb => Nat.lt_of_lt_of_le (h.fl b hb) hs, h.srt, h.few⟩
theorem BW.keep {w w' : World} {F : Nat → Prop} {k : Bx} {L : List It} {R : List Im} (h : BW w F k L R) (hb : Below w.heap.size w w') : BW w' F k L R := h.of_block hb.size (fun b hF => hb.block b (h.fl b hF))
theorem BW.mut {T : Nat → Prop} {w w' : World} {F : Nat → Prop} {k : Bx} {L : List It} {R : List Im} (h : BW w F k L R) (hm : Mut T w w') (hd : ∀ b, F b → ¬ T b) : BW w' F k L R := h.of_block hm.size (fun b hF => hm.block b (h.fl b hF) (hd b hF))
/-- .. with other lists, in blocks of its own or new ones. -/
def BOut (w : World) (F : Nat → Prop) (k : Bx) (L' : List It) (R' : List Im) (w' : World) : Prop := ∃ F', BW w' F' k L' R' ∧ Mut F w w' ∧ ∀ b, F' b → F b ∨ w.heap.size ≤ b
theorem BOut.refl {w w' : World} {F : Nat → Prop} {k : Bx} {L : List It} {R : List Im} (h : BW w F k L R) (hb : Below w.heap.size w w') : BOut w F k L R w' := ⟨F, h.keep hb, Mut.of_below hb, fun b q => .inl q⟩
theorem BOut.pre {w w1 w' : World} {F : Nat → Prop} {k : Bx} {L' : List It} {R' : List Im} (hb : Below w.heap.size w w1) (h : BOut w1 F k L' R' w') : BOut w F k L' R' w' := by
  obtain ⟨F', h1, h2, h3⟩ := h
  exact ⟨F', h1, (Mut.of_below hb).call h2 (fun b q => .inl q), fun b q => (h3 b q).imp id (fun r => Nat.le_trans hb.size r)⟩
theorem BOut.then {w w1 w' : World} {F F1 : Nat → Prop} {k : Bx} {L' : List It} {R' : List Im} (hm : Mut F w w1) (hf : ∀ b, F1 b → F b ∨ w.heap.size ≤ b) (h : BOut w1 F1 k L' R' w') : BOut w F k L' R' w' := by
  obtain ⟨F', h1, h2, h3⟩ := h
  refine ⟨F', h1, hm.call h2 hf, fun b q => ?_⟩
  rcases h3 b q with r | r
  · exact hf b r
  · exact .inr (Nat.le_trans hm.size r)
/-- A call on the store. -/
theorem BW.onX {w w' : World} {F : Nat → Prop} {k : Bx} {L L' : List It} {R : List Im} (h : BW w F k L R) (D : Nat → Option Nat) (v : Value) (s2 : Own w k.y #[v]) (s3 : RowI w 0 v R) (s4 : ∀ b, (D b).isSome = true → F b ∧ ¬ k.fix b ∧ b ≠ k.y) (s5 : ∀ g, v.ownBlock = some g → F g ∧ ¬ k.fix g ∧ g ≠ k.y ∧ D g = none) (ho : SOut w D k.s L' w') : BOut w F k L' R w' := by
  obtain ⟨D', k1, k2, k3⟩ := ho
  have hm : Mut F w w' := ⟨k2.os, k2.tape, k2.output, k2.size, fun b hb hn => k2.block b hb (fun q => hn (s4 b q).1)⟩
  have hfix : ∀ b, k.fix b → w'.heap[b]? = w.heap[b]? := fun b hb => k2.block b (h.fl b (h.ff b hb)) (fun q => (s4 b q).2.1 hb)
  have hy : w'.heap[k.y]? = w.heap[k.y]? := k2.block k.y (h.fl _ h.fy.1) (fun q => (s4 _ q).2.2 rfl)
  refine ⟨fun b => F b ∨ (D' b).isSome = true, ⟨h.q.of_block (hfix _ (.inl rfl)), h.pc, fun j hj => (World.cell?_of_block (a := ⟨k.p, j, none⟩) (hfix _ (.inr (.inl rfl)))).trans (h.p j hj), fun j hj => ?_, h.xi, ⟨D', v, k1, s2.of_block hy, s3.of_block (fun g hg => k2.block g (h.fl g (s5 g hg).1) (by rw [(s5 g hg).2.2.2]; simp)), fun b hb => ⟨.inr hb, fun hf => ?_, fun e => ?_⟩, fun g hg => ⟨.inl (s5 g hg).1, (s5 g hg).2.1, (s5 g hg).2.2.1, none_of (fun q => ?_)⟩⟩, ⟨.inl h.fy.1, h.fy.2⟩, fun b hb => .inl (h.ff b hb), fun b hb => ?_, h.srt, h.few⟩, hm, fun b hb => ?_⟩
  · obtain ⟨cs, T, e⟩ := h.x j hj
    exact ⟨cs, T, (hfix _ (.inr (.inr ⟨j, hj, rfl⟩))).trans e⟩
  · rcases k3 b hb with q | q
    · exact (s4 b q).2.1 hf
    · have := h.fl b (h.ff b hf); omega
  · subst e
    rcases k3 _ hb with q | q
    · exact (s4 _ q).2.2 rfl
    · have := h.fl _ h.fy.1; omega
  · rcases k3 g q with r | r
    · rw [(s5 g hg).2.2.2] at r; cases r
    · have := h.fl g (s5 g hg).1; omega
  · rcases hb with hb | hb
    · exact Nat.lt_of_lt_of_le (h.fl b hb) k2.size
    · obtain ⟨t, ht⟩ := Option.isSome_iff_exists.1 hb
      exact k1.dom b t ht
  · rcases hb with hb | hb
    · exact .inl hb
    · rcases k3 b hb with q | q
      · exact .inl (s4 b q).1
      · exact .inr q
/-- A call on the document's. -/
theorem BW.onY {w w' : World} {F : Nat → Prop} {k : Bx} {L : List It} {R R' : List Im} (h : BW w F k L R) (ho : YOut w k.y R' w') (hs : SrtR R') (hf : R'.length ≤ 1048576) : BOut w F k L R' w' := by
  obtain ⟨D, v, s1, s2, s3, s4, s5⟩ := h.st
  obtain ⟨⟨v', y1, y2⟩, y3⟩ := ho
  have hm : Mut F w w' := ⟨y3.os, y3.tape, y3.output, y3.size, fun b hb hn => y3.block b hb (fun q => hn (by rw [q]; exact h.fy.1))⟩
  have hfix : ∀ b, k.fix b → w'.heap[b]? = w.heap[b]? := fun b hb => y3.block b (h.fl b (h.ff b hb)) (fun q => h.fy.2 (by rw [← q]; exact hb))
  refine ⟨fun b => F b ∨ v'.ownBlock = some b, ⟨h.q.of_block (hfix _ (.inl rfl)), h.pc, fun j hj => (World.cell?_of_block (a := ⟨k.p, j, none⟩) (hfix _ (.inr (.inl rfl)))).trans (h.p j hj), fun j hj => ?_, h.xi, ⟨D, v', s1.mut y3 (fun b t e q => (s4 b (by rw [e]; rfl)).2.2 q), y1, y2.mono (Nat.zero_le _), fun b hb => ⟨.inl (s4 b hb).1, (s4 b hb).2⟩, fun g hg => ?_⟩, ⟨.inl h.fy.1, h.fy.2⟩, fun b hb => .inl (h.ff b hb), fun b hb => ?_, hs, hf⟩, hm, fun b hb => ?_⟩
  · obtain ⟨cs, T, e⟩ := h.x j hj
    exact ⟨cs, T, (hfix _ (.inr (.inr ⟨j, hj, rfl⟩))).trans e⟩
  · have hge := (y2.lt g hg).1
    refine ⟨.inr hg, fun q => ?_, fun q => ?_, none_of (fun q => ?_)⟩
    · have := h.fl g (h.ff g q); omega
    · subst q; have := h.fl _ h.fy.1; omega
    · have := h.fl g (s4 g q).1; omega
  · rcases hb with hb | hb
    · exact Nat.lt_of_lt_of_le (h.fl b hb) y3.size
    · exact (y2.lt b hb).2
  · rcases hb with hb | hb
    · exact .inl hb
    · exact .inr (y2.lt b hb).1
theorem bx_put (w : World) (F : Nat → Prop) (k : Bx) (L : List It) (R : List Im) (r c : Int) (x : Addr) (h : BW w F k L R) : Calls Try.prog 14 #[.pointer (some ⟨k.s, 0, none⟩), .agg #[.int .i64 r, .int .i64 c], .pointer (some x)] w fun e w' => e = .returned (.int .i64 (if mayC r c = true then 0 else 3)) ∧ BOut w F k (if mayC r c = true then putL L r c (some x) else L) R w' := by
  obtain ⟨D, v, s1, s2, s3, s4, s5⟩ := h.st
  refine (put_all w D k.s L r c x s1).mono ?_
  rintro e w' ⟨rfl, ho⟩
  exact ⟨rfl, h.onX D v s2 s3 s4 s5 ho⟩
theorem bx_drop (w : World) (F : Nat → Prop) (k : Bx) (L : List It) (R : List Im) (r c : Int) (h : BW w F k L R) : Calls Try.prog 20 #[.pointer (some ⟨k.s, 0, none⟩), .agg #[.int .i64 r, .int .i64 c]] w fun e w' => e = .returned (.int .i64 (if mayC r c = true then 0 else 3)) ∧ BOut w F k (if mayC r c = true then dropL L r c else L) R w' := by
  obtain ⟨D, v, s1, s2, s3, s4, s5⟩ := h.st
  refine (drop_any w D k.s L r c s1).mono ?_
  rintro e w' ⟨rfl, ho⟩
  exact ⟨rfl, h.onX D v s2 s3 s4 s5 ho⟩
theorem putR_srt {R : List Im} (h : SrtR R) (r c k : Int) : SrtR (putR R r c k) := by
  unfold SrtR putR
  rw [List.pairwise_append]
  refine ⟨List.Pairwise.filter _ h, List.pairwise_cons.2 ⟨fun y hy => of_decide_eq_true (List.mem_filter.1 hy).2, List.Pairwise.filter _ h⟩, fun x hx y hy => ?_⟩
  have h1 : x.r < r ∨ (x.r = r ∧ x.c < c) := of_decide_eq_true (List.mem_filter.1 hx).2
  rcases List.mem_cons.1 hy with rfl | hy
  · exact h1
  · have h2 : r < y.r ∨ (r = y.r ∧ c < y.c) := of_decide_eq_true (List.mem_filter.1 hy).2
    omega
theorem by_put (w : World) (F : Nat → Prop) (k : Bx) (L : List It) (R : List Im) (r c n : Int) (h : BW w F k L R) (hf : mayC r c = true → (putR R r c n).length ≤ 1048576) : Calls Try.prog 22 #[.pointer (some ⟨k.y, 0, none⟩), .agg #[.int .i64 r, .int .i64 c], .int .i64 n] w fun e w' => e = .returned (.int .i64 (if mayC r c = true then 0 else 3)) ∧ BOut w F k L (if mayC r c = true then putR R r c n else R) w' := by
  obtain ⟨D, v, s1, s2, s3, s4, s5⟩ := h.st
  cases hm : mayC r c
  · refine (dput_no w k.y r c n hm).mono ?_
    rintro e w' ⟨rfl, hb⟩
    exact ⟨rfl, BOut.refl h hb⟩
  · refine (dput_yes w k.y v R r c n s2 s3 h.srt h.few hm).mono ?_
    rintro e w' ⟨rfl, ho⟩
    exact ⟨rfl, h.onY ho (putR_srt h.srt r c n) (hf hm)⟩
theorem by_drop (w : World) (F : Nat → Prop) (k : Bx) (L : List It) (R : List Im) (r c : Int) (h : BW w F k L R) : Calls Try.prog 23 #[.pointer (some ⟨k.y, 0, none⟩), .agg #[.int .i64 r, .int .i64 c]] w fun e w' => e = .returned (.int .i64 (if mayC r c = true then 0 else 3)) ∧ BOut w F k L (if mayC r c = true then R.filter (neB r c) else R) w' := by
  obtain ⟨D, v, s1, s2, s3, s4, s5⟩ := h.st
  cases hm : mayC r c
  · refine (ddrop_no w k.y r c hm).mono ?_
    rintro e w' ⟨rfl, hb⟩
    exact ⟨rfl, BOut.refl h hb⟩
  · refine (ddrop_yes w k.y v R r c s2 s3 h.few hm).mono ?_
    rintro e w' ⟨rfl, ho⟩
    exact ⟨rfl, h.onY ho (List.Pairwise.filter _ h.srt) (show (R.filter (neB r c)).length ≤ 1048576 from by have := List.length_filter_le (neB r c) R; have := h.few; omega)⟩
theorem bx_get (w : World) (F : Nat → Prop) (k : Bx) (L : List It) (R : List Im) (r c : Int) (h : BW w F k L R) : Calls Try.prog 19 #[.pointer (some ⟨k.s, 0, none⟩), .agg #[.int .i64 r, .int .i64 c]] w fun e w' => e = .returned (.pointer (getL L r c)) ∧ Below w.heap.size w w' := by
  obtain ⟨D, v, s1, s2, s3, s4, s5⟩ := h.st
  exact get_any w D k.s L r c s1
theorem bx_count (w : World) (F : Nat → Prop) (k : Bx) (L : List It) (R : List Im) (h : BW w F k L R) : Calls Try.prog 10 #[.pointer (some ⟨k.s, 0, none⟩)] w fun e w' => e = .returned (.int .i64 L.length) ∧ w' = w := by
  obtain ⟨D, v, s1, s2, s3, s4, s5⟩ := h.st
  exact count_sw w D k.s L s1
theorem by_get (w : World) (F : Nat → Prop) (k : Bx) (L : List It) (R : List Im) (r c : Int) (h : BW w F k L R) : Calls Try.prog 25 #[.pointer (some ⟨k.y, 0, none⟩), .agg #[.int .i64 r, .int .i64 c]] w fun e w' => e = .returned (.int .i64 (getR R r c)) ∧ Below w.heap.size w w' := by
  obtain ⟨D, v, s1, s2, s3, s4, s5⟩ := h.st
  exact dget_any w k.y v R r c s2 s3 h.few
theorem bx_next (w : World) (F : Nat → Prop) (k : Bx) (L : List It) (R : List Im) (t l b rr ar ac : Int) (h : BW w F k L R) (it : I64 t) (il : I64 l) (ib : I64 b) (ir : I64 rr) (iar : I64 ar) (iac : I64 ac) : Calls Try.prog 17 #[.pointer (some ⟨k.s, 0, none⟩), .agg #[.int .i64 t, .int .i64 l, .int .i64 b, .int .i64 rr], .agg #[.int .i64 ar, .int .i64 ac]] w fun e w' => e = .returned (nextV L t l b rr ar ac) ∧ Below w.heap.size w w' := by
  obtain ⟨D, v, s1, s2, s3, s4, s5⟩ := h.st
  exact next_any w D k.s L t l b rr ar ac s1 it il ib ir iar iac
theorem by_next (w : World) (F : Nat → Prop) (k : Bx) (L : List It) (R : List Im) (t l b rr ar ac : Int) (h : BW w F k L R) : Calls Try.prog 26 #[.pointer (some ⟨k.y, 0, none⟩), .agg #[.int .i64 t, .int .i64 l, .int .i64 b, .int .i64 rr], .agg #[.int .i64 ar, .int .i64 ac]] w fun e w' => e = .returned (nextR R t l b rr ar ac) ∧ Below w.heap.size w w' := by
  obtain ⟨D, v, s1, s2, s3, s4, s5⟩ := h.st
  exact dnext_any w k.y v R t l b rr ar ac s2 s3 h.few
theorem cut_all : ∀ {R : List Im}, SrtR R → ∀ (r c : Int), R.filter (neB r c) = R.filter (befM r c) ++ R.filter (aftM r c)
  | [], _, _, _ => rfl
  | x :: t, h, r, c => by
    have ih := cut_all (List.pairwise_cons.1 h).2 r c
    have hx := (List.pairwise_cons.1 h).1
    by_cases h1 : x.r < r ∨ (x.r = r ∧ x.c < c)
    · have e1 : befM r c x = true := decide_eq_true h1
      have e2 : aftM r c x = false := decide_eq_false (by omega)
      have e3 : neB r c x = true := by simp only [neB, sameC, Bool.not_eq_true', decide_eq_false_iff_not]; omega
      rw [List.filter_cons, if_pos e3, List.filter_cons, if_pos e1, List.filter_cons, if_neg (by rw [e2]; decide), ih, List.cons_append]
    · have e1 : befM r c x = false := decide_eq_false h1
      have nb : t.filter (befM r c) = [] := by
        rw [List.filter_eq_nil_iff]
        intro y hy
        have := hx y hy
        simp only [befM, decide_eq_true_eq]
        omega
      rw [nb, List.nil_append] at ih
      rw [List.filter_cons (p := befM r c), if_neg (by rw [e1]; decide), nb, List.nil_append]
      by_cases h2 : x.r = r ∧ x.c = c
      · have e2 : aftM r c x = false := decide_eq_false (by omega)
        have e3 : neB r c x = false := by simp [neB, sameC, h2]
        rw [List.filter_cons, if_neg (by rw [e3]; decide), List.filter_cons, if_neg (by rw [e2]; decide), ih]
      · have e2 : aftM r c x = true := decide_eq_true (by omega)
        have e3 : neB r c x = true := by simp only [neB, sameC, Bool.not_eq_true', decide_eq_false_iff_not]; omega
        rw [List.filter_cons, if_pos e3, List.filter_cons, if_pos e2, ih]
/-- The document's items as the program's. -/
def itL (k : Bx) (R : List Im) : List It := R.map (fun m => ⟨m.r, m.c, some ⟨k.x m.k.toNat, 0, none⟩⟩)
theorem it_put (k : Bx) (R : List Im) (r c n : Int) : itL k (putR R r c n) = putL (itL k R) r c (some ⟨k.x n.toNat, 0, none⟩) := by
  unfold itL putR putL
  rw [List.map_append, List.map_cons, List.filter_map, List.filter_map]
  rfl
theorem it_drop (k : Bx) (R : List Im) (r c : Int) (hs : SrtR R) : itL k (R.filter (neB r c)) = dropL (itL k R) r c := by
  unfold itL dropL
  rw [List.filter_map, List.filter_map, ← List.map_append]
  congr 1
  have h := cut_all hs r c
  exact h
end Go.Proofs.Ytaafpfjmnhmalaa
