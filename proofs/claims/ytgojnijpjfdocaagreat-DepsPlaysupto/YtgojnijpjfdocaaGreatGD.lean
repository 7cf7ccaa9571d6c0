/- Two Deps beside each other; what each cell was given last. No function's text is walked here. -/
import Derived.Test.YtgojnijpjfdocaaGreatGC
namespace Go.Proofs.YtgojnijpjfdocaaGreat
open Go.RowKit Go.Shelf
set_option linter.all false
/-- Two Deps that share nothing; the blocks of F are none of their own. -/
def D2w (F : Nat → Prop) (w : World) (Na : Nat) (Da : List Dv) (Nb : Nat) (Db : List Dv) : Prop := ∃ Ba Bb, Dn w Na Ba Da ∧ Dn w Nb Bb Db ∧ (∀ b, F b → Ba b = none ∧ Bb b = none) ∧ ∀ b, (Ba b).isSome = true → Bb b = none
theorem D2w.swap {F : Nat → Prop} {w : World} {Na Nb : Nat} {Da Db : List Dv} (h : D2w F w Na Da Nb Db) : D2w F w Nb Db Na Da := by
  obtain ⟨Ba, Bb, h1, h2, h3, h4⟩ := h
  refine ⟨Bb, Ba, h2, h1, fun b q => ⟨(h3 b q).2, (h3 b q).1⟩, fun b q => ?_⟩
  cases e : Ba b with
  | none => rfl
  | some t => rw [h4 b (by rw [e]; rfl)] at q; cases q
theorem D2w.keep {F : Nat → Prop} {w w' : World} {Na Nb : Nat} {Da Db : List Dv} (h : D2w F w Na Da Nb Db) (hb : Below w.heap.size w w') : D2w F w' Na Da Nb Db := by
  obtain ⟨Ba, Bb, h1, h2, h3, h4⟩ := h
  exact ⟨Ba, Bb, h1.keep hb, h2.keep hb, h3, h4⟩
theorem D2w.fst {F : Nat → Prop} {w : World} {Na Nb : Nat} {Da Db : List Dv} (h : D2w F w Na Da Nb Db) : Dw F w Na Da := by
  obtain ⟨Ba, Bb, h1, h2, h3, h4⟩ := h
  exact ⟨Ba, h1, fun b q => (h3 b q).1⟩
theorem D2w.snd {F : Nat → Prop} {w : World} {Na Nb : Nat} {Da Db : List Dv} (h : D2w F w Na Da Nb Db) : Dw F w Nb Db := h.swap.fst
theorem dnew_two (w : World) (F : Nat → Prop) (Na : Nat) (Da : List Dv) (h : Dw F w Na Da) (hF : ∀ b, F b → b < w.heap.size) : Calls Tryz.prog 9 #[] w fun e w' => ∃ Nb, e = .returned (.pointer (some ⟨Nb, 0, none⟩)) ∧ D2w F w' Na Da Nb [] ∧ Below w.heap.size w w' := by
  obtain ⟨Ba, h1, h2⟩ := h
  refine (dnew_any w).mono ?_
  rintro e w' ⟨N, B, rfl, k1, k2, k3, k4⟩
  refine ⟨N, rfl, ⟨Ba, B, h1.keep k4, ⟨k2, Few.none⟩, fun b q => ⟨h2 b q, k3 b (hF b q)⟩, fun b q => ?_⟩, k4⟩
  by_cases e : b < w.heap.size
  · exact k3 b e
  · rw [h1.dp.dom b (by omega)] at q; cases q
theorem dset_two (w W : World) (F : Nat → Prop) (Na Nb : Nat) (Da Db : List Dv) (d : Dv) (h : D2w F W Na Da Nb Db) (hd : DvW w d) (hF : ∀ b, b < w.heap.size → F b) (hF2 : ∀ b, F b → b < W.heap.size) (hb : Below w.heap.size w W) (hs : cst (Da ++ [d]) ≤ 1048576) : Calls Tryz.prog 11 #[.pointer (some ⟨Na, 0, none⟩), .agg #[.int .i64 d.r, .int .i64 d.c], .slice d.p d.n d.k] W fun e w' => e = .returned (.int .i64 d.err) ∧ D2w F w' Na (Da ++ [d]) Nb Db ∧ Mut (fun b => ¬ F b) W w' := by
  obtain ⟨Ba, Bb, h1, h2, h3, h4⟩ := h
  refine (dset_dn W Na Ba Da d h1 (hd.2.2.keep hb) (fun p n c e q => (h3 _ (hF _ (hd.2.2.low e q))).1) hs).mono ?_
  rintro e w' ⟨rfl, B', k1, k2, k3⟩
  refine ⟨rfl, ⟨B', Bb, k1, h2.mut k2 h4, fun b q => ⟨by rw [k3 b (hF2 b q)]; exact (h3 b q).1, (h3 b q).2⟩, fun b q => ?_⟩, k2.os, k2.tape, k2.output, k2.size, fun b hb hn => k2.block b hb (fun q => hn (fun q2 => by rw [(h3 b q2).1] at q; cases q))⟩
  by_cases e : b < W.heap.size
  · rw [k3 b e] at q
    exact h4 b q
  · exact h2.dp.dom b (by omega)
theorem dset_fst (w W : World) (B0 Na Nb : Nat) (Da Db : List Dv) (d : Dv) (h : D2w (fun b => b < B0) W Na Da Nb Db) (hd : DvW w d) (hw : w.heap.size ≤ B0) (hB : B0 ≤ W.heap.size) (hb : Below w.heap.size w W) (hs : cst (Da ++ [d]) ≤ 1048576) : Calls Tryz.prog 11 #[.pointer (some ⟨Na, 0, none⟩), .agg #[.int .i64 d.r, .int .i64 d.c], .slice d.p d.n d.k] W fun e w' => e = .returned (.int .i64 d.err) ∧ D2w (fun b => b < B0) w' Na (Da ++ [d]) Nb Db ∧ Below B0 W w' := by
  refine (dset_two w W _ Na Nb Da Db d h hd (fun b q => Nat.lt_of_lt_of_le q hw) (fun b q => Nat.lt_of_lt_of_le q hB) hb hs).mono ?_
  rintro e w' ⟨rfl, k1, k2⟩
  exact ⟨rfl, k1, k2.toB hB (fun b q => q)⟩
theorem dset_snd (w W : World) (B0 Na Nb : Nat) (Da Db : List Dv) (d : Dv) (h : D2w (fun b => b < B0) W Na Da Nb Db) (hd : DvW w d) (hw : w.heap.size ≤ B0) (hB : B0 ≤ W.heap.size) (hb : Below w.heap.size w W) (hs : cst (Db ++ [d]) ≤ 1048576) : Calls Tryz.prog 11 #[.pointer (some ⟨Nb, 0, none⟩), .agg #[.int .i64 d.r, .int .i64 d.c], .slice d.p d.n d.k] W fun e w' => e = .returned (.int .i64 d.err) ∧ D2w (fun b => b < B0) w' Na Da Nb (Db ++ [d]) ∧ Below B0 W w' := by
  refine (dset_fst w W B0 Nb Na Db Da d h.swap hd hw hB hb hs).mono ?_
  rintro e w' ⟨rfl, k1, k2⟩
  exact ⟨rfl, k1.swap, k2⟩
/-- A deed that takes back what another one's cell had. -/
def takes (d e : Dv) : Bool := sameC e.r e.c d.r d.c && e.ok
/-- Those alone that no later one takes back. -/
def kp : List Dv → List Dv
  | [] => []
  | d :: t => if t.any (takes d) = true then kp t else d :: kp t
theorem sameC_is {a b a' b' : Int} : sameC a b a' b' = true ↔ (a = a' ∧ b = b') := by simp [sameC]
theorem updE_twice (E : Int → Int → List Rf) (r c : Int) (L L' : List Rf) : updE (updE E r c L) r c L' = updE E r c L' := by
  funext a b
  unfold updE
  split <;> rfl
theorem updE_comm (E : Int → Int → List Rf) {r c r' c' : Int} (L L' : List Rf) (h : ¬ (r = r' ∧ c = c')) : updE (updE E r c L) r' c' L' = updE (updE E r' c' L') r c L := by
  funext a b
  unfold updE
  by_cases q : a = r' ∧ b = c'
  · have q2 : ¬ (a = r ∧ b = c) := fun p => h ⟨p.1.symm.trans q.1, p.2.symm.trans q.2⟩
    simp [q, q2]
    intro p1 p2
    exact absurd ⟨p1.symm, p2.symm⟩ h
  · simp [q]
theorem run_over : ∀ (t : List Dv) (E : Int → Int → List Rf) (d : Dv) (L : List Rf), t.any (takes d) = true → t.foldl stepE (updE E d.r d.c L) = t.foldl stepE E
  | [], _, _, _, h => by cases h
  | e :: t, E, d, L, h => by
    simp only [List.foldl_cons]
    by_cases q : takes d e = true
    · unfold takes at q
      rw [Bool.and_eq_true] at q
      obtain ⟨q1, q2⟩ := sameC_is.1 q.1
      unfold stepE
      rw [if_pos q.2, if_pos q.2, q1, q2, updE_twice]
    · have h2 : t.any (takes d) = true := by
        rw [List.any_cons] at h
        cases hh : takes d e
        · rw [hh] at h; exact h
        · exact absurd hh q
      by_cases ho : e.ok = true
      · have hne : ¬ (d.r = e.r ∧ d.c = e.c) := fun p => q (by unfold takes; rw [ho, sameC_is.2 ⟨p.1.symm, p.2.symm⟩]; rfl)
        have e1 : stepE (updE E d.r d.c L) e = updE (stepE E e) d.r d.c L := by
          unfold stepE
          rw [if_pos ho, if_pos ho]
          exact updE_comm E _ _ hne
        rw [e1]
        exact run_over t (stepE E e) d L h2
      · have e1 : stepE (updE E d.r d.c L) e = updE (stepE E e) d.r d.c L := by
          unfold stepE
          rw [if_neg ho, if_neg ho]
        rw [e1]
        exact run_over t (stepE E e) d L h2
theorem run_kp : ∀ (l : List Dv) (E : Int → Int → List Rf), (kp l).foldl stepE E = l.foldl stepE E
  | [], _ => rfl
  | d :: t, E => by
    unfold kp
    split
    · rename_i h
      rw [run_kp t E, List.foldl_cons]
      unfold stepE
      split
      · exact (run_over t E d _ h).symm
      · rfl
    · rw [List.foldl_cons, List.foldl_cons]
      exact run_kp t _
theorem runE_kp (l : List Dv) : runE (kp l) = runE l := run_kp l _
theorem cst_cons (d : Dv) (t : List Dv) : cst (d :: t) = d.l.length + 1 + cst t := by simp [cst]
theorem cst_kp : ∀ l : List Dv, cst (kp l) ≤ cst l
  | [] => Nat.le_refl _
  | d :: t => by
    have := cst_kp t
    unfold kp
    split
    · rw [cst_cons]; omega
    · rw [cst_cons, cst_cons]; omega
theorem kp_at {l : List Dv} {i : Nat} {d : Dv} (h : l[i]? = some d) : kp (l.drop i) = if (l.drop (i + 1)).any (takes d) = true then kp (l.drop (i + 1)) else d :: kp (l.drop (i + 1)) := by
  obtain ⟨hi, rfl⟩ := List.getElem?_eq_some_iff.1 h
  rw [List.drop_eq_getElem_cons hi]
  rfl
theorem later_snoc {l : List Dv} {i k : Nat} {d e : Dv} (h : l[k]? = some e) (hik : i + 1 ≤ k) : ((l.take (k + 1)).drop (i + 1)).any (takes d) = (((l.take k).drop (i + 1)).any (takes d) || takes d e) := by
  have hk : k < l.length := (List.getElem?_eq_some_iff.1 h).1
  rw [List.take_succ, h, List.drop_append_of_le_length (by rw [List.length_take]; omega), List.any_append]
  simp
theorem err_ok (d : Dv) : (d.ok = true ∧ d.err = 0) ∨ (d.ok = false ∧ (d.err = 1 ∨ d.err = 3)) := by
  unfold Dv.ok Dv.err
  cases mayC d.r d.c <;> cases d.l.all mayF <;> simp
end Go.Proofs.YtgojnijpjfdocaaGreat
