/- The contract of the law's lives: it answers true. New memory alone is made. · How deeds and cells come in: lists, each deed with its references; how much they hold. No function's text is walked here. -/
import Derived.Test.YtcjanaldjokllaaGreatQML
import Derived.ProofKit
import Derived.OpenShut
import Derived.ShutString
import Derived.Deep.Slices
import Derived.Deep.DeepHandedRow
import Derived.SizedLaws
import Derived.WideKeyArgs
import Derived.JoinedCond
namespace Go.Proofs.YtcjanaldjokllaaGreat
open Go.RowKit Go.Shelf
set_option linter.all false
def fM : Rf := ⟨false, 1, 1, 1, 1⟩
def dM (vb : Nat) : Dv := ⟨1, 2, some ⟨vb, 0, none⟩, 1, 1, [fM]⟩
theorem cstM (vb : Nat) : cst [dM vb] = 2 := rfl
theorem runM (vb : Nat) : runE [dM vb] = updE (fun _ _ => []) 1 2 (onceR [fM]) := rfl
theorem whoM1 (vb : Nat) : IsWho (runE [dM vb]) 1 1 [⟨1, 2⟩] := by
  refine ⟨List.pairwise_singleton _ _, fun z => ?_⟩
  rw [runM]
  unfold updE
  constructor
  · intro h
    rw [List.mem_singleton.1 h]
    exact ⟨fM, by rw [if_pos ⟨rfl, rfl⟩]; exact (onceR_mem _ _).2 List.mem_cons_self, rfl⟩
  · rintro ⟨f, h, _⟩
    by_cases q : z.r = 1 ∧ z.c = 2
    · obtain ⟨r, c⟩ := z
      simp only at q
      rw [q.1, q.2]
      exact List.mem_cons_self
    · rw [if_neg q] at h
      cases h
theorem whoM2 (vb : Nat) : IsWho (runE [dM vb]) 1 2 [] := by
  refine ⟨List.Pairwise.nil, fun z => ⟨fun h => (by cases h), ?_⟩⟩
  rintro ⟨f, h, h2⟩
  rw [runM] at h
  unfold updE at h
  by_cases q : z.r = 1 ∧ z.c = 2
  · rw [if_pos q] at h
    have := List.mem_singleton.1 ((onceR_mem _ _).1 h)
    rw [this] at h2
    cases h2
  · rw [if_neg q] at h
    cases h
def M1 : Ms := upM (fun _ _ => none) 1 2 (some 2)
def M2 : Ms := clM M1 1 2
theorem may12 : mayC 1 2 = true := by decide
theorem may11 : mayC 1 1 = true := by decide
theorem i12 : I64 1 ∧ I64 2 := mayC_i64 may12
set_option maxRecDepth 100000 in
set_option maxHeartbeats 8000000 in
theorem llives_any (w : World) : Calls Tryz.prog 15 #[] w fun e w' => e = .returned (.bool true) ∧ Below w.heap.size w w' := by
  have mixed : Tryz.prog.follows .mixedOrders = true := by kernel_rfl
  have H1 : Hid (∀ W, Calls Tryz.prog 7 #[] W fun e w' => ∃ K N Nd bm R Re, e = .returned (.pointer (some ⟨K, 0, none⟩)) ∧ Bx (fun b => b < W.heap.size) w' K N Nd bm R Re 0 (fun _ _ => none) 0 [] [] [] 0 ∧ Below W.heap.size W w') := (show _ from fun W => lbegin_any W)
  have H2 : Hid (∀ W, Calls Tryz.prog 20 #[.pointer none] W fun e w' => e = .returned (.pointer none) ∧ Below W.heap.size W w') := (show _ from fun W => mnew_nil W)
  have HSt : Hid (∀ (w1 W : World) (K N Nd bm R Re vb : Nat), Bx (fun b => b < w.heap.size) w1 K N Nd bm R Re 0 (fun _ _ => none) 0 [] [] [] 0 → Below w1.heap.size w1 W → w.heap.size ≤ w1.heap.size → w1.heap.size ≤ vb → Own W vb #[.bool false, .int .i64 1, .int .i64 1, .int .i64 1, .int .i64 1] → Calls Tryz.prog 10 #[.pointer (some ⟨Nd, 0, none⟩), .agg #[.int .i64 1, .int .i64 2], .slice (some ⟨vb, 0, none⟩) 1 1] W fun e w' => e = .returned (.int .i64 0) ∧ Bx (fun b => b < w.heap.size) w' K N Nd bm R Re 0 (fun _ _ => none) 0 [dM vb] [] [] 0 ∧ Mut (fun b => w.heap.size ≤ b ∧ b < w1.heap.size) W w') := (show _ from fun w1 W K N Nd bm R Re vb h hb hz hvb ho => by
    have h2 : Bx (fun b => b < W.heap.size ∧ (b < w.heap.size ∨ w1.heap.size ≤ b)) W K N Nd bm R Re 0 (fun _ _ => none) 0 [] [] [] 0 := (h.fresh (fun b q => q.2)).keep hb
    refine (bx_set h2 (fun b q => q.1) (dM vb) ⟨some ⟨vb, 0, none⟩, 1, 1, rfl, rfl, Nat.le_refl _, by omega, fun _ => ⟨vb, 0, rfl, ho.lt, ?_⟩⟩ (fun p n c e q => ?_) (by rw [List.nil_append, cstM]; omega)).mono ?_
    · intro i x hi j u hu
      match i, hi with
      | 0, hi =>
        injection hi with hi
        subst hi
        rw [show 0 + 0 * 5 + j = j by omega, ho.cell]
        exact (by simpa [Rf.cs, fM] using hu)
      | i + 1, hi => simp [dM] at hi
    · injection e with e
      injection e with e
      rw [← e]
      exact ⟨ho.lt, .inr hvb⟩
    · rintro e w' ⟨rfl, k1, k2⟩
      exact ⟨rfl, k1.fresh (fun b q => .inl ⟨by have := hb.size; omega, .inl q⟩), k2.os, k2.tape, k2.output, k2.size, fun b hlt hn => k2.block b hlt (fun q => q ⟨hlt, by omega⟩)⟩)
  have HT1 : Hid (∀ W K N Nd bm R Re vb, Bx (fun b => b < w.heap.size) W K N Nd bm R Re 0 (fun _ _ => none) 0 [dM vb] [] [] 0 → (∀ b, b < w.heap.size → b < W.heap.size) → Calls Tryz.prog 17 #[.pointer (some ⟨N, 0, none⟩), .agg #[.int .i64 1, .int .i64 2], .bool true] W fun e w' => e = .returned (.tuple #[]) ∧ ∃ n' pk', Bx (fun b => b < w.heap.size) w' K N Nd bm R Re n' M1 pk' [dM vb] [] [] 0 ∧ n' ≤ 2097153 ∧ Mut (fun b => b = N ∨ b = bm) W w') := (show _ from fun W K N Nd bm R Re vb h hW => by
    refine (mtouch_yes W N Nd bm 0 _ 0 [dM vb] (fun b => b = N ∨ b = bm) 1 2 true (fun M s _ => s = [] ∧ M = M1) h.mm h.dw h.ok i12.1 i12.2 (.inl rfl) (.inr rfl) may12 (by omega) (fun ks n' hk => ?_) (fun M s k pk ks c _ q _ => ?_)).mono ?_
    · rw [hk.uniq (whoM2 vb)]
      exact ⟨rfl, rfl⟩
    · exact absurd q.1 (by simp)
    · rintro e w' ⟨rfl, M', pk2, c, ⟨_, rfl⟩, k1, k2, k3, _, _, k4⟩
      exact ⟨rfl, c, pk2, (h.mmut hW k4 k2 k1).1, by omega, k4⟩)
  have HCl : Hid (∀ W K N Nd bm R Re vb n pk, Bx (fun b => b < w.heap.size) W K N Nd bm R Re n M1 pk [dM vb] [] [] 0 → n ≤ 2097153 → (∀ b, b < w.heap.size → b < W.heap.size) → Calls Tryz.prog 28 #[.pointer (some ⟨N, 0, none⟩), .agg #[.int .i64 1, .int .i64 2]] W fun e w' => e = .returned (.tuple #[]) ∧ Bx (fun b => b < w.heap.size) w' K N Nd bm R Re (n + 1) M2 pk [dM vb] [] [] 0 ∧ Mut (fun b => b = N ∨ b = bm) W w') := (show _ from fun W K N Nd bm R Re vb n pk h hn hW => (mclean_any W N Nd bm n M1 pk 1 2 h.mm i12.1 i12.2 (by omega)).mono (by
    rintro e w' ⟨rfl, k1, k2⟩
    have k3 : Mut (fun b => b = N ∨ b = bm) W w' := Mut.wide k2 (fun b q => .inr q)
    exact ⟨rfl, (h.mmut hW k3 k1 (clM_ok h.ok 1 2)).1, k3⟩))
  have HT2 : Hid (∀ W K N Nd bm R Re vb n pk, Bx (fun b => b < w.heap.size) W K N Nd bm R Re n M2 pk [dM vb] [] [] 0 → n ≤ 2097154 → (∀ b, b < w.heap.size → b < W.heap.size) → Calls Tryz.prog 17 #[.pointer (some ⟨N, 0, none⟩), .agg #[.int .i64 1, .int .i64 1], .bool false] W fun e w' => e = .returned (.tuple #[]) ∧ ∃ n' M', Bx (fun b => b < w.heap.size) w' K N Nd bm R Re n' M' 1 [dM vb] [] [] 0 ∧ M' 1 2 = some 2 ∧ Mut (fun b => b = N ∨ b = bm) W w') := (show _ from fun W K N Nd bm R Re vb n pk h hn hW => by
    have h11 := mayC_i64 may11
    refine (mtouch_yes W N Nd bm n M2 pk [dM vb] (fun b => b = N ∨ b = bm) 1 1 false (fun M s p => M 1 2 = some 2 ∧ p = 1 ∧ (s = [] ∨ s = [⟨1, 2⟩])) h.mm h.dw h.ok h11.1 h11.2 (.inl rfl) (.inr rfl) may11 (by omega) (fun ks n' hk => ?_) (fun M s k pk ks c _ q hk => ?_)).mono ?_
    · rw [hk.uniq (whoM1 vb)]
      exact ⟨rfl, rfl, .inr rfl⟩
    · obtain ⟨q1, q2, q3⟩ := q
      rcases q3 with q3 | q3
      · exact absurd q3 (by simp)
      · have e0 : s = [] ∧ k = ⟨1, 2⟩ := by
          cases s with
          | nil => exact ⟨rfl, by simpa using q3⟩
          | cons a t => simp at q3
        obtain ⟨rfl, rfl⟩ := e0
        rw [hk.uniq (whoM2 vb)]
        exact ⟨q1, by rw [q2]; rfl, .inl rfl⟩
    · rintro e w' ⟨rfl, M', pk2, c, ⟨q1, rfl, _⟩, k1, k2, k3, _, _, k4⟩
      exact ⟨rfl, c, M', (h.mmut hW k4 k2 k1).1, q1, k4⟩)
  go_enter Tryz.func15, Tryz.ntmps15
  go_wp2_with (first
    | (go_at_call 7; refine (H1.out _).mono ?_; rintro e w1 ⟨K, N, Nd, bm, R, Re, rfl, p1, hb⟩; have hB1 : Below w.heap.size w w1 := bup zqb hb; have HX1 : Hid (Bx (fun b => b < w.heap.size) w1 K N Nd bm R Re 0 (fun _ _ => none) 0 [] [] [] 0) := (show Bx _ _ _ _ _ _ _ _ _ _ _ _ _ _ _ from p1.fresh (fun b q => .inl (by first | exact q | (simp; omega)))); have z1 := hB1.size; have oK1 := HX1.out.own; have k11 : w1.cell? ⟨K, 1, none⟩ = some (.pointer (some ⟨N, 0, none⟩)) := oK1.cell 1; have lK1 := oK1.lt; clear p1 hb)
    | (go_at_call 20; refine (H2.out _).mono ?_; rintro e w2 ⟨rfl, hb⟩; have hR2 : Below w1.heap.size w1 w2 := bup zqb hb; have z2 := hR2.size; clear hb))
  obtain ⟨A, hA⟩ : ∃ A, A = w2.heap.size := ⟨_, rfl⟩
  obtain ⟨W3, hW3⟩ : ∃ W3 : World, W3 = w2.alloc (.cells #[.int .i64 1, .int .i64 2] 32) := ⟨_, rfl⟩
  have hR3 : Below w2.heap.size w2 W3 := (by rw [hW3]; with_reducible (repeat' first | assumption | exact Below.refl _ _ | refine Below.drew ?_ | refine bdrewN ?_ _ | refine Below.setCell ?_ (by first | exact Nat.le_refl _ | (simp; done) | (simp; omega) | omega) _ | refine Below.alloc ?_ (by first | exact Nat.le_refl _ | (simp; done) | (simp; omega) | omega) _))
  have oA3 : Own W3 A #[.int .i64 1, .int .i64 2] := (by rw [hW3, hA]; with_reducible (repeat' first | assumption | refine Own.drew ?_ | refine Own.drewN ?_ _ | (refine Own.at ?_; first | rfl | (simp; done)) | refine Own.past ?_ _))
  have hz3 : W3.heap.size = A + 1 := by rw [hW3, hA]; simp
  have hU2 : Below w.heap.size w w2 := hB1.trans (hR2.mono z1)
  have HX2 : Hid (Bx (fun b => b < w.heap.size) w2 K N Nd bm R Re 0 (fun _ _ => none) 0 [] [] [] 0) := (show Bx _ _ _ _ _ _ _ _ _ _ _ _ _ _ _ from HX1.out.keep hR2)
  have HX3 : Hid (Bx (fun b => b < w.heap.size) W3 K N Nd bm R Re 0 (fun _ _ => none) 0 [] [] [] 0) := (show Bx _ _ _ _ _ _ _ _ _ _ _ _ _ _ _ from HX2.out.keep hR3)
  have lN := HX2.out.mm.own.lt
  have lB := MapF.lt HX2.out.mm.map
  have geN := HX2.out.ge.2.1
  have geB := HX2.out.ge.2.2.1
  have zz2 := hU2.size
  rw [← hA, ← hW3]
  have oK3 := HX3.out.own
  have k03 : W3.cell? ⟨K, 0, none⟩ = some (.pointer (some ⟨Nd, 0, none⟩)) := oK3.cell 0
  have k13 : W3.cell? ⟨K, 1, none⟩ = some (.pointer (some ⟨N, 0, none⟩)) := oK3.cell 1
  have k23 : W3.cell? ⟨K, 2, none⟩ = some (.pointer (some ⟨Re, 0, none⟩)) := oK3.cell 2
  have k33 : W3.cell? ⟨K, 3, none⟩ = some (.pointer (some ⟨R, 0, none⟩)) := oK3.cell 3
  have a03 : W3.cell? ⟨A, 0, none⟩ = some (.int .i64 1) := oA3.cell 0
  have a13 : W3.cell? ⟨A, 1, none⟩ = some (.int .i64 2) := oA3.cell 1
  have lK3 := oK3.lt
  have lA3 := oA3.lt
  clear oK3
  have hA1 : w2.heap.size ≤ A := by omega
  have hA2 : A ≤ w2.heap.size := by omega
  clear hW3 k11 lK1 oK1 hA
  go_region_held3 (fun w' => w'.cell? ⟨K, 0, none⟩ = some (.pointer (some ⟨Nd, 0, none⟩)) ∧ w'.cell? ⟨K, 1, none⟩ = some (.pointer (some ⟨N, 0, none⟩)) ∧ w'.cell? ⟨K, 2, none⟩ = some (.pointer (some ⟨Re, 0, none⟩)) ∧ w'.cell? ⟨K, 3, none⟩ = some (.pointer (some ⟨R, 0, none⟩)) ∧ w'.cell? ⟨A, 0, none⟩ = some (.int .i64 1) ∧ w'.cell? ⟨A, 1, none⟩ = some (.int .i64 2)) ((repeat' apply And.intro) <;> (first | (go_keep; done) | (go_simp; done))) (go_loud (go_at_call 10; refine Calls.mono (HSt.out w2 _ K N Nd bm R Re (A + 1) HX2.out ?b1 ?b2 ?b3 ?b4) ?b5; (case b1 => with_reducible (repeat' first | assumption | exact Below.refl _ _ | refine Below.drew ?_ | refine bdrewN ?_ _ | refine Below.setCell ?_ (by first | exact Nat.le_refl _ | (simp; done) | (simp; omega) | omega) _ | refine Below.alloc ?_ (by first | exact Nat.le_refl _ | (simp; done) | (simp; omega) | omega) _)); (case b2 => omega); (case b3 => omega); (case b4 => first | exact Own.at hz3.symm | exact Own.drew (Own.at hz3.symm) | (refine Own.at ?_; exact hz3.symm)); rintro e w5 ⟨rfl, p1, pm⟩; have HX5 : Hid (Bx (fun b => b < w.heap.size) w5 K N Nd bm R Re 0 (fun _ _ => none) 0 [dM (A + 1)] [] [] 0) := p1; have hM5 : Mut (fun b => w.heap.size ≤ b ∧ b < w2.heap.size) w2 w5 := (Mut.of_below zqb).call pm (fun b q => .inl q); have hU5 : Below w.heap.size w w5 := hU2.trans (hM5.to_below zz2 (fun b q => q.1)); have zu5 := hU5.size; have oA5 : Own w5 A #[.int .i64 1, .int .i64 2] := Own.mut (by with_reducible (repeat' first | assumption | refine Own.drew ?_ | refine Own.drewN ?_ _ | (refine Own.at ?_; first | rfl | (simp; done)) | refine Own.past ?_ _)) pm (fun q => by omega); have HM5 : Hid (Mut (fun b => w.heap.size ≤ b ∧ b < w2.heap.size) w2 w5) := hM5; have z25 := hM5.size; have oK5 := HX5.out.own; have k05 : w5.cell? ⟨K, 0, none⟩ = some (.pointer (some ⟨Nd, 0, none⟩)) := oK5.cell 0; have k15 : w5.cell? ⟨K, 1, none⟩ = some (.pointer (some ⟨N, 0, none⟩)) := oK5.cell 1; have k25 : w5.cell? ⟨K, 2, none⟩ = some (.pointer (some ⟨Re, 0, none⟩)) := oK5.cell 2; have k35 : w5.cell? ⟨K, 3, none⟩ = some (.pointer (some ⟨R, 0, none⟩)) := oK5.cell 3; have a05 : w5.cell? ⟨A, 0, none⟩ = some (.int .i64 1) := oA5.cell 0; have a15 : w5.cell? ⟨A, 1, none⟩ = some (.int .i64 2) := oA5.cell 1; have lK5 := oK5.lt; have lA5 := oA5.lt; clear oK5; clear p1 pm hM5))
  go_wp2
  go_region_held3 (fun w' => w'.cell? ⟨K, 0, none⟩ = some (.pointer (some ⟨Nd, 0, none⟩)) ∧ w'.cell? ⟨K, 1, none⟩ = some (.pointer (some ⟨N, 0, none⟩)) ∧ w'.cell? ⟨K, 2, none⟩ = some (.pointer (some ⟨Re, 0, none⟩)) ∧ w'.cell? ⟨K, 3, none⟩ = some (.pointer (some ⟨R, 0, none⟩)) ∧ w'.cell? ⟨A, 0, none⟩ = some (.int .i64 1) ∧ w'.cell? ⟨A, 1, none⟩ = some (.int .i64 2)) ((repeat' apply And.intro) <;> (first | (go_keep; done) | (go_simp; done))) ((go_at_call 17; refine (HT1.out _ K N Nd bm R Re (A + 1) (HX5.out.keep zqb) (fun b q => by first | omega | (simp; omega))).mono ?_; rintro e w6 ⟨rfl, n6, pk6, p1, p2, pm⟩; have HX6 : Hid (Bx (fun b => b < w.heap.size) w6 K N Nd bm R Re n6 M1 pk6 [dM (A + 1)] [] [] 0) := p1; have HN6 : Hid (n6 ≤ 2097153) := p2; have hM6 : Mut (fun b => b = N ∨ b = bm) w5 w6 := (Mut.of_below zqb).call pm (fun b q => .inl q); have hU6 : Below w.heap.size w w6 := hU5.trans (hM6.to_below (by omega) (fun b q => by rcases q with q | q <;> omega)); have zu6 := hU6.size; have oA6 : Own w6 A #[.int .i64 1, .int .i64 2] := oA5.mut hM6 (fun q => by rcases q with q | q <;> omega); have zm6 := hM6.size; have oK6 := HX6.out.own; have k06 : w6.cell? ⟨K, 0, none⟩ = some (.pointer (some ⟨Nd, 0, none⟩)) := oK6.cell 0; have k16 : w6.cell? ⟨K, 1, none⟩ = some (.pointer (some ⟨N, 0, none⟩)) := oK6.cell 1; have k26 : w6.cell? ⟨K, 2, none⟩ = some (.pointer (some ⟨Re, 0, none⟩)) := oK6.cell 2; have k36 : w6.cell? ⟨K, 3, none⟩ = some (.pointer (some ⟨R, 0, none⟩)) := oK6.cell 3; have a06 : w6.cell? ⟨A, 0, none⟩ = some (.int .i64 1) := oA6.cell 0; have a16 : w6.cell? ⟨A, 1, none⟩ = some (.int .i64 2) := oA6.cell 1; have lK6 := oK6.lt; have lA6 := oA6.lt; clear oK6; clear p1 p2 pm))
  go_wp2
  go_region_held3 (fun w' => w'.cell? ⟨K, 0, none⟩ = some (.pointer (some ⟨Nd, 0, none⟩)) ∧ w'.cell? ⟨K, 1, none⟩ = some (.pointer (some ⟨N, 0, none⟩)) ∧ w'.cell? ⟨K, 2, none⟩ = some (.pointer (some ⟨Re, 0, none⟩)) ∧ w'.cell? ⟨K, 3, none⟩ = some (.pointer (some ⟨R, 0, none⟩)) ∧ w'.cell? ⟨A, 0, none⟩ = some (.int .i64 1) ∧ w'.cell? ⟨A, 1, none⟩ = some (.int .i64 2)) ((repeat' apply And.intro) <;> (first | (go_keep; done) | (go_simp; done))) ((go_at_call 28; refine (HCl.out _ K N Nd bm R Re (A + 1) n6 pk6 (HX6.out.keep zqb) HN6.out (fun b q => by first | omega | (simp; omega))).mono ?_; rintro e w7 ⟨rfl, p1, pm⟩; have HX7 : Hid (Bx (fun b => b < w.heap.size) w7 K N Nd bm R Re (n6 + 1) M2 pk6 [dM (A + 1)] [] [] 0) := p1; have hM7 : Mut (fun b => b = N ∨ b = bm) w6 w7 := (Mut.of_below zqb).call pm (fun b q => .inl q); have hU7 : Below w.heap.size w w7 := hU6.trans (hM7.to_below (by omega) (fun b q => by rcases q with q | q <;> omega)); have zu7 := hU7.size; have oA7 : Own w7 A #[.int .i64 1, .int .i64 2] := oA6.mut hM7 (fun q => by rcases q with q | q <;> omega); have zm7 := hM7.size; have oK7 := HX7.out.own; have k07 : w7.cell? ⟨K, 0, none⟩ = some (.pointer (some ⟨Nd, 0, none⟩)) := oK7.cell 0; have k17 : w7.cell? ⟨K, 1, none⟩ = some (.pointer (some ⟨N, 0, none⟩)) := oK7.cell 1; have k27 : w7.cell? ⟨K, 2, none⟩ = some (.pointer (some ⟨Re, 0, none⟩)) := oK7.cell 2; have k37 : w7.cell? ⟨K, 3, none⟩ = some (.pointer (some ⟨R, 0, none⟩)) := oK7.cell 3; have a07 : w7.cell? ⟨A, 0, none⟩ = some (.int .i64 1) := oA7.cell 0; have a17 : w7.cell? ⟨A, 1, none⟩ = some (.int .i64 2) := oA7.cell 1; have lK7 := oK7.lt; have lA7 := oA7.lt; clear oK7; clear p1 pm))
  go_wp2_with (go_at_call 17; refine (HT2.out _ K N Nd bm R Re (A + 1) (n6 + 1) pk6 (HX7.out.keep zqb) (by have := HN6.out; omega) (fun b q => by first | omega | (simp; omega))).mono ?_; rintro e w8 ⟨rfl, n8, M8, p1, p2, pm⟩; have HX8 : Hid (Bx (fun b => b < w.heap.size) w8 K N Nd bm R Re n8 M8 1 [dM (A + 1)] [] [] 0) := p1; have HM8 : Hid (M8 1 2 = some 2) := p2; have hM8 : Mut (fun b => b = N ∨ b = bm) w7 w8 := (Mut.of_below zqb).call pm (fun b q => .inl q); have hU8 : Below w.heap.size w w8 := hU7.trans (hM8.to_below (by omega) (fun b q => by rcases q with q | q <;> omega)); have zu8 := hU8.size; have oA8 : Own w8 A #[.int .i64 1, .int .i64 2] := oA7.mut hM8 (fun q => by rcases q with q | q <;> omega); have zm8 := hM8.size; have oK8 := HX8.out.own; have k08 : w8.cell? ⟨K, 0, none⟩ = some (.pointer (some ⟨Nd, 0, none⟩)) := oK8.cell 0; have k18 : w8.cell? ⟨K, 1, none⟩ = some (.pointer (some ⟨N, 0, none⟩)) := oK8.cell 1; have k28 : w8.cell? ⟨K, 2, none⟩ = some (.pointer (some ⟨Re, 0, none⟩)) := oK8.cell 2; have k38 : w8.cell? ⟨K, 3, none⟩ = some (.pointer (some ⟨R, 0, none⟩)) := oK8.cell 3; have a08 : w8.cell? ⟨A, 0, none⟩ = some (.int .i64 1) := oA8.cell 0; have a18 : w8.cell? ⟨A, 1, none⟩ = some (.int .i64 2) := oA8.cell 1; have lK8 := oK8.lt; have lA8 := oA8.lt; clear oK8; clear p1 p2 pm)
  have HSt8 : Hid (∀ W, Below w8.heap.size w8 W → Calls Tryz.prog 13 #[.pointer (some ⟨N, 0, none⟩), .agg #[.int .i64 1, .int .i64 2]] W fun e w' => e = .returned (.tuple #[.int .i64 2, .bool true]) ∧ Below W.heap.size W w') := (show _ from fun W hb => by
    have q := mstate_any W N Nd bm n8 M8 1 1 2 (HX8.out.mm.keep hb) i12.1 i12.2
    rw [show stM M8 1 2 = 2 by unfold stM; rw [HM8.out]; rfl, HM8.out] at q
    exact q)
  have HPk8 : Hid (∀ W, Below w8.heap.size w8 W → Calls Tryz.prog 16 #[.pointer (some ⟨N, 0, none⟩)] W fun e w' => e = .returned (.int .i64 1) ∧ Below W.heap.size W w') := (show _ from fun W hb => mpeak_any W N Nd bm n8 M8 1 (HX8.out.mm.keep hb))
  go_region_held3 (fun w' => w'.cell? ⟨K, 0, none⟩ = some (.pointer (some ⟨Nd, 0, none⟩)) ∧ w'.cell? ⟨K, 1, none⟩ = some (.pointer (some ⟨N, 0, none⟩)) ∧ w'.cell? ⟨K, 2, none⟩ = some (.pointer (some ⟨Re, 0, none⟩)) ∧ w'.cell? ⟨K, 3, none⟩ = some (.pointer (some ⟨R, 0, none⟩)) ∧ w'.cell? ⟨A, 0, none⟩ = some (.int .i64 1) ∧ w'.cell? ⟨A, 1, none⟩ = some (.int .i64 2)) ((repeat' apply And.intro) <;> (first | (go_keep; done) | (go_simp; done))) ((go_at_call 13; refine (HSt8.out _ zqb).mono ?_; rintro e w9 ⟨rfl, hb⟩; have hR9 : Below w8.heap.size w8 w9 := bup zqb hb; have HX9 : Hid (Bx (fun b => b < w.heap.size) w9 K N Nd bm R Re n8 M8 1 [dM (A + 1)] [] [] 0) := (show Bx _ _ _ _ _ _ _ _ _ _ _ _ _ _ _ from HX8.out.keep hR9); have oA9 : Own w9 A #[.int .i64 1, .int .i64 2] := oA8.keep hR9; have oK9 := HX9.out.own; have k09 : w9.cell? ⟨K, 0, none⟩ = some (.pointer (some ⟨Nd, 0, none⟩)) := oK9.cell 0; have k19 : w9.cell? ⟨K, 1, none⟩ = some (.pointer (some ⟨N, 0, none⟩)) := oK9.cell 1; have k29 : w9.cell? ⟨K, 2, none⟩ = some (.pointer (some ⟨Re, 0, none⟩)) := oK9.cell 2; have k39 : w9.cell? ⟨K, 3, none⟩ = some (.pointer (some ⟨R, 0, none⟩)) := oK9.cell 3; have a09 : w9.cell? ⟨A, 0, none⟩ = some (.int .i64 1) := oA9.cell 0; have a19 : w9.cell? ⟨A, 1, none⟩ = some (.int .i64 2) := oA9.cell 1; have lK9 := oK9.lt; have lA9 := oA9.lt; clear oK9; clear hb))
  go_wp2_with (go_at_call 16; refine (HPk8.out _ zqb).mono ?_; rintro e wz ⟨rfl, hb⟩; have hRz : Below w8.heap.size w8 wz := bup zqb hb; clear hb)
  go_ret
  exact ⟨rfl, hU8.trans ((show Below w8.heap.size w8 _ from by with_reducible (repeat' first | assumption | exact Below.refl _ _ | refine Below.drew ?_ | refine bdrewN ?_ _ | refine Below.setCell ?_ (by first | exact Nat.le_refl _ | (simp; done) | (simp; omega) | omega) _ | refine Below.alloc ?_ (by first | exact Nat.le_refl _ | (simp; done) | (simp; omega) | omega) _)).mono zu8)⟩
end Go.Proofs.YtcjanaldjokllaaGreat
namespace Go.Proofs.YtcjanaldjokllaaGreat
open Go.RowKit Go.Shelf Go.ChangeShapes Go.WideShapes Go.ChangeAt
set_option linter.all false
theorem laidOutD : laidOutB Tryz.prog = true := by kernel_rfl
theorem cellsFr : Tryz.prog.cellsOf 53 = 5 := by kernel_rfl
theorem cellsFs : Tryz.prog.cellsOf 33 = 1 := by kernel_rfl
theorem cellsDd : Tryz.prog.cellsOf 35 = 5 := by kernel_rfl
theorem cellsBo : Tryz.prog.cellsOf 4 = 1 := by kernel_rfl
theorem rowDeeds : 22 < Tryz.prog.types.size := of_decide_eq_true (by kernel_rfl)
theorem ll2 {α : Type} {l : List α} (h : l.length = 2) : ∃ a b, l = [a, b] := by
  match l, h with
  | [a, b], _ => exact ⟨a, b, rfl⟩
theorem ll4 {α : Type} {l : List α} (h : l.length = 4) : ∃ a b c d, l = [a, b, c, d] := by
  match l, h with
  | [a, b, c, d], _ => exact ⟨a, b, c, d, rfl⟩
theorem ll5 {α : Type} {l : List α} (h : l.length = 5) : ∃ a b c d e, l = [a, b, c, d, e] := by
  match l, h with
  | [a, b, c, d, e], _ => exact ⟨a, b, c, d, e, rfl⟩
def DvW (w : World) (d : Dv) : Prop := I64 d.r ∧ I64 d.c ∧ VF w d.v d.l
/-- A deed as it comes in: its kind, its cell and references, its last Bool. -/
structure Dq where
  k : Int
  d : Dv
  f : Bool
def Dq.cs (x : Dq) : List Value := [.int .i64 x.k, .int .i64 x.d.r, .int .i64 x.d.c, .slice x.d.p x.d.n x.d.k, .bool x.f]
theorem Dq.len (x : Dq) : x.cs.length = 5 := rfl
def DqW (w : World) (x : Dq) : Prop := I64 x.k ∧ DvW w x.d
/-- A list of deeds that came in. -/
def DQw (w : World) (v : Value) (l : List Dq) : Prop := ∃ p cap, v = .slice p l.length cap ∧ l.length ≤ cap ∧ cap ≤ 9223372036854775807 ∧ (0 < l.length → ∃ b o, p = some ⟨b, o, none⟩ ∧ b < w.heap.size ∧ ∀ i d, l[i]? = some d → ∀ j u, (Dq.cs d)[j]? = some u → w.cell? ⟨b, o + i * 5 + j, none⟩ = some u) ∧ ∀ x ∈ l, DqW w x
/-- A list that came in. -/
def LV {α : Type} (cs : α → List Value) (k : Nat) (w : World) (v : Value) (l : List α) : Prop := ∃ p cap, v = .slice p l.length cap ∧ l.length ≤ cap ∧ cap ≤ 9223372036854775807 ∧ (0 < l.length → ∃ b o, p = some ⟨b, o, none⟩ ∧ b < w.heap.size ∧ ∀ i x, l[i]? = some x → ∀ j u, (cs x)[j]? = some u → w.cell? ⟨b, o + i * k + j, none⟩ = some u)
section
variable {H : Type} {enc : TypeId × Value → H} {w : World} {base : Nat} {spare : Nat → Bool} {held : Bool} {r : Reach} {b0 : Nat}
set_option maxRecDepth 100000 in
theorem open_lst {α : Type} {cs : α → List Value} {k : Nat} (hk : 0 < k) (hc : ∀ x, (cs x).length = k) (x0 : α) {T E : TypeId} (hU : Tryz.prog.underlying T = some (.slice E)) (hcE : Tryz.prog.cellsOf E = k) {Q : α → DataW H → Prop}
    (elem : ∀ {n : Nat} {c : List Value} {y : DataW H × List MemPlace}, DataW.trod enc Tryz.prog w base spare held n E c = some y → ∃ x : α, c = cs x ∧ Q x y.1)
    {fp : Option Addr} {fn fc : Nat} {fuel : Nat} {d : DataW H} {p : List MemPlace} (g : DataW.trod enc Tryz.prog w base spare held fuel T [.slice fp fn fc] = some (d, p)) :
    ∃ l : List α, LV cs k w (.slice fp fn fc) l ∧ l.length = fn ∧ ((l = [] ∧ d = .nil) ∨ ∃ elems sp, elems.length = l.length ∧ (∀ (i : Nat) (x : α) (e : DataW H), l[i]? = some x → elems[i]? = some e → Q x e) ∧ d = .slice elems sp) := by
  rcases Go.Deep.open_slice hU g with ⟨h1, h2⟩ | ⟨a, len, cap, m, n, D, Pl, h1, hb, hlc, hcm, hm, h2, hel⟩
  · simp only [List.cons.injEq, Value.slice.injEq, and_true] at h1
    obtain ⟨rfl, rfl, rfl⟩ := h1
    exact ⟨[], ⟨none, 0, rfl, Nat.le_refl _, Nat.zero_le _, fun h => absurd h (by simp)⟩, rfl, .inl ⟨rfl, congrArg Prod.fst h2⟩⟩
  · simp only [List.cons.injEq, Value.slice.injEq, and_true] at h1
    obtain ⟨rfl, rfl, rfl⟩ := h1
    have hlm : fn ≤ m := by rw [hm]; split <;> omega
    have each : ∀ i, i < fn → ∃ x : α, Q x (D i) ∧ ∀ j u, (cs x)[j]? = some u → w.cell? ((a.add (i * k)).add j) = some u := fun i hi => by
      obtain ⟨cs', hc', ht⟩ := hel i (by omega)
      rw [hcE] at hc'
      obtain ⟨_, hl4, hcell⟩ := World.cells?_some hc'
      obtain ⟨x, rfl, hQ⟩ := elem ht
      refine ⟨x, hQ, fun j u hu => ?_⟩
      have hj : j < k := by rw [← hc x]; exact (List.getElem?_eq_some_iff.1 hu).1
      rw [hcell j hj]
      exact hu
    have ha : 0 < fn → a = ⟨a.block, a.off, none⟩ ∧ a.block < w.heap.size := fun h0 => by
      obtain ⟨cs', hc', ht⟩ := hel 0 (by omega)
      rw [hcE] at hc'
      obtain ⟨_, hl4, hcell⟩ := World.cells?_some hc'
      have h3 := hcell 0 hk
      have hlt : 0 < cs'.length := by omega
      rw [List.getElem?_eq_getElem hlt] at h3
      rw [show (a.add (0 * k)).add 0 = a by simp [Addr.add]] at h3
      have hs := World.cell?_spot h3
      have h4 := World.block_lt_of_cell? w _ h3
      obtain ⟨b, o, s⟩ := a
      simp only at hs
      rw [hs]
      exact ⟨rfl, h4⟩
    classical
    have hex : ∀ i : Nat, ∃ x : α, i < fn → (Q x (D i) ∧ ∀ j u, (cs x)[j]? = some u → w.cell? ((a.add (i * k)).add j) = some u) := fun i => by
      by_cases hi : i < fn
      · obtain ⟨x, hx⟩ := each i hi
        exact ⟨x, fun _ => hx⟩
      · exact ⟨x0, fun h => absurd h hi⟩
    let f : Nat → α := fun i => Classical.choose (hex i)
    have hf2 : ∀ i, i < fn → (Q (f i) (D i) ∧ ∀ j u, (cs (f i))[j]? = some u → w.cell? ((a.add (i * k)).add j) = some u) := fun i => Classical.choose_spec (hex i)
    have hnl : ((List.range fn).map f).length = fn := by simp
    refine ⟨(List.range fn).map f, ⟨some a, fc, by rw [hnl], by rw [hnl]; exact hlc, by unfold maxLen at hcm; omega, fun h0 => ?_⟩, hnl, .inr ⟨(List.range fn).map D, (List.range (m - fn)).map (fun j => D (fn + j)), by simp, fun i x e hi he => ?_, ?_⟩⟩
    · rw [hnl] at h0
      refine ⟨a.block, a.off, congrArg some (ha h0).1, (ha h0).2, fun i x hi j u hu => ?_⟩
      have hil : i < fn := by have := (List.getElem?_eq_some_iff.1 hi).1; rwa [hnl] at this
      have e : x = f i := by
        rw [List.getElem?_map, List.getElem?_range hil] at hi
        simpa using hi.symm
      rw [e] at hu
      rw [← (hf2 i hil).2 j u hu]
      congr 1
      rw [Go.Deep.add_add, (ha h0).1]
      simp [Addr.add, Nat.add_assoc]
    · have hil : i < fn := by have := (List.getElem?_eq_some_iff.1 hi).1; rwa [hnl] at this
      rw [List.getElem?_map, List.getElem?_range hil] at hi he
      simp at hi he
      subst hi he
      exact (hf2 i hil).1
    · have h2' := congrArg Prod.fst h2
      simpa using h2'
theorem bulk_len : ∀ (es : List (DataW H)), (∀ e ∈ es, 1 ≤ Rows.uptoBulk e) → es.length ≤ Rows.uptoBulkAll es
  | [], _ => Nat.zero_le _
  | x :: r, h => by
    have h1 := bulk_len r (fun e he => h e (List.mem_cons_of_mem _ he))
    have h2 := h x (List.mem_cons_self ..)
    simp only [Rows.uptoBulkAll, List.length_cons]
    omega
theorem list_bulk {α : Type} {l : List α} {d : DataW H} {Q : α → DataW H → Prop} (h : (l = [] ∧ d = .nil) ∨ ∃ elems sp, elems.length = l.length ∧ (∀ (i : Nat) (x : α) (e : DataW H), l[i]? = some x → elems[i]? = some e → Q x e) ∧ d = .slice elems sp) (hq : ∀ x e, Q x e → 1 ≤ Rows.uptoBulk e) : l.length + 1 ≤ Rows.uptoBulk d := by
  rcases h with ⟨rfl, rfl⟩ | ⟨elems, sp, hle, hQ, rfl⟩
  · simp only [Rows.uptoBulk, List.length_nil]; omega
  · have hb : l.length ≤ Rows.uptoBulkAll elems := by
      rw [← hle]
      refine bulk_len elems (fun e he => ?_)
      obtain ⟨i, hi, rfl⟩ := List.getElem_of_mem he
      exact hq _ _ (hQ i _ _ (List.getElem?_eq_getElem (by omega)) (List.getElem?_eq_getElem hi))
    simp only [Rows.uptoBulk]
    omega
set_option maxRecDepth 100000 in
theorem trodC {n : Nat} {c : List Value} {y : DataW H × List MemPlace} (h : DataW.trod enc Tryz.prog w base spare held n 32 c = some y) : ∃ x : Cl, c = Cl.cs x ∧ ((I64 x.r ∧ I64 x.c) ∧ 1 ≤ Rows.uptoBulk y.1) := by
  obtain ⟨xs, nf, _, hx, hl, hlen, hf⟩ := DataW.trod_struct Tryz.underlying32 h
  obtain ⟨c0, c1, rfl⟩ := ll2 (hl.trans cellsC)
  obtain ⟨y0, y1, rfl⟩ := ll2 (show xs.length = 2 by simpa using hlen)
  have g0 : DataW.trod enc Tryz.prog w base spare held nf 3 [c0] = some y0 := by
    have q := hf 0 _ rfl
    simpa [cellsI] using q
  have g1 : DataW.trod enc Tryz.prog w base spare held nf 3 [c1] = some y1 := by
    have q := hf 1 _ rfl
    simpa [cellsI] using q
  obtain ⟨a0, e0, _, w0⟩ := DataW.trod_int Tryz.underlying3 g0
  obtain ⟨a1, e1, _, w1⟩ := DataW.trod_int Tryz.underlying3 g1
  simp only [List.cons.injEq, and_true] at e0 e1
  subst e0 e1
  exact ⟨⟨a0, a1⟩, rfl, ⟨i64_of w0, i64_of w1⟩, by rw [hx]; simp only [Rows.uptoBulk]; omega⟩
set_option maxRecDepth 100000 in
theorem trodRc {n : Nat} {c0 c1 c2 c3 : Value} {y : DataW H × List MemPlace} (h : DataW.trod enc Tryz.prog w base spare held n 51 [c0, c1, c2, c3] = some y) : ∃ r0 r1 r2 r3 : Int, c0 = .int .i64 r0 ∧ c1 = .int .i64 r1 ∧ c2 = .int .i64 r2 ∧ c3 = .int .i64 r3 := by
  obtain ⟨xs, nf, _, hx, hl, hlen, hf⟩ := DataW.trod_struct Tryz.underlying51 h
  obtain ⟨y0, y1, y2, y3, rfl⟩ := ll4 (show xs.length = 4 by simpa using hlen)
  have g0 : DataW.trod enc Tryz.prog w base spare held nf 3 [c0] = some y0 := by
    have q := hf 0 _ rfl
    simpa [cellsI] using q
  have g1 : DataW.trod enc Tryz.prog w base spare held nf 3 [c1] = some y1 := by
    have q := hf 1 _ rfl
    simpa [cellsI] using q
  have g2 : DataW.trod enc Tryz.prog w base spare held nf 3 [c2] = some y2 := by
    have q := hf 2 _ rfl
    simpa [cellsI] using q
  have g3 : DataW.trod enc Tryz.prog w base spare held nf 3 [c3] = some y3 := by
    have q := hf 3 _ rfl
    simpa [cellsI] using q
  obtain ⟨a0, e0, _, w0⟩ := DataW.trod_int Tryz.underlying3 g0
  obtain ⟨a1, e1, _, w1⟩ := DataW.trod_int Tryz.underlying3 g1
  obtain ⟨a2, e2, _, w2⟩ := DataW.trod_int Tryz.underlying3 g2
  obtain ⟨a3, e3, _, w3⟩ := DataW.trod_int Tryz.underlying3 g3
  simp only [List.cons.injEq, and_true] at e0 e1 e2 e3
  exact ⟨a0, a1, a2, a3, e0, e1, e2, e3⟩
set_option maxRecDepth 100000 in
theorem trodF {n : Nat} {c : List Value} {y : DataW H × List MemPlace} (h : DataW.trod enc Tryz.prog w base spare held n 53 c = some y) : ∃ x : Rf, c = Rf.cs x ∧ 1 ≤ Rows.uptoBulk y.1 := by
  obtain ⟨xs, nf, _, hx, hl, hlen, hf⟩ := DataW.trod_struct Tryz.underlying53 h
  obtain ⟨c0, c1, c2, c3, c4, rfl⟩ := ll5 (hl.trans cellsFr)
  obtain ⟨y0, y1, rfl⟩ := ll2 (show xs.length = 2 by simpa using hlen)
  have g0 : DataW.trod enc Tryz.prog w base spare held nf 4 [c0] = some y0 := by
    have q := hf 0 _ rfl
    simpa [cellsBo] using q
  have g1 : DataW.trod enc Tryz.prog w base spare held nf 51 [c1, c2, c3, c4] = some y1 := by
    have q := hf 1 _ rfl
    simpa [cellsBo, cellsR] using q
  obtain ⟨m, e0, _⟩ := DataW.trod_bool Tryz.underlying4 g0
  obtain ⟨a0, a1, a2, a3, rfl, rfl, rfl, rfl⟩ := trodRc g1
  simp only [List.cons.injEq, and_true] at e0
  subst e0
  exact ⟨⟨m, a0, a1, a2, a3⟩, rfl, by rw [hx]; simp only [Rows.uptoBulk]; omega⟩
set_option maxRecDepth 100000 in
theorem trodD {n : Nat} {c : List Value} {y : DataW H × List MemPlace} (h : DataW.trod enc Tryz.prog w base spare held n 35 c = some y) : ∃ x : Dq, c = Dq.cs x ∧ (DqW w x ∧ x.d.l.length + 1 ≤ Rows.uptoBulk y.1) := by
  obtain ⟨xs, nf, _, hx, hl, hlen, hf⟩ := DataW.trod_struct Tryz.underlying35 h
  obtain ⟨c0, c1, c2, c3, c4, rfl⟩ := ll5 (hl.trans cellsDd)
  obtain ⟨y0, y1, y2, y3, rfl⟩ := ll4 (show xs.length = 4 by simpa using hlen)
  have g0 : DataW.trod enc Tryz.prog w base spare held nf 3 [c0] = some y0 := by
    have q := hf 0 _ rfl
    simpa [cellsI] using q
  have g1 : DataW.trod enc Tryz.prog w base spare held nf 32 [c1, c2] = some y1 := by
    have q := hf 1 _ rfl
    simpa [cellsI, cellsC] using q
  have g2 : DataW.trod enc Tryz.prog w base spare held nf 33 [c3] = some y2 := by
    have q := hf 2 _ rfl
    simpa [cellsI, cellsC, cellsFs] using q
  have g3 : DataW.trod enc Tryz.prog w base spare held nf 4 [c4] = some y3 := by
    have q := hf 3 _ rfl
    simpa [cellsI, cellsC, cellsFs, cellsBo] using q
  obtain ⟨k0, e0, _, w0⟩ := DataW.trod_int Tryz.underlying3 g0
  obtain ⟨⟨z0, z1⟩, ez, ⟨w1, w2⟩, _⟩ := trodC g1
  obtain ⟨f0, e3, _⟩ := DataW.trod_bool Tryz.underlying4 g3
  simp only [Cl.cs, List.cons.injEq, and_true] at ez e0 e3
  obtain ⟨rfl, rfl⟩ := ez
  subst e0 e3
  have hsl : ∃ fp fn fc, c3 = .slice fp fn fc := by
    rcases Go.Deep.open_slice Tryz.underlying33 g2 with ⟨h1, _⟩ | ⟨a, len, cap, _, _, _, _, h1, _⟩
    · simp only [List.cons.injEq, and_true] at h1; exact ⟨_, _, _, h1⟩
    · simp only [List.cons.injEq, and_true] at h1; exact ⟨_, _, _, h1⟩
  obtain ⟨fp, fn, fc, rfl⟩ := hsl
  obtain ⟨l, hv, hln, hd⟩ := open_lst (cs := Rf.cs) (k := 5) (by decide) (fun _ => rfl) ⟨false, 0, 0, 0, 0⟩ Tryz.underlying33 cellsFr (Q := fun x d => 1 ≤ Rows.uptoBulk d) (fun ht => trodF ht) (show DataW.trod enc Tryz.prog w base spare held nf 33 [.slice fp fn fc] = some (y2.1, y2.2) from g2)
  refine ⟨⟨k0, ⟨z0, z1, fp, fn, fc, l⟩, f0⟩, rfl, ⟨i64_of w0, w1, w2, ?_⟩, ?_⟩
  · obtain ⟨p, cap, e, k1, k2, k3⟩ := hv
    injection e with e1 e2 e3
    subst e1 e2 e3
    exact ⟨fp, _, fc, rfl, rfl, k1, k2, k3⟩
  · have hb := list_bulk hd (fun _ _ q => q)
    rw [hx]
    simp only [List.map_cons, List.map_nil, Rows.uptoBulk, Rows.uptoBulkAll]
    show l.length + 1 ≤ _
    omega
theorem cst_bulk : ∀ (l : List Dq) (es : List (DataW H)), es.length = l.length → (∀ (i : Nat) (x : Dq) (e : DataW H), l[i]? = some x → es[i]? = some e → x.d.l.length + 1 ≤ Rows.uptoBulk e) → cst (l.map Dq.d) ≤ Rows.uptoBulkAll es
  | [], es, h, _ => Nat.zero_le _
  | p :: l, [], h, _ => by cases h
  | p :: l, e :: es, h, hq => by
    have h1 := cst_bulk l es (by simpa using h) (fun i x e' hi he => hq (i + 1) x e' (by simpa using hi) (by simpa using he))
    have h2 := hq 0 p e rfl rfl
    simp only [cst, List.map_cons, List.sum_cons, Rows.uptoBulkAll] at h1 ⊢
    omega
theorem lst_all {α : Type} {l : List α} {d : DataW H} {Q : α → DataW H → Prop} (h : (l = [] ∧ d = .nil) ∨ ∃ elems sp, elems.length = l.length ∧ (∀ (i : Nat) (x : α) (e : DataW H), l[i]? = some x → elems[i]? = some e → Q x e) ∧ d = .slice elems sp) : ∀ x ∈ l, ∃ e, Q x e := fun x hx => by
  rcases h with ⟨rfl, _⟩ | ⟨elems, sp, hle, hq, _⟩
  · cases hx
  · obtain ⟨i, hi, rfl⟩ := List.getElem_of_mem hx
    exact ⟨_, hq i _ _ (List.getElem?_eq_getElem hi) (List.getElem?_eq_getElem (by omega))⟩
set_option maxRecDepth 100000 in
theorem open_deeds {v : Value} {d : DataW H} {p : List MemPlace} (hv : Value.okWide Tryz.prog w r b0 22 v) (h : DataW.Trod enc Tryz.prog w base spare held 22 v d p) : ∃ l : List Dq, DQw w v l ∧ cst (l.map Dq.d) ≤ Rows.uptoBulk d := by
  obtain ⟨fp, fn, fc, rfl⟩ := okWide_slice Tryz.underlying22 hv
  obtain ⟨fuel, hf⟩ := h
  obtain ⟨l, hv, hln, hd⟩ := open_lst (cs := Dq.cs) (k := 5) (by decide) Dq.len ⟨0, ⟨0, 0, none, 0, 0, []⟩, false⟩ Tryz.underlying22 cellsDd (Q := fun x d => DqW w x ∧ x.d.l.length + 1 ≤ Rows.uptoBulk d) (fun ht => trodD ht) (show DataW.trod enc Tryz.prog w base spare held fuel 22 [.slice fp fn fc] = some (d, p) from hf)
  obtain ⟨q, cap, e, k1, k2, k3⟩ := hv
  refine ⟨l, ⟨q, cap, e, k1, k2, k3, fun x hx => (lst_all hd x hx).elim (fun e q => q.1)⟩, ?_⟩
  rcases hd with ⟨rfl, _⟩ | ⟨elems, sp, hle, hq, rfl⟩
  · exact Nat.zero_le _
  · have := cst_bulk l elems hle (fun i x e hi he => (hq i x e hi he).2)
    simp only [Rows.uptoBulk]
    omega
end
theorem bulk_at0 {H : Type} {d : DataW H} {ds : List (DataW H)} (h : Rows.uptoSmall H (d :: ds) = true) : Rows.uptoBulk d ≤ 1048576 := by
  have := of_decide_eq_true h
  simp only [Rows.uptoBulkAll] at this
  omega
end Go.Proofs.YtcjanaldjokllaaGreat
