/- The bands with their pairs (Bd); the contracts of bandOf and New; what a step leaves beside the caller's own blocks. -/
import Derived.Test.YtgojnijpjfdocaaGreatBV
import Derived.Test.YtgojnijpjfdocaaGreatBX
namespace Go.Proofs.YtgojnijpjfdocaaGreat
open Go.RowKit
set_option linter.all false
theorem bof_any (w : World) (r : Int) (h1 : 1 ≤ r) (h2 : r ≤ 4096) : Calls Tryz.prog 67 #[.int .i64 r] w fun e w' => e = .returned (.int .i64 ((r - 1) / 64)) ∧ w' = w := by
  have e : (r - 1).tdiv 64 = (r - 1) / 64 := Int.tdiv_eq_ediv_of_nonneg (by omega)
  have hw : IntKind.i64.wrap (r - 1) = r - 1 := by rw [IntKind.wrap_i64]; omega
  have hw2 : IntKind.i64.wrap ((r - 1) / 64) = (r - 1) / 64 := by rw [IntKind.wrap_i64]; omega
  go_enter Tryz.func67, Tryz.ntmps67
  go_wp2
  all_goals go_ret
  all_goals exact ⟨ret1 (by first | rfl | omega | simp_all), rfl⟩
/-- The pairs, and what each block is (D). -/
structure Bd (w : World) (N : Nat) (D : Nat → Option Tag) (P : List Pr) (m : Nat) : Prop where
  srt : SrtP P
  few : P.length ≤ m
  may : ∀ p ∈ P, mayC p.r p.c = true ∧ mayR p.t p.l p.b p.q = true
  mw : ∃ K NN, MW w N D K NN m ∧ (∀ r c, rectsAt P r c = [] → K r c = none) ∧ (∀ r c, rectsAt P r c ≠ [] → ∃ k, K r c = some k ∧ k.l = rectsAt P r c) ∧ (∀ j r c, j < 65 → NN j r c = cnt j P r c)
def BdOut (w : World) (N : Nat) (D : Nat → Option Tag) (P' : List Pr) (m : Nat) (w' : World) : Prop := ∃ D', Bd w' N D' P' m ∧ Mut (fun b => (D b).isSome = true) w w' ∧ ∀ b, (D' b).isSome = true → (D b).isSome = true ∨ w.heap.size ≤ b
theorem Bd.keep {w w' : World} {N : Nat} {D : Nat → Option Tag} {P : List Pr} {m : Nat} (h : Bd w N D P m) (hb : Below w.heap.size w w') : Bd w' N D P m := by
  obtain ⟨K, NN, h1, h2⟩ := h.mw
  exact ⟨h.srt, h.few, h.may, K, NN, h1.keep hb, h2⟩
theorem Bd.more {w : World} {N : Nat} {D : Nat → Option Tag} {P : List Pr} {m m' : Nat} (h : Bd w N D P m) (hm : m ≤ m') : Bd w N D P m' := by
  obtain ⟨K, NN, h1, h2⟩ := h.mw
  exact ⟨h.srt, Nat.le_trans h.few hm, h.may, K, NN, h1.more hm, h2⟩
theorem Bd.mut {T : Nat → Prop} {w w' : World} {N : Nat} {D : Nat → Option Tag} {P : List Pr} {m : Nat} (h : Bd w N D P m) (hm : Mut T w w') (hd : ∀ b, (D b).isSome = true → ¬ T b) : Bd w' N D P m := by
  obtain ⟨K, NN, h1, h2⟩ := h.mw
  exact ⟨h.srt, h.few, h.may, K, NN, h1.mut hm hd, h2⟩
theorem Bd.dom {w : World} {N : Nat} {D : Nat → Option Tag} {P : List Pr} {m : Nat} (h : Bd w N D P m) : ∀ b, (D b).isSome = true → b < w.heap.size := fun b q => by
  obtain ⟨K, NN, h1, h2⟩ := h.mw
  obtain ⟨t, ht⟩ := Option.isSome_iff_exists.1 q
  exact h1.dom b t ht
theorem BdOut.same {w w' : World} {N : Nat} {D : Nat → Option Tag} {P : List Pr} {m : Nat} (h : Bd w N D P m) (hb : Below w.heap.size w w') : BdOut w N D P m w' := ⟨D, h.keep hb, Mut.of_below hb, fun b q => .inl q⟩
def zBd : Array Value := (List.replicate 65 (Value.slice none 0 0)).toArray
theorem zeroBd (w : World) : (zeroValue 96).run Tryz.prog w = .ok (.agg zBd) w := by kernel_rfl
theorem zBd_at : zBd.size = 65 ∧ ∀ i, i < 65 → zBd[i]? = some (.slice none 0 0) := by
  refine ⟨by simp [zBd], fun i hi => ?_⟩
  unfold zBd
  rw [List.getElem?_toArray, List.getElem?_replicate, if_pos hi]
theorem Bd.new (w : World) (T : TypeId) : Bd (w.alloc (.cells zBd T)) w.heap.size (fun b => if b = w.heap.size then some (0, 0, 0) else none) [] 0 := by
  refine ⟨List.Pairwise.nil, Nat.le_refl _, (fun p hp => by cases hp), fun _ _ => none, fun _ _ _ => 0, ⟨fun b t e => ?_, by simp, (fun r c k e => by cases e), ⟨zBd, Own.new _ _ _, zBd_at.1, fun j hj => ⟨_, [], zBd_at.2 j hj, RowG.nil _, (fun b q => by cases q), List.Pairwise.nil, (fun s hs => by cases hs), (fun r c q => by cases q)⟩⟩, fun _ _ _ => Nat.le_refl _⟩, fun _ _ _ => rfl, fun r c q => absurd rfl q, fun j r c hj => by simp [cnt, rectsAt]⟩
  by_cases q : b = w.heap.size
  · subst q; simp
  · simp [q] at e
set_option maxRecDepth 100000 in
theorem bnew_any (w : World) : Calls Tryz.prog 39 #[] w fun e w' => e = .returned (.pointer (some ⟨w.heap.size, 0, none⟩)) ∧ Bd w' w.heap.size (fun b => if b = w.heap.size then some (0, 0, 0) else none) [] 0 ∧ Below w.heap.size w w' ∧ w'.heap.size = w.heap.size + 1 := by
  have hz := zeroBd
  obtain ⟨Z, hZ⟩ : ∃ Z, Z = zBd := ⟨_, rfl⟩
  have HB : Hid (∀ (W : World) (T : TypeId), Bd (W.alloc (.cells Z T)) W.heap.size (fun b => if b = W.heap.size then some (0, 0, 0) else none) [] 0) := (show _ from fun W T => by rw [hZ]; exact Bd.new W T)
  rw [← hZ] at hz
  clear hZ
  go_enter Tryz.func39, Tryz.ntmps39
  go_wp2
  go_ret
  exact ⟨rfl, HB.out _ _, by with_reducible (repeat' first | assumption | exact Below.refl _ _ | refine Below.drew ?_ | refine bdrewN ?_ _ | refine Below.setCell ?_ (by first | exact Nat.le_refl _ | (simp; done) | (simp; omega) | omega) _ | refine Below.alloc ?_ (by first | exact Nat.le_refl _ | (simp; done) | (simp; omega) | omega) _), by simp⟩
/-- On the way of a step: the caller's two boxes stand, what is the bands' own may be turned. -/
structure St (w W : World) (N : Nat) (D : Nat → Option Tag) (D' : Nat → Option Tag) (K : KF) (NN : Nat → Int → Int → Nat) (m : Nat) (A B : Array Value) : Prop where
  mw : MW W N D' K NN m
  dn : ∀ b, (D' b).isSome = true → (D b).isSome = true ∨ w.heap.size + 2 ≤ b
  od : ∀ b t, D b = some t → D' b = some t
  mu : Mut (fun b => (D b).isSome = true) w W
  dl : ∀ b, (D b).isSome = true → b < w.heap.size
  oA : Own W w.heap.size A
  oB : Own W (w.heap.size + 1) B
  sz : w.heap.size + 2 ≤ W.heap.size
theorem St.keep {w W W' : World} {N : Nat} {D D' : Nat → Option Tag} {K : KF} {NN : Nat → Int → Int → Nat} {m : Nat} {A B : Array Value} (h : St w W N D D' K NN m A B) (hb : Below W.heap.size W W') : St w W' N D D' K NN m A B :=
  ⟨h.mw.keep hb, h.dn, h.od, h.mu.below hb, h.dl, h.oA.keep hb, h.oB.keep hb, Nat.le_trans h.sz hb.size⟩
theorem St.step {w W W' : World} {N : Nat} {D D' : Nat → Option Tag} {K K' : KF} {NN NN' : Nat → Int → Int → Nat} {m m' : Nat} {A B : Array Value} (h : St w W N D D' K NN m A B) (ho : MOut W N D' K' NN' m' W') : ∃ D2, St w W' N D D2 K' NN' m' A B := by
  obtain ⟨D2, o1, o2, o3, o4⟩ := ho
  have hn : ∀ b, b < w.heap.size + 2 → w.heap.size ≤ b → ¬ (D' b).isSome = true := fun b h1 h2 q => by
    rcases h.dn b q with s | s
    · have := h.dl b s; omega
    · omega
  refine ⟨D2, o1, fun b q => ?_, fun b t e => o4 b t (h.od b t e), h.mu.call o2 (fun b q => ?_), h.dl, h.oA.mut o2 (hn _ (by omega) (by omega)), h.oB.mut o2 (hn _ (by omega) (by omega)), Nat.le_trans h.sz o2.size⟩
  · rcases o3 b q with s | s
    · exact h.dn b s
    · exact .inr (Nat.le_trans h.sz s)
  · rcases h.dn b q with s | s
    · exact .inl s
    · exact .inr (by omega)
theorem St.start {w W : World} {N : Nat} {D : Nat → Option Tag} {K : KF} {NN : Nat → Int → Int → Nat} {m : Nat} {A B : Array Value} (h : MW w N D K NN m) (hb : Below w.heap.size w W) (hA : Own W w.heap.size A) (hB : Own W (w.heap.size + 1) B) (hs : w.heap.size + 2 ≤ W.heap.size) : St w W N D D K NN m A B :=
  ⟨h.keep hb, fun b q => .inl q, fun b t e => e, Mut.of_below hb, fun b q => by
    obtain ⟨t, ht⟩ := Option.isSome_iff_exists.1 q
    exact h.dom b t ht, hA, hB, hs⟩
end Go.Proofs.YtgojnijpjfdocaaGreat
