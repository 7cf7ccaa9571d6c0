/- The bands with their pairs (Bd); the contracts of bandOf and New; what a step leaves beside the caller's own blocks. · The contract of Add. -/
import Derived.Test.YtcjanaldjokllaaGreatQBUBVBX
namespace Go.Proofs.YtcjanaldjokllaaGreat
open Go.RowKit
set_option linter.all false
theorem bof_any (w : World) (r : Int) (h1 : 1 ≤ r) (h2 : r ≤ 4096) : Calls Tryz.prog 64 #[.int .i64 r] w fun e w' => e = .returned (.int .i64 ((r - 1) / 64)) ∧ w' = w := by
  have e : (r - 1).tdiv 64 = (r - 1) / 64 := Int.tdiv_eq_ediv_of_nonneg (by omega)
  have hw : IntKind.i64.wrap (r - 1) = r - 1 := by rw [IntKind.wrap_i64]; omega
  have hw2 : IntKind.i64.wrap ((r - 1) / 64) = (r - 1) / 64 := by rw [IntKind.wrap_i64]; omega
  go_enter Tryz.func64, Tryz.ntmps64
  go_wp2
  all_goals go_ret
  all_goals exact ⟨ret1 (by first | rfl | omega | simp_all), rfl⟩
/-- The pairs, and what each block is (D). -/
structure Bd (w : World) (N : Nat) (D : Nat → Option Tag) (P : List Pr) (m : Nat) : Prop where
  srt : SrtP P
  few : P.length ≤ m
  may : ∀ p ∈ P, mayC p.r p.c = true ∧ mayR p.t p.l p.b p.q = true
  mw : ∃ K NN, MW w N D K NN m ∧ (∀ r c, rectsAt P r c = [] → K r c = none) ∧ (∀ r c, rectsAt P r c ≠ [] → ∃ k, K r c = some k ∧ k.l = rectsAt P r c) ∧ (∀ j r c, j < 65 → NN j r c = cnt j P r c)
def BdOut (w : World) (N : Nat) (D : Nat → Option Tag) (P' : List Pr) (m : Nat) (w' : World) : Prop := ∃ D', Bd w' N D' P' m ∧ Mut (fun b => (D b).isSome = true) w w' ∧ ∀ b, (D' b).isSome = true → (D b).isSome = true ∨ w.heap.size ≤ b
theorem Bd.keep {w w' : World} {N : Nat} {D : Nat → Option Tag} {P : List Pr} {m : Nat} (h : Bd w N D P m) (hb : Below w.heap.size w w') : Bd w' N D P m := by
  obtain ⟨K, NN, h1, h2⟩ := h.mw
  exact ⟨h.srt, h.few, h.may, K, NN, h1.keep hb, h2⟩
theorem Bd.more {w : World} {N : Nat} {D : Nat → Option Tag} {P : List Pr} {m m' : Nat} (h : Bd w N D P m) (hm : m ≤ m') : Bd w N D P m' := by
  obtain ⟨K, NN, h1, h2⟩ := h.mw
  exact ⟨h.srt, Nat.le_trans h.few hm, h.may, K, NN, h1.more hm, h2⟩
theorem Bd.mut {T : Nat → Prop} {w w' : World} {N : Nat} {D : Nat → Option Tag} {P : List Pr} {m : Nat} (h : Bd w N D P m) (hm : Mut T w w') (hd : ∀ b, (D b).isSome = true → ¬ T b) : Bd w' N D P m := by
  obtain ⟨K, NN, h1, h2⟩ := h.mw
  exact ⟨h.srt, h.few, h.may, K, NN, h1.mut hm hd, h2⟩
theorem Bd.dom {w : World} {N : Nat} {D : Nat → Option Tag} {P : List Pr} {m : Nat} (h : Bd w N D P m) : ∀ b, (D b).isSome = true → b < w.heap.size := fun b q => by
  obtain ⟨K, NN, h1, h2⟩ := h.mw
  obtain ⟨t, ht⟩ := Option.isSome_iff_exists.1 q
  exact h1.dom b t ht
theorem BdOut.same {w w' : World} {N : Nat} {D : Nat → Option Tag} {P : List Pr} {m : Nat} (h : Bd w N D P m) (hb : Below w.heap.size w w') : BdOut w N D P m w' := ⟨D, h.keep hb, Mut.of_below hb, fun b q => .inl q⟩
def zBd : Array Value := (List.replicate 65 (Value.slice none 0 0)).toArray
theorem zeroBd (w : World) : (zeroValue 112).run Tryz.prog w = .ok (.agg zBd) w := by kernel_rfl
theorem zBd_at : zBd.size = 65 ∧ ∀ i, i < 65 → zBd[i]? = some (.slice none 0 0) := by
  refine ⟨by simp [zBd], fun i hi => ?_⟩
  unfold zBd
  rw [List.getElem?_toArray, List.getElem?_replicate, if_pos hi]
theorem Bd.new (w : World) (T : TypeId) : Bd (w.alloc (.cells zBd T)) w.heap.size (fun b => if b = w.heap.size then some (0, 0, 0) else none) [] 0 := by
  refine ⟨List.Pairwise.nil, Nat.le_refl _, (fun p hp => by cases hp), fun _ _ => none, fun _ _ _ => 0, ⟨fun b t e => ?_, by simp, (fun r c k e => by cases e), ⟨zBd, Own.new _ _ _, zBd_at.1, fun j hj => ⟨_, [], zBd_at.2 j hj, RowG.nil _, (fun b q => by cases q), List.Pairwise.nil, (fun s hs => by cases hs), (fun r c q => by cases q)⟩⟩, fun _ _ _ => Nat.le_refl _⟩, fun _ _ _ => rfl, fun r c q => absurd rfl q, fun j r c hj => by simp [cnt, rectsAt]⟩
  by_cases q : b = w.heap.size
  · subst q; simp
  · simp [q] at e
set_option maxRecDepth 100000 in
theorem bnew_any (w : World) : Calls Tryz.prog 59 #[] w fun e w' => e = .returned (.pointer (some ⟨w.heap.size, 0, none⟩)) ∧ Bd w' w.heap.size (fun b => if b = w.heap.size then some (0, 0, 0) else none) [] 0 ∧ Below w.heap.size w w' ∧ w'.heap.size = w.heap.size + 1 := by
  have hz := zeroBd
  obtain ⟨Z, hZ⟩ : ∃ Z, Z = zBd := ⟨_, rfl⟩
  have HB : Hid (∀ (W : World) (T : TypeId), Bd (W.alloc (.cells Z T)) W.heap.size (fun b => if b = W.heap.size then some (0, 0, 0) else none) [] 0) := (show _ from fun W T => by rw [hZ]; exact Bd.new W T)
  rw [← hZ] at hz
  clear hZ
  go_enter Tryz.func59, Tryz.ntmps59
  go_wp2
  go_ret
  exact ⟨rfl, HB.out _ _, by with_reducible (repeat' first | assumption | exact Below.refl _ _ | refine Below.drew ?_ | refine bdrewN ?_ _ | refine Below.setCell ?_ (by first | exact Nat.le_refl _ | (simp; done) | (simp; omega) | omega) _ | refine Below.alloc ?_ (by first | exact Nat.le_refl _ | (simp; done) | (simp; omega) | omega) _), by simp⟩
/-- On the way of a step: the caller's two boxes stand, what is the bands' own may be turned. -/
structure St (w W : World) (N : Nat) (D : Nat → Option Tag) (D' : Nat → Option Tag) (K : KF) (NN : Nat → Int → Int → Nat) (m : Nat) (A B : Array Value) : Prop where
  mw : MW W N D' K NN m
  dn : ∀ b, (D' b).isSome = true → (D b).isSome = true ∨ w.heap.size + 2 ≤ b
  od : ∀ b t, D b = some t → D' b = some t
  mu : Mut (fun b => (D b).isSome = true) w W
  dl : ∀ b, (D b).isSome = true → b < w.heap.size
  oA : Own W w.heap.size A
  oB : Own W (w.heap.size + 1) B
  sz : w.heap.size + 2 ≤ W.heap.size
theorem St.keep {w W W' : World} {N : Nat} {D D' : Nat → Option Tag} {K : KF} {NN : Nat → Int → Int → Nat} {m : Nat} {A B : Array Value} (h : St w W N D D' K NN m A B) (hb : Below W.heap.size W W') : St w W' N D D' K NN m A B :=
  ⟨h.mw.keep hb, h.dn, h.od, h.mu.below hb, h.dl, h.oA.keep hb, h.oB.keep hb, Nat.le_trans h.sz hb.size⟩
theorem St.step {w W W' : World} {N : Nat} {D D' : Nat → Option Tag} {K K' : KF} {NN NN' : Nat → Int → Int → Nat} {m m' : Nat} {A B : Array Value} (h : St w W N D D' K NN m A B) (ho : MOut W N D' K' NN' m' W') : ∃ D2, St w W' N D D2 K' NN' m' A B := by
  obtain ⟨D2, o1, o2, o3, o4⟩ := ho
  have hn : ∀ b, b < w.heap.size + 2 → w.heap.size ≤ b → ¬ (D' b).isSome = true := fun b h1 h2 q => by
    rcases h.dn b q with s | s
    · have := h.dl b s; omega
    · omega
  refine ⟨D2, o1, fun b q => ?_, fun b t e => o4 b t (h.od b t e), h.mu.call o2 (fun b q => ?_), h.dl, h.oA.mut o2 (hn _ (by omega) (by omega)), h.oB.mut o2 (hn _ (by omega) (by omega)), Nat.le_trans h.sz o2.size⟩
  · rcases o3 b q with s | s
    · exact h.dn b s
    · exact .inr (Nat.le_trans h.sz s)
  · rcases h.dn b q with s | s
    · exact .inl s
    · exact .inr (by omega)
theorem St.start {w W : World} {N : Nat} {D : Nat → Option Tag} {K : KF} {NN : Nat → Int → Int → Nat} {m : Nat} {A B : Array Value} (h : MW w N D K NN m) (hb : Below w.heap.size w W) (hA : Own W w.heap.size A) (hB : Own W (w.heap.size + 1) B) (hs : w.heap.size + 2 ≤ W.heap.size) : St w W N D D K NN m A B :=
  ⟨h.keep hb, fun b q => .inl q, fun b t e => e, Mut.of_below hb, fun b q => by
    obtain ⟨t, ht⟩ := Option.isSome_iff_exists.1 q
    exact h.dom b t ht, hA, hB, hs⟩
end Go.Proofs.YtcjanaldjokllaaGreat
namespace Go.Proofs.YtcjanaldjokllaaGreat
open Go.RowKit
set_option linter.all false
def addB (P : List Pr) (p : Pr) : Bool := mayR p.t p.l p.b p.q && (mayC p.r p.c && !hasF (fP p) P)
def addR (P : List Pr) (p : Pr) : List Pr := if addB P p = true then addP P p else P
/-- The crowds up to this one have one more of the cell. -/
def nnA (NN : Nat → Int → Int → Nat) (r c : Int) (b0 a : Nat) : Nat → Int → Int → Nat := fun j r' c' => if (r' = r ∧ c' = c) ∧ (j = 0 ∨ (b0 + 1 ≤ j ∧ j ≤ a)) then NN j r c + 1 else NN j r' c'
theorem nn_zero (NN : Nat → Int → Int → Nat) (r c : Int) (b0 : Nat) : updN NN 0 r c (NN 0 r c + 1) = nnA NN r c b0 b0 := by
  funext j r' c'
  unfold updN nnA
  by_cases hj : j = 0
  · subst hj
    rw [if_pos rfl]
    by_cases e : r' = r ∧ c' = c
    · obtain ⟨rfl, rfl⟩ := e
      rw [upd_s, if_pos ⟨⟨rfl, rfl⟩, .inl rfl⟩]
    · rw [upd_o _ _ e, if_neg (fun q => e q.1)]
  · rw [if_neg hj, if_neg (by omega)]
theorem nn_step (NN : Nat → Int → Int → Nat) (r c : Int) (b0 a : Nat) (h : b0 ≤ a) : updN (nnA NN r c b0 a) (1 + a) r c (nnA NN r c b0 a (1 + a) r c + 1) = nnA NN r c b0 (a + 1) := by
  have e0 : nnA NN r c b0 a (1 + a) r c = NN (1 + a) r c := by unfold nnA; rw [if_neg (by omega)]
  rw [e0]
  funext j r' c'
  unfold updN
  by_cases hj : j = 1 + a
  · subst hj
    rw [if_pos rfl]
    by_cases e : r' = r ∧ c' = c
    · obtain ⟨rfl, rfl⟩ := e
      rw [upd_s]
      unfold nnA
      rw [if_pos ⟨⟨rfl, rfl⟩, .inr (by omega)⟩]
    · rw [upd_o _ _ e]
      unfold nnA
      rw [if_neg (fun q => e q.1), if_neg (fun q => e q.1)]
  · rw [if_neg hj]
    unfold nnA
    by_cases e : (r' = r ∧ c' = c) ∧ (j = 0 ∨ (b0 + 1 ≤ j ∧ j ≤ a))
    · rw [if_pos e, if_pos (by omega)]
    · rw [if_neg e, if_neg (by omega)]
theorem nn_end {P : List Pr} (hs : SrtP P) (p : Pr) (h : hasF (fP p) P = false) (NN : Nat → Int → Int → Nat) (hN : ∀ j r c, j < 65 → NN j r c = cnt j P r c) (b0 b1 : Nat) (h0 : (p.t - 1) / 64 = (b0 : Int)) (h1 : (p.b - 1) / 64 = (b1 : Int)) : ∀ j r c, j < 65 → nnA NN p.r p.c b0 (b1 + 1) j r c = cnt j (addP P p) r c := by
  intro j r c hj
  unfold nnA
  by_cases e : r = p.r ∧ c = p.c
  · obtain ⟨rfl, rfl⟩ := e
    rw [cnt_add hs p h j, hN j _ _ hj]
    cases j with
    | zero => rw [if_pos ⟨⟨rfl, rfl⟩, .inl rfl⟩]; simp [inBd]
    | succ i =>
      have hb : inBd (i + 1) p.rct = decide (b0 ≤ i ∧ i ≤ b1) := by
        show decide ((p.t - 1) / 64 ≤ (i : Int) ∧ (i : Int) ≤ (p.b - 1) / 64) = _
        rw [h0, h1]
        apply decide_eq_decide.2
        omega
      rw [hb]
      by_cases q : b0 ≤ i ∧ i ≤ b1
      · rw [if_pos ⟨⟨rfl, rfl⟩, .inr (by omega)⟩, if_pos (by simpa using q)]
      · rw [if_neg (by omega), if_neg (by simpa using q)]; rfl
  · rw [if_neg (fun q => e q.1), cnt_add_o hs p j e, hN j _ _ hj]
theorem nnA_le {NN : Nat → Int → Int → Nat} {m : Nat} (h : ∀ j r c, NN j r c ≤ m) (r c : Int) (b0 a j : Nat) (r' c' : Int) (hj : ¬ (j = 0 ∨ (b0 + 1 ≤ j ∧ j ≤ a))) : nnA NN r c b0 a j r' c' + 1 ≤ m + 1 := by
  unfold nnA
  rw [if_neg (fun q => hj q.2)]
  have := h j r' c'
  omega
/-- Add on a looker, on the way. -/
theorem st_add {w W : World} {N : Nat} {D D' : Nat → Option Tag} {K : KF} {NN : Nat → Int → Int → Nat} {m : Nat} {A B : Array Value} {P : List Pr} {p : Pr} {k : Lo} (h : St w W N D D' K NN m A B) (hs : SrtP P) (hh : hasF (fP p) P = false) (hk : K p.r p.c = some k) (hl : k.l = rectsAt P p.r p.c) (hf : P.length ≤ m) (hm : m + 1 ≤ 4000000000000) :
    Calls Tryz.prog 71 #[.pointer (some ⟨k.g, 0, none⟩), .agg #[.int .i64 p.t, .int .i64 p.l, .int .i64 p.b, .int .i64 p.q]] W fun e w' => e = .returned (.bool true) ∧ ∃ D2 K2 k2, St w w' N D D2 K2 NN (m + 1) A B ∧ K2 p.r p.c = some k2 ∧ k2.g = k.g ∧ k2.l = rectsAt (addP P p) p.r p.c ∧ ∀ r c, ¬ (r = p.r ∧ c = p.c) → K2 r c = K r c := by
  have hlo := h.mw.lo _ _ _ hk
  have hkv : k.v.ownBlock ≠ some k.g := fun q => by
    have h1 := hlo.rt _ q
    rw [hlo.tag] at h1
    injection h1 with h1
    injection h1 with h1 _
    cases h1
  have hlen : k.l.length ≤ P.length := by rw [hl]; exact rects_len _ _ _
  refine (ladd_yes W k.g p.r p.c k.v k.l p.t p.l p.b p.q hlo.own hlo.row hkv (by omega) (hlo.srt.mono _ _ _ _) (by rw [hl]; exact (rects_has P p).trans hh)).mono ?_
  rintro e w' hp
  have e1 : loF (fR p.t p.l p.b p.q) k.l ++ (⟨p.t, p.l, p.b, p.q⟩ : Rct) :: hiF (fR p.t p.l p.b p.q) k.l = rectsAt (addP P p) p.r p.c := by rw [hl]; exact (rects_add P p).symm
  rw [e1] at hp
  have he := hp.1
  obtain ⟨v', ho⟩ := h.mw.look (m' := m + 1) hk hp (rects_srt (addP_srt hs p) _ _) (by have := rects_len (addP P p) p.r p.c; rw [addP_len hs p hh] at this; omega) (by omega)
  obtain ⟨D2, h2⟩ := h.step ho
  exact ⟨he, D2, _, _, h2, upd_s _ _ _ _, rfl, rfl, fun r c q => upd_o _ _ q⟩
theorem st_join {w W : World} {N : Nat} {D D' : Nat → Option Tag} {K : KF} {NN : Nat → Int → Int → Nat} {m : Nat} {A B : Array Value} (h : St w W N D D' K NN m A B) (j : Nat) (r c : Int) (k : Lo) (hj : j < 65) (hk : K r c = some k) (hb : NN j r c + 1 ≤ m) (hm : m ≤ 4000000000000) :
    Calls Tryz.prog 72 #[.pointer (some ⟨N, j, none⟩), .pointer (some ⟨k.g, 0, none⟩)] W fun e w' => e = .returned (.tuple #[]) ∧ ∃ D2, St w w' N D D2 K (updN NN j r c (NN j r c + 1)) m A B := by
  refine (mw_join W N D' K NN m j r c k h.mw hj hk hb hm).mono ?_
  rintro e w' ⟨rfl, ho⟩
  exact ⟨rfl, h.step ho⟩
/-- At the end of an add. -/
theorem st_added {w W : World} {N : Nat} {D D' : Nat → Option Tag} {K : KF} {NN : Nat → Int → Int → Nat} {m : Nat} {A B : Array Value} {P : List Pr} {p : Pr} {k : Lo} {b0 b1 : Nat} {NN0 : Nat → Int → Int → Nat} (h : St w W N D D' K NN (m + 1) A B) (hs : SrtP P) (hh : hasF (fP p) P = false) (hf : P.length ≤ m) (hmay : ∀ p ∈ P, mayC p.r p.c = true ∧ mayR p.t p.l p.b p.q = true) (hp : mayC p.r p.c = true ∧ mayR p.t p.l p.b p.q = true)
    (hk : K p.r p.c = some k) (hl : k.l = rectsAt (addP P p) p.r p.c) (hK0 : ∀ r c, ¬ (r = p.r ∧ c = p.c) → rectsAt P r c = [] → K r c = none) (hK1 : ∀ r c, ¬ (r = p.r ∧ c = p.c) → rectsAt P r c ≠ [] → ∃ k, K r c = some k ∧ k.l = rectsAt P r c)
    (h0 : (p.t - 1) / 64 = (b0 : Int)) (h1 : (p.b - 1) / 64 = (b1 : Int)) (hN0 : ∀ j r c, j < 65 → NN0 j r c = cnt j P r c) (hNN : NN = nnA NN0 p.r p.c b0 (b1 + 1)) : BdOut w N D (addP P p) (m + 1) W := by
  subst hNN
  refine ⟨D', ⟨addP_srt hs p, by rw [addP_len hs p hh]; omega, fun x hx => ?_, K, _, h.mw, fun r c q => ?_, fun r c q => ?_, nn_end hs p hh NN0 hN0 b0 b1 h0 h1⟩, h.mu, fun b q => (h.dn b q).imp id (fun s => by omega)⟩
  · rcases mem_addP hx with rfl | hx
    · exact hp
    · exact hmay x hx
  · by_cases e : r = p.r ∧ c = p.c
    · obtain ⟨rfl, rfl⟩ := e
      rw [rects_add] at q
      simp at q
    · rw [rects_add_o hs p e] at q
      exact hK0 r c e q
  · by_cases e : r = p.r ∧ c = p.c
    · obtain ⟨rfl, rfl⟩ := e
      exact ⟨k, hk, hl⟩
    · rw [rects_add_o hs p e] at q ⊢
      exact hK1 r c e q
end Go.Proofs.YtcjanaldjokllaaGreat
