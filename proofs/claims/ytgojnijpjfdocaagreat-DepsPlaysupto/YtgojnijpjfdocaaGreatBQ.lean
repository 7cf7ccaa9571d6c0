/- The bands in memory (MW): their block with 65 crowds, the crowds' rows, the lookers with their rectangles' rows; what keeps through calls. No function's text is walked here. -/
import Derived.Test.YtgojnijpjfdocaaGreatBK
import Derived.Test.YtgojnijpjfdocaaGreatBJ
namespace Go.Proofs.YtgojnijpjfdocaaGreat
open Go.RowKit
set_option linter.all false
/-- A looker: its block, its rectangles' row, its rectangles. -/
structure Lo where
  g : Nat
  v : Value
  l : List Rct
abbrev KF := Int → Int → Option Lo
def ltR (x y : Rct) : Prop := cmpR x.t x.l x.b x.r y.t y.l y.b y.r < 0
theorem ltR_is (x y : Rct) : ltR x y ↔ (x.t < y.t ∨ (x.t = y.t ∧ (x.l < y.l ∨ (x.l = y.l ∧ (x.b < y.b ∨ (x.b = y.b ∧ x.r < y.r)))))) := cmpR_neg _ _ _ _ _ _ _ _
def SrtR (l : List Rct) : Prop := l.Pairwise ltR
theorem SrtR.mono {l : List Rct} (h : SrtR l) (k0 k1 k2 k3 : Int) : MonoF (fR k0 k1 k2 k3) l := by
  refine List.Pairwise.imp ?_ h
  intro x y hxy hy
  unfold fR at hy ⊢
  rw [ltR_is] at hxy
  rw [cmpR_neg]
  have h1 := cmpR_neg y.t y.l y.b y.r k0 k1 k2 k3
  have h2 := cmpR_zero y.t y.l y.b y.r k0 k1 k2 k3
  omega
/-- The seats stand in the order of their lookers' cells. -/
def ltS (D : Nat → Option Tag) (s s' : Seat) : Prop := rOf D s.g < rOf D s'.g ∨ (rOf D s.g = rOf D s'.g ∧ cOf D s.g < cOf D s'.g)
theorem srt_mono {D : Nat → Option Tag} {l : List Seat} (h : l.Pairwise (ltS D)) (r c : Int) : MonoF (fC D r c) l := by
  refine List.Pairwise.imp ?_ h
  intro x y hxy hy
  unfold fC at hy ⊢
  unfold ltS at hxy
  rw [cmpC_neg]
  have h1 := cmpC_neg (rOf D y.g) (cOf D y.g) r c
  have h2 := cmpC_zero (rOf D y.g) (cOf D y.g) r c
  omega
/-- A crowd: of each cell as many as n says. -/
structure CrowdOK (D : Nat → Option Tag) (K : KF) (l : List Seat) (n : Int → Int → Nat) : Prop where
  srt : l.Pairwise (ltS D)
  who : ∀ s ∈ l, ∃ r c k, K r c = some k ∧ k.g = s.g ∧ D s.g = some (2, r, c) ∧ s.n = n r c ∧ 0 < n r c
  all : ∀ r c, 0 < n r c → ∃ s ∈ l, D s.g = some (2, r, c)
structure LoW (w : World) (D : Nat → Option Tag) (m : Nat) (r c : Int) (k : Lo) : Prop where
  tag : D k.g = some (2, r, c)
  own : Own w k.g #[.int .i64 r, .int .i64 c, k.v]
  row : RowR w k.v k.l
  rt : ∀ b, k.v.ownBlock = some b → D b = some (3, r, c)
  srt : SrtR k.l
  few : k.l.length ≤ m
  may : mayC r c = true
/-- The bands in memory: K tells the lookers, NN how many rectangles of a cell's looker are counted in a crowd. -/
structure MW (w : World) (N : Nat) (D : Nat → Option Tag) (K : KF) (NN : Nat → Int → Int → Nat) (m : Nat) : Prop where
  dom : ∀ b t, D b = some t → b < w.heap.size
  at0 : D N = some (0, 0, 0)
  lo : ∀ r c k, K r c = some k → LoW w D m r c k
  own : ∃ A : Array Value, Own w N A ∧ A.size = 65 ∧ ∀ j : Nat, j < 65 → ∃ v l, A[j]? = some v ∧ RowS w v l ∧ (∀ b, v.ownBlock = some b → D b = some (1, (j : Int), 0)) ∧ CrowdOK D K l (NN j)
  few : ∀ j r c, NN j r c ≤ m
theorem LoW.of_block {w w' : World} {D D' : Nat → Option Tag} {m m' : Nat} {r c : Int} {k : Lo} (h : LoW w D m r c k) (hb : ∀ b t, D b = some t → t = (2, r, c) ∨ t = (3, r, c) → w'.heap[b]? = w.heap[b]?) (hD : ∀ b t, D b = some t → D' b = some t) (hm : m ≤ m') : LoW w' D' m' r c k :=
  ⟨hD _ _ h.tag, h.own.of_block (hb _ _ h.tag (.inl rfl)), h.row.of_block (fun b q => hb b _ (h.rt b q) (.inr rfl)), fun b q => hD _ _ (h.rt b q), h.srt, Nat.le_trans h.few hm, h.may⟩
theorem MW.of_block {w w' : World} {N : Nat} {D : Nat → Option Tag} {K : KF} {NN : Nat → Int → Int → Nat} {m m' : Nat} (h : MW w N D K NN m) (hs : w.heap.size ≤ w'.heap.size) (hb : ∀ b t, D b = some t → w'.heap[b]? = w.heap[b]?) (hm : m ≤ m') : MW w' N D K NN m' := by
  obtain ⟨A, a1, a2, a3⟩ := h.own
  refine ⟨fun b t e => Nat.lt_of_lt_of_le (h.dom b t e) hs, h.at0, fun r c k e => (h.lo r c k e).of_block (fun b t q _ => hb b t q) (fun _ _ q => q) hm, ⟨A, a1.of_block (hb _ _ h.at0), a2, fun j hj => ?_⟩, fun j r c => Nat.le_trans (h.few j r c) hm⟩
  obtain ⟨v, l, b1, b2, b3, b4⟩ := a3 j hj
  exact ⟨v, l, b1, b2.of_block (fun b q => hb b _ (b3 b q)), b3, b4⟩
theorem MW.keep {w w' : World} {N : Nat} {D : Nat → Option Tag} {K : KF} {NN : Nat → Int → Int → Nat} {m : Nat} (h : MW w N D K NN m) (hb : Below w.heap.size w w') : MW w' N D K NN m :=
  h.of_block hb.size (fun b t e => hb.block b (h.dom b t e)) (Nat.le_refl _)
theorem MW.more {w : World} {N : Nat} {D : Nat → Option Tag} {K : KF} {NN : Nat → Int → Int → Nat} {m m' : Nat} (h : MW w N D K NN m) (hm : m ≤ m') : MW w N D K NN m' :=
  h.of_block (Nat.le_refl _) (fun _ _ _ => rfl) hm
theorem MW.mut {T : Nat → Prop} {w w' : World} {N : Nat} {D : Nat → Option Tag} {K : KF} {NN : Nat → Int → Int → Nat} {m : Nat} (h : MW w N D K NN m) (hm : Mut T w w') (hd : ∀ b, (D b).isSome = true → ¬ T b) : MW w' N D K NN m :=
  h.of_block hm.size (fun b t e => hm.block b (h.dom b t e) (hd b (by rw [e]; rfl))) (Nat.le_refl _)
theorem MW.lt {w : World} {N : Nat} {D : Nat → Option Tag} {K : KF} {NN : Nat → Int → Int → Nat} {m : Nat} (h : MW w N D K NN m) : N < w.heap.size := h.dom _ _ h.at0
theorem rOf_of {D : Nat → Option Tag} {g a : Nat} {r c : Int} (h : D g = some (a, r, c)) : rOf D g = r ∧ cOf D g = c := by unfold rOf cOf; rw [h]; exact ⟨rfl, rfl⟩
/-- The lookers' cells as the crowd sees them. -/
theorem MW.sees {w : World} {N : Nat} {D : Nat → Option Tag} {K : KF} {NN : Nat → Int → Int → Nat} {m : Nat} (h : MW w N D K NN m) {l : List Seat} {n : Int → Int → Nat} (hc : CrowdOK D K l n) : SeesW w D l := fun s hs => by
  obtain ⟨r, c, k, e1, e2, e3, _⟩ := hc.who s hs
  have ho := (h.lo r c k e1).own
  rw [e2] at ho
  rw [(rOf_of e3).1, (rOf_of e3).2]
  exact ⟨ho.lt, ho.cell 0, ho.cell 1⟩
theorem pw_len {α : Type} {f : α → Int} {M : Int} : ∀ (l : List α) (lo : Int), l.Pairwise (fun x y => f x < f y) → (∀ x ∈ l, lo ≤ f x ∧ f x < M) → lo ≤ M → (l.length : Int) ≤ M - lo
  | [], lo, _, _, h => by simp; omega
  | x :: t, lo, hp, hx, h => by
    have h1 := hx x (by simp)
    have ih := pw_len t (f x + 1) (List.pairwise_cons.1 hp).2 (fun y hy => ⟨by have := (List.pairwise_cons.1 hp).1 y hy; omega, (hx y (List.mem_cons_of_mem _ hy)).2⟩) (by omega)
    simp only [List.length_cons]
    omega
/-- No more seats than cells. -/
theorem MW.seats {w : World} {N : Nat} {D : Nat → Option Tag} {K : KF} {NN : Nat → Int → Int → Nat} {m : Nat} (h : MW w N D K NN m) {l : List Seat} {n : Int → Int → Nat} (hc : CrowdOK D K l n) : l.length ≤ 1048576 := by
  have hw : ∀ s ∈ l, 1 ≤ rOf D s.g ∧ rOf D s.g ≤ 4096 ∧ 1 ≤ cOf D s.g ∧ cOf D s.g ≤ 256 := fun s hs => by
    obtain ⟨r, c, k, e1, e2, e3, _⟩ := hc.who s hs
    have := mayC_is (h.lo r c k e1).may
    rw [(rOf_of e3).1, (rOf_of e3).2]
    exact this
  have hp : l.Pairwise (fun x y => (rOf D x.g * 256 + cOf D x.g) < (rOf D y.g * 256 + cOf D y.g)) := by
    refine List.Pairwise.imp_of_mem ?_ hc.srt
    intro x y hx hy hxy
    have h1 := hw x hx
    have h2 := hw y hy
    unfold ltS at hxy
    omega
  have := pw_len (f := fun s : Seat => rOf D s.g * 256 + cOf D s.g) (M := 4096 * 256 + 256 + 1) l (256 + 1) hp (fun x hx => by have := hw x hx; omega) (by omega)
  omega
/-- What is at a cell's place. -/
theorem CrowdOK.hit {D : Nat → Option Tag} {K : KF} {l : List Seat} {n : Int → Int → Nat} (hc : CrowdOK D K l n) (r c : Int) : hasF (fC D r c) l = decide (0 < n r c) := by
  unfold hasF
  rw [Bool.eq_iff_iff, List.any_eq_true, decide_eq_true_iff]
  constructor
  · rintro ⟨s, hs, h0⟩
    have h0 := (cmpC_zero _ _ _ _).1 (of_decide_eq_true h0)
    obtain ⟨r', c', k, e1, e2, e3, e4, e5⟩ := hc.who s hs
    rw [(rOf_of e3).1, (rOf_of e3).2] at h0
    rw [← h0.1, ← h0.2]
    exact e5
  · intro h0
    obtain ⟨s, hs, e⟩ := hc.all r c h0
    refine ⟨s, hs, decide_eq_true ((cmpC_zero _ _ _ _).2 ?_)⟩
    rw [(rOf_of e).1, (rOf_of e).2]
    exact ⟨rfl, rfl⟩
end Go.Proofs.YtgojnijpjfdocaaGreat
