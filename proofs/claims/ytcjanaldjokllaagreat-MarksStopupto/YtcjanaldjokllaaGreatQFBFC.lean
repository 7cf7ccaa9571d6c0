/- Set under way: the side of what is referred to while references are taken back and noted. No function's text is walked here. · Set's state once the references of a cell were taken back and the new list is kept. No function's text is walked here. -/
import Derived.Test.YtcjanaldjokllaaGreatQEBEWFA
namespace Go.Proofs.YtcjanaldjokllaaGreat
open Go.RowKit Go.Shelf
set_option linter.all false
/-- The side of what is referred to, in a world behind w; beside it a block of the caller's own. -/
structure Sy (w w' : World) (bc NB : Nat) (B B' : Nat → Option TagD) (G : Int → Int → Rf → Prop) (n m b0 : Nat) (A : Array Value) : Prop where
  to : To w' bc NB B' G n m
  mt : Mut (fun b => isTo (B b)) w w'
  old : ∀ b, b < w.heap.size → B' b = B b
  new : ∀ b, w.heap.size ≤ b → B' b = none ∨ (b < w'.heap.size ∧ isTo (B' b))
  bx : B' b0 = none
  own : Own w' b0 A
theorem Sy.keep {w w' w'' : World} {bc NB : Nat} {B B' : Nat → Option TagD} {G : Int → Int → Rf → Prop} {n m b0 : Nat} {A : Array Value} (h : Sy w w' bc NB B B' G n m b0 A) (hb : Below w'.heap.size w' w'') : Sy w w'' bc NB B B' G n m b0 A :=
  ⟨h.to.keep hb, h.mt.below hb, h.old, fun b q => (h.new b q).imp id (fun q => ⟨Nat.lt_of_lt_of_le q.1 hb.size, q.2⟩), h.bx, h.own.keep hb⟩
theorem Sy.congr {w w' : World} {bc NB : Nat} {B B' : Nat → Option TagD} {G G' : Int → Int → Rf → Prop} {n m b0 : Nat} {A : Array Value} (h : Sy w w' bc NB B B' G n m b0 A) (hG : ∀ r c f, G r c f ↔ G' r c f) : Sy w w' bc NB B B' G' n m b0 A := { h with to := h.to.congr hG }
theorem Sy.step {w W w'' : World} {bc NB : Nat} {B B1 : Nat → Option TagD} {G G' : Int → Int → Rf → Prop} {n m n' m' b0 : Nat} {A : Array Value} (h : Sy w W bc NB B B1 G n m b0 A) (hq : ToOut W bc NB B1 G' n' m' w'') : ∃ B2, Sy w w'' bc NB B B2 G' n' m' b0 A := by
  obtain ⟨B2, h1, h2, h3, h4⟩ := hq
  have hlt := h.own.lt
  refine ⟨B2, h1, h.mt.call h2 (fun b q => ?_), fun b q => ?_, fun b q => ?_, by rw [h3 b0 hlt]; exact h.bx, h.own.mut h2 (fun q => by rw [h.bx] at q; exact q)⟩
  · by_cases hb : b < w.heap.size
    · exact .inl (by rw [← h.old b hb]; exact q)
    · exact .inr (by omega)
  · rw [h3 b (Nat.lt_of_lt_of_le q h.mt.size)]; exact h.old b q
  · by_cases hb : b < W.heap.size
    · rw [h3 b hb]
      exact (h.new b q).imp id (fun q => ⟨Nat.lt_of_lt_of_le q.1 h2.size, q.2⟩)
    · exact h4 b (by omega)
theorem Sy.fresh {w w' : World} {bc NB : Nat} {B B' : Nat → Option TagD} {G : Int → Int → Rf → Prop} {n m b0 : Nat} {A : Array Value} (h : Sy w w' bc NB B B' G n m b0 A) {b : Nat} (hb : w'.heap.size ≤ b) : ¬ isTo (B' b) := by
  rcases h.new b (Nat.le_trans h.mt.size hb) with q | q
  · rw [q]; exact fun q => q
  · omega
def remK (E : Int → Int → List Rf) (r c : Int) (L : List Rf) : Int → Int → Rf → Prop := fun r' c' f => f ∈ E r' c' ∧ ¬ (r' = r ∧ c' = c ∧ f ∈ L)
def addK (E : Int → Int → List Rf) (r c : Int) (L : List Rf) : Int → Int → Rf → Prop := fun r' c' f => (f ∈ E r' c' ∧ ¬ (r' = r ∧ c' = c)) ∨ (r' = r ∧ c' = c ∧ f ∈ L)
def updE (E : Int → Int → List Rf) (r c : Int) (L : List Rf) : Int → Int → List Rf := fun r' c' => if r' = r ∧ c' = c then L else E r' c'
theorem take_mem {L : List Rf} {k : Nat} {f g : Rf} (h : L[k]? = some f) : g ∈ L.take (k + 1) ↔ (g ∈ L.take k ∨ g = f) := by
  rw [List.take_succ, h]; simp
theorem srt_nin {L : List Rf} (hs : L.Pairwise (fun x y => cmpF x y < 0)) {k : Nat} {f : Rf} (h : L[k]? = some f) : f ∉ L.take k := fun q => by
  obtain ⟨j, hj⟩ := List.getElem?_of_mem q
  rw [List.getElem?_take] at hj
  split at hj
  · obtain ⟨h1, h2⟩ := List.getElem?_eq_some_iff.1 h
    obtain ⟨h3, h4⟩ := List.getElem?_eq_some_iff.1 hj
    have := List.pairwise_iff_getElem.1 hs j k h3 h1 ‹_›
    rw [h2, h4] at this
    have e : cmpF f f = 0 := (cmpF_zero f f).2 rfl
    omega
  · cases hj
theorem remK_next {E : Int → Int → List Rf} {r c : Int} {L : List Rf} {k : Nat} {f : Rf} (h : L[k]? = some f) (r' c' : Int) (g : Rf) : remG (remK E r c (L.take k)) r c f r' c' g ↔ remK E r c (L.take (k + 1)) r' c' g := by
  unfold remG remK
  rw [take_mem h]
  constructor
  · rintro ⟨⟨h1, h2⟩, h3⟩
    refine ⟨h1, ?_⟩
    rintro ⟨q1, q2, q3 | q3⟩
    · exact h2 ⟨q1, q2, q3⟩
    · exact h3 ⟨q1, q2, q3⟩
  · rintro ⟨h1, h2⟩
    exact ⟨⟨h1, fun q => h2 ⟨q.1, q.2.1, .inl q.2.2⟩⟩, fun q => h2 ⟨q.1, q.2.1, .inr q.2.2⟩⟩
theorem addK_next {E : Int → Int → List Rf} {r c : Int} {L : List Rf} {k : Nat} {f : Rf} (h : L[k]? = some f) (r' c' : Int) (g : Rf) : addG (addK E r c (L.take k)) r c f r' c' g ↔ addK E r c (L.take (k + 1)) r' c' g := by
  unfold addG addK
  rw [take_mem h]
  constructor
  · rintro ((h1 | ⟨h1, h2, h3⟩) | ⟨h1, h2, h3⟩)
    · exact .inl h1
    · exact .inr ⟨h1, h2, .inl h3⟩
    · exact .inr ⟨h1, h2, .inr h3⟩
  · rintro (h1 | ⟨h1, h2, h3 | h3⟩)
    · exact .inl (.inl h1)
    · exact .inl (.inr ⟨h1, h2, h3⟩)
    · exact .inr ⟨h1, h2, h3⟩
theorem remK_all (E : Int → Int → List Rf) (r c r' c' : Int) (g : Rf) : remK E r c (E r c) r' c' g ↔ addK E r c [] r' c' g := by
  unfold remK addK
  constructor
  · rintro ⟨h1, h2⟩
    refine .inl ⟨h1, ?_⟩
    rintro ⟨rfl, rfl⟩
    exact h2 ⟨rfl, rfl, h1⟩
  · rintro (⟨h1, h2⟩ | ⟨_, _, h⟩)
    · exact ⟨h1, fun q => h2 ⟨q.1, q.2.1⟩⟩
    · cases h
theorem addK_all (E : Int → Int → List Rf) (r c : Int) (L : List Rf) (r' c' : Int) (g : Rf) : addK E r c L r' c' g ↔ inE (updE E r c L) r' c' g := by
  unfold addK inE updE
  by_cases e : r' = r ∧ c' = c
  · rw [if_pos e]
    constructor
    · rintro (⟨_, h⟩ | ⟨_, _, h⟩)
      · exact absurd e h
      · exact h
    · exact fun h => .inr ⟨e.1, e.2, h⟩
  · rw [if_neg e]
    constructor
    · rintro (⟨h, _⟩ | ⟨h1, h2, _⟩)
      · exact h
      · exact absurd ⟨h1, h2⟩ e
    · exact fun h => .inl ⟨h, e⟩
theorem remK_nil (E : Int → Int → List Rf) (r c r' c' : Int) (g : Rf) : inE E r' c' g ↔ remK E r c [] r' c' g := by
  unfold inE remK
  simp
end Go.Proofs.YtcjanaldjokllaaGreat
namespace Go.Proofs.YtcjanaldjokllaaGreat
open Go.RowKit Go.Shelf
set_option linter.all false
def DpOut (w : World) (N : Nat) (B : Nat → Option TagD) (E' : Int → Int → List Rf) (n m : Nat) (w' : World) : Prop := ∃ B', Dp w' N B' E' n m ∧ Mut (fun b => (B b).isSome = true) w w' ∧ (∀ b, b < w.heap.size → B' b = B b)
/-- Between: the list of (r, c) is L1, nothing is noted of it yet on the other side. -/
structure Mid (w W : World) (N bf bc NB : Nat) (B B5 : Nat → Option TagD) (E : Int → Int → List Rf) (r c : Int) (L1 : List Rf) (n m b0 : Nat) (A : Array Value) : Prop where
  oN : Own W N #[.map (some bf), .map (some bc), .pointer (some ⟨NB, 0, none⟩)]
  NT : B5 N = some (0, 0, 0)
  fm : Fm W bf B5 (updE E r c L1) n
  sy : Sy W W bc NB B5 B5 (addK E r c []) n m b0 A
  mt : Mut (fun b => (B b).isSome = true) w W
  old : ∀ b, b < w.heap.size → B5 b = B b
theorem isTo_some {t : Option TagD} (h : isTo t) : t.isSome = true := by
  cases t with
  | none => cases h
  | some _ => rfl
/-- The end: all of the new list are noted. -/
theorem Mid.fin {w W w' : World} {N bf bc NB : Nat} {B B5 B' : Nat → Option TagD} {E : Int → Int → List Rf} {r c : Int} {L1 : List Rf} {n m n' m' b0 : Nat} {A : Array Value} (h : Mid w W N bf bc NB B B5 E r c L1 n m b0 A) (hs : Sy W w' bc NB B5 B' (addK E r c L1) n' m' b0 A) (hE : EOk (updE E r c L1)) (hn : n ≤ n') : DpOut w N B (updE E r c L1) n' m' w' := by
  have hNs : ¬ isTo (B5 N) := by rw [h.NT]; rintro (q | q | q) <;> cases q
  have hNl := h.oN.lt
  refine ⟨B', ⟨hE, by rw [hs.old N hNl]; exact h.NT, fun b q => ?_, bf, bc, NB, h.oN.mut hs.mt hNs, ?_, hs.to.congr (addK_all E r c L1)⟩, h.mt.call hs.mt (fun b q => ?_), fun b q => ?_⟩
  · rcases hs.new b (Nat.le_trans hs.mt.size q) with q2 | q2
    · exact q2
    · omega
  · have hf := h.fm.mut hs.mt (fun b q => q) hs.old
    obtain ⟨⟨ff, h1, h2⟩, h3⟩ := hf
    exact ⟨⟨ff, h1.more hn, h2⟩, h3⟩
  · by_cases hb : b < w.heap.size
    · exact .inl (by rw [← h.old b hb]; exact isTo_some q)
    · exact .inr (by omega)
  · rw [hs.old b (Nat.lt_of_lt_of_le q h.mt.size)]; exact h.old b q
theorem updE_ok {E : Int → Int → List Rf} (h : EOk E) {r c : Int} {l : List Rf} (hc : mayC r c = true) (hl : ∀ f ∈ l, mayF f = true) : EOk (updE E r c (onceR l)) := by
  refine ⟨fun r' c' => ?_, fun r' c' f hf => ?_⟩
  · unfold updE
    split
    · exact onceR_srt l
    · exact h.srt r' c'
  · unfold updE at hf
    split at hf
    · rename_i e
      rw [e.1, e.2]
      exact ⟨hl f ((onceR_mem l f).1 hf), hc⟩
    · exact h.may r' c' f hf
/-- The map by who refers behind a delete. -/
theorem Fm.del {w w' : World} {bf : Nat} {B : Nat → Option TagD} {E : Int → Int → List Rf} {n : Nat} {r c : Int} {ff : Int → Int → Value} (h1 : ∀ r c, I64 r → I64 c → RowF w (ff r c) (E r c) ∧ (E r c = [] → ff r c = nilS) ∧ (∀ g, (ff r c).ownBlock = some g → B g = some (3, r, c))) (hT : B bf = some (1, 0, 0)) (hM : MapF w' bf n (updV ff r c nilS)) (hm : Mut (fun k => k = bf) w w') : Fm w' bf B (updE E r c []) n := by
  refine ⟨⟨_, hM, fun a b ha hb => ?_⟩, hT⟩
  unfold updE updV
  by_cases e : a = r ∧ b = c
  · rw [if_pos e, if_pos e]
    exact ⟨RowG.nil _, fun _ => rfl, fun g q => by cases q⟩
  · rw [if_neg e, if_neg e]
    obtain ⟨k1, k2, k3⟩ := h1 a b ha hb
    exact ⟨RowG.mut k1 hm (fun g q q2 => by subst q2; have := k3 g q; rw [hT] at this; cases this), k2, k3⟩
/-- .. and behind the new list is put there: its block is tagged. -/
theorem Fm.put {w w' : World} {bf : Nat} {B : Nat → Option TagD} {E : Int → Int → List Rf} {n : Nat} {r c : Int} {L1 : List Rf} {v1 : Value} {ff : Int → Int → Value} (h1 : ∀ a b, I64 a → I64 b → RowF w (ff a b) (updE E r c [] a b) ∧ (updE E r c [] a b = [] → ff a b = nilS) ∧ (∀ g, (ff a b).ownBlock = some g → B g = some (3, a, b))) (hT : B bf = some (1, 0, 0)) (hM : MapF w' bf n (updV ff r c v1)) (hm : Mut (fun k => k = bf) w w') (hv : RowF w' v1 L1) (hL : L1 ≠ []) (hB : ∀ g, v1.ownBlock = some g → B g = none) : Fm w' bf (fun b => if v1.ownBlock = some b then some (3, r, c) else B b) (updE E r c L1) n := by
  have hbf : ¬ v1.ownBlock = some bf := fun q => by have := hB bf q; rw [hT] at this; cases this
  refine ⟨⟨_, hM, fun a b ha hb => ?_⟩, by show (if _ then _ else B bf) = _; rw [if_neg hbf]; exact hT⟩
  by_cases e : a = r ∧ b = c
  · obtain ⟨rfl, rfl⟩ := e
    rw [updV_same]
    have e2 : updE E a b L1 a b = L1 := if_pos ⟨rfl, rfl⟩
    rw [e2]
    exact ⟨hv, fun q => absurd q hL, fun g q => if_pos q⟩
  · rw [updV_other e]
    obtain ⟨k1, k2, k3⟩ := h1 a b ha hb
    have e2 : updE E r c L1 a b = updE E r c [] a b := by unfold updE; rw [if_neg e, if_neg e]
    rw [e2]
    refine ⟨RowG.mut k1 hm (fun g q q2 => by subst q2; have := k3 g q; rw [hT] at this; cases this), k2, fun g q => ?_⟩
    have hg : ¬ v1.ownBlock = some g := fun q2 => by have := hB g q2; rw [k3 g q] at this; cases this
    show (if _ then _ else B g) = _
    rw [if_neg hg]
    exact k3 g q
/-- To, under other tags that are the same on its own side. -/
theorem To.tags {w : World} {bc NB : Nat} {B B2 : Nat → Option TagD} {G : Int → Int → Rf → Prop} {n m : Nat} (h : To w bc NB B G n m) (hB : ∀ b, isTo (B b) → B2 b = B b) : To w bc NB B2 G n m := by
  obtain ⟨⟨fc, h1, h2⟩, h3, D, P, h4, h5, h6⟩ := h
  refine ⟨⟨fc, h1, fun x y hx hy => ?_⟩, by rw [hB bc (by rw [h3]; exact .inl rfl)]; exact h3, D, P, h4, fun b q => by rw [hB b (by rw [h5 b q]; exact .inr (.inr rfl))]; exact h5 b q, h6⟩
  obtain ⟨L, k1, k2, k3, k4, k5, k6⟩ := h2 x y hx hy
  exact ⟨L, k1, k2, k3, k4, fun g q => by rw [hB g (by rw [k5 g q]; exact .inr (.inl rfl))]; exact k5 g q, k6⟩
theorem Fm.more {w : World} {bf : Nat} {B : Nat → Option TagD} {E : Int → Int → List Rf} {n n' : Nat} (h : Fm w bf B E n) (hn : n ≤ n') : Fm w bf B E n' := by
  obtain ⟨⟨ff, h1, h2⟩, h3⟩ := h
  exact ⟨⟨ff, h1.more hn, h2⟩, h3⟩
/-- Behind the delete. -/
theorem mid_del {w W w3 : World} {N bf bc NB : Nat} {B B1 : Nat → Option TagD} {E : Int → Int → List Rf} {r c : Int} {n m b0 : Nat} {A : Array Value} (hs : Sy w W bc NB B B1 (addK E r c []) n m b0 A) (oN : Own w N #[.map (some bf), .map (some bc), .pointer (some ⟨NB, 0, none⟩)]) (hNT : B N = some (0, 0, 0)) (hbT : B bf = some (1, 0, 0)) (hbl : bf < w.heap.size) (hm : Mut (fun k => k = bf) W w3) (hf : Fm w3 bf B1 (updE E r c []) n) : Mid w w3 N bf bc NB B B1 E r c [] n m b0 A := by
  have hNl := oN.lt
  have hNs : ¬ isTo (B N) := by rw [hNT]; rintro (q | q | q) <;> cases q
  have hbs : ¬ isTo (B1 bf) := by rw [hs.old bf hbl, hbT]; rintro (q | q | q) <;> cases q
  have hNb : ¬ N = bf := fun e => by subst e; rw [hNT] at hbT; cases hbT
  have hb0 : ¬ b0 = bf := fun e => by subst e; have := hs.bx; rw [hs.old _ hbl, hbT] at this; cases this
  refine ⟨(oN.mut hs.mt hNs).mut hm hNb, by rw [hs.old N hNl]; exact hNT, hf, ⟨hs.to.mut hm (fun b q e => by subst e; exact hbs q), Mut.refl _ _, fun _ _ => rfl, fun b q => ?_, hs.bx, hs.own.mut hm hb0⟩, ((Mut.refl _ w).call hs.mt (fun b q => .inl (isTo_some q))).call hm (fun b q => .inl (by subst q; show (B b).isSome = true; rw [hbT]; rfl)), hs.old⟩
  have hq : W.heap.size ≤ b := Nat.le_trans hm.size q
  rcases hs.new b (Nat.le_trans hs.mt.size hq) with q2 | q2
  · exact .inl q2
  · omega
/-- Behind the put: the new list's block is tagged. -/
theorem mid_put {w W w4 w5 : World} {N bf bc NB : Nat} {B B1 : Nat → Option TagD} {E : Int → Int → List Rf} {r c : Int} {L1 : List Rf} {v1 : Value} {n m b0 : Nat} {A : Array Value} (h : Mid w W N bf bc NB B B1 E r c [] n m b0 A) (hbT : B1 bf = some (1, 0, 0)) (hb4 : Below W.heap.size W w4) (hm : Mut (fun k => k = bf) w4 w5) (hbl : bf < W.heap.size) (hv : RowF w5 v1 L1) (hg : ∀ g, v1.ownBlock = some g → W.heap.size ≤ g) (hf : Fm w5 bf (fun b => if v1.ownBlock = some b then some (3, r, c) else B1 b) (updE E r c L1) (n + 1)) (hbw : B bf = some (1, 0, 0)) (hwl : bf < w.heap.size) : Mid w w5 N bf bc NB B (fun b => if v1.ownBlock = some b then some (3, r, c) else B1 b) E r c L1 (n + 1) m b0 A := by
  have hNl := h.oN.lt
  have h0l := h.sy.own.lt
  have hno : ∀ b, b < W.heap.size → ¬ v1.ownBlock = some b := fun b hb q => by have := hg b q; omega
  have hbs : ¬ isTo (B1 bf) := by rw [hbT]; rintro (q | q | q) <;> cases q
  have hNb : ¬ N = bf := fun e => by have := h.NT; rw [e, hbT] at this; cases this
  have hb0 : ¬ b0 = bf := fun e => by have := h.sy.bx; rw [e, hbT] at this; cases this
  have hB1 : ∀ b, W.heap.size ≤ b → B1 b = none := fun b q => by
    rcases h.sy.new b q with q2 | q2
    · exact q2
    · omega
  refine ⟨(h.oN.keep hb4).mut hm hNb, by show (if _ then _ else B1 N) = _; rw [if_neg (hno N hNl)]; exact h.NT, hf, ⟨?_, Mut.refl _ _, fun _ _ => rfl, fun b q => ?_, by show (if _ then _ else B1 b0) = _; rw [if_neg (hno b0 h0l)]; exact h.sy.bx, (h.sy.own.keep hb4).mut hm hb0⟩, (h.mt.below hb4).call hm (fun b q => .inl (by subst q; show (B b).isSome = true; rw [hbw]; rfl)), fun b q => ?_⟩
  · refine (((h.sy.to.keep hb4).mut hm (fun b q e => by subst e; exact hbs q)).tags (fun b q => ?_)).more (Nat.le_succ _) (Nat.le_refl _)
    have : ¬ v1.ownBlock = some b := fun q2 => by
      have := hB1 b (hg b q2)
      rw [this] at q
      exact q
    show (if _ then _ else B1 b) = _
    rw [if_neg this]
  · have hl : ¬ v1.ownBlock = some b := fun q2 => by have := (RowG.lt hv b q2).2; omega
    refine .inl ?_
    show (if _ then _ else B1 b) = none
    rw [if_neg hl]
    exact hB1 b (Nat.le_trans (Nat.le_trans hb4.size hm.size) q)
  · show (if _ then _ else B1 b) = _
    rw [if_neg (hno b (Nat.lt_of_lt_of_le q h.mt.size))]
    exact h.old b q
end Go.Proofs.YtcjanaldjokllaaGreat
