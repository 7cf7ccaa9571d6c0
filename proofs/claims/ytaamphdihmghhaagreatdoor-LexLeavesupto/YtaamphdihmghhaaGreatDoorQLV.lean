/- A loop over an iterator that counts its rounds in one box and leaves at a bound: the law of the statement, outermost and within a round. No condition. -/
import Derived.Test.YtaamphdihmghhaaGreatDoorQRMRLX
namespace Go.Proofs.YtaamphdihmghhaaGreatDoor
open Go.Shelf Go.RowKit
set_option linter.all false
/-- All that lay in X but the one block b is as it was. -/
def Box (b : Nat) (X A : World) : Prop := Turn (fun x => x = b) (fun x => x = b) X A
theorem Box.refl {b : Nat} {X : World} (h : b < X.heap.size) : Box b X X := ⟨rfl, rfl, rfl, Nat.le_refl _, fun _ _ _ => rfl, fun k hk => ⟨.inl hk, by rw [hk]; exact h⟩⟩
theorem Box.lt {b : Nat} {X A : World} (h : Box b X A) : b < A.heap.size := (Turn.foot h b rfl).2
theorem Box.keep {b : Nat} {X A A' : World} (h : Box b X A) (k : Keep X.heap.size (fun x => x = b) A A') : Box b X A' :=
  ⟨k.os.trans h.os, k.tape.trans h.tape, k.output.trans h.output, Nat.le_trans h.size k.size, fun i hi hn => (k.block i (Nat.lt_of_lt_of_le hi h.size) (.inl hi)).trans (h.block i hi hn),
   fun i hi => ⟨.inl hi, by have := h.lt; have := k.size; rw [hi]; omega⟩⟩
theorem Box.step {b L : Nat} {X A W1 W2 : World} (h : Box b X A) (hb : Below A.heap.size A W1) (hs : Sets L W1 W2) (hL : X.heap.size ≤ L) : Box b X W2 :=
  ⟨hs.os.trans (hb.os.trans h.os), hs.tape.trans (hb.tape.trans h.tape), hs.output.trans (hb.output.trans h.output), by have := h.size; have := hb.size; have := hs.size; omega,
   fun i hi hn => ((hs.block i (by omega)).trans (hb.block i (by have := h.size; omega))).trans (h.block i hi hn), fun i hi => ⟨.inl hi, by have := h.lt; have := hb.size; have := hs.size; rw [hi]; omega⟩⟩
theorem Box.then {b : Nat} {X A C : World} (h : Box b X A) (k : Box b A C) : Box b X C := Turn.then h k
/-- How a round may be left: on, with the next number in the box, or by the loop's own exit. -/
def lPost (go : Nat → Prop) (b id k : Nat) (W : World) : Exit → Act → World → Prop
  | .normal, _, W' => go (k + 1) ∧ Own W' b #[.int .i64 ((k + 1 : Nat) : Int)] ∧ Box b W W'
  | .exit j, _, W' => j = id ∧ ¬ go (k + 1) ∧ Own W' b #[.int .i64 ((k + 1 : Nat) : Int)] ∧ Box b W W'
  | _, _, _ => False
theorem Own.boxed {b : Nat} {X A A' : World} {u : Array Value} (h : Own A b u) (k : Keep X.heap.size (fun x => x = b) A A') : Own A' b u := h.of_block (k.block b h.lt (.inr rfl))
theorem leaf_in {α : Type} {P : Program} {n l0 : Nat} {g : Operand} {ps : Array Tmp} {assign body : Code} {Q : Exit → Act → World → Prop} {a : Act} {w : World} {r0 : Loop} (hr0 : w.heap[l0]? = some (.loop r0))
    {gf : Nat} {lb : Array Value} (hg : a.eval g = .func (.func gf) #[] lb) (eg : ∀ args w, (callFunc gf args).run P w = .ok (.enter gf args) w)
    {encs : α → Array Value} {xs : List α} {own : Nat → Prop} {w0 : World} (hseq : Gives P gf lb encs xs own w0) (hps : ∀ x, (encs x).size = ps.size)
    (b id : Nat) (go : Nat → Prop) (hx : 0 < xs.length) (hgo : ¬ go xs.length) (hb : Own w b #[.int .i64 ((0 : Nat) : Int)]) (hown : ∀ k, own k → w.heap[k]? = w0.heap[k]? ∧ k ≠ b ∧ k < w.heap.size)
    (hround : ∀ (L k : Nat) (x : α) (W : World), xs[k]? = some x → Own W b #[.int .i64 (k : Int)] → Box b w W → w.heap.size ≤ L → L < W.heap.size →
      assign.wpIn (Fence.wide.inRound L) 9 P (Exit.then (fun a1 W1 => Below W.heap.size W W1 ∧ ∀ W2, Sets L W1 W2 → (∃ r, W2.heap[L]? = some (.loop r)) → body.wpIn (Fence.wide.inRound L) 9 P (lPost go b id k W2) a1 W2) (fun _ _ _ => False))
        { tmps := (ps.zip (encs x)).foldl (fun t (p, v) => t.setIfInBounds p v) a.tmps, defers := [] } W)
    (hend : ∀ (k : Nat) (W : World), k < xs.length → ¬ go (k + 1) → Own W b #[.int .i64 ((k + 1 : Nat) : Int)] → Box b w W → (Code.exit id).wpIn (Fence.wide.inRound l0) n P Q a W) :
    (Code.rangeFunc g ps assign body).wpIn (Fence.wide.inRound l0) n P Q a w := by
  refine range_in hr0 hg eg hseq hps (fun x => x = b) (fun k hk => ⟨(hown k hk).1, (hown k hk).2.1, (hown k hk).2.2⟩) (fun x hx => by rw [hx]; exact hb.lt)
    (fun k Ft A => Ft = (fun x => x = b) ∧ Own A b #[.int .i64 (k : Int)] ∧ Box b w A ∧ (k = 0 ∨ go k))
    (fun c k Ft A => c = .exit id ∧ Ft = (fun x => x = b) ∧ Own A b #[.int .i64 (k : Int)] ∧ Box b w A ∧ ¬ go k)
    ?_ ?_ ⟨rfl, hb, Box.refl hb.lt, .inl rfl⟩ ?_ ?_ ?_
  · rintro k Ft A A' ⟨rfl, ho, hB, hh⟩ hk
    exact ⟨rfl, Own.boxed ho hk, hB.keep hk, hh⟩
  · rintro c k Ft A A' ⟨rfl, rfl, ho, hB, hh⟩ hk
    exact ⟨rfl, rfl, Own.boxed ho hk, hB.keep hk, hh⟩
  · rintro L k x Ft W hxk ⟨rfl, ho, hB, hh⟩ hL hLW hFL hlt hfr
    refine wpIn_mono (hround L k x W hxk ho hB hL hLW) ?_
    rintro e a1 W1 hq
    cases e with
    | normal =>
      obtain ⟨hb1, hq⟩ := hq
      refine ⟨hb1, fun W2 hs hr => wpIn_mono (hq W2 hs hr) ?_⟩
      have hB2 := hB.step hb1 hs hL
      rintro e a2 W3 hp
      cases e with
      | normal => obtain ⟨p1, p2, p3⟩ := hp; exact ⟨_, p3, rfl, p2, hB2.then p3, .inr p1⟩
      | exit j => obtain ⟨rfl, p1, p2, p3⟩ := hp; exact ⟨_, p3, rfl, rfl, p2, hB2.then p3, p1⟩
      | goto t => exact hp.elim
      | ret => exact hp.elim
      | panic c => exact hp.elim
      | outgrown => exact hp.elim
    | exit id => exact hq.elim
    | goto t => exact hq.elim
    | ret => exact hq.elim
    | panic chain => exact hq.elim
    | outgrown => exact hq.elim
  · rintro Ft W hsz ⟨rfl, ho, hB, hh⟩ hlt hfr
    rcases hh with hh | hh
    · omega
    · exact absurd hh hgo
  · rintro c k Ft W hsz hk ⟨rfl, rfl, ho, hB, hh⟩ hlt hfr
    exact hend k W hk hh ho hB
theorem leaf_out {α : Type} {P : Program} {n : Nat} {g : Operand} {ps : Array Tmp} {assign body : Code} {Q : Exit → Act → World → Prop} {a : Act} {w : World}
    {gf : Nat} {lb : Array Value} (hg : a.eval g = .func (.func gf) #[] lb) (eg : ∀ args w, (callFunc gf args).run P w = .ok (.enter gf args) w)
    {encs : α → Array Value} {xs : List α} {own : Nat → Prop} {w0 : World} (hseq : Gives P gf lb encs xs own w0) (hps : ∀ x, (encs x).size = ps.size)
    (b id : Nat) (go : Nat → Prop) (hx : 0 < xs.length) (hgo : ¬ go xs.length) (hb : Own w b #[.int .i64 ((0 : Nat) : Int)]) (hown : ∀ k, own k → w.heap[k]? = w0.heap[k]? ∧ k ≠ b ∧ k < w.heap.size)
    (hround : ∀ (L k : Nat) (x : α) (W : World), xs[k]? = some x → Own W b #[.int .i64 (k : Int)] → Box b w W → w.heap.size ≤ L → L < W.heap.size →
      assign.wpIn (Fence.wide.inRound L) 9 P (Exit.then (fun a1 W1 => Below W.heap.size W W1 ∧ ∀ W2, Sets L W1 W2 → (∃ r, W2.heap[L]? = some (.loop r)) → body.wpIn (Fence.wide.inRound L) 9 P (lPost go b id k W2) a1 W2) (fun _ _ _ => False))
        { tmps := (ps.zip (encs x)).foldl (fun t (p, v) => t.setIfInBounds p v) a.tmps, defers := [] } W)
    (hend : ∀ (D k : Nat) (W : World), w.heap.size ≤ D → D < W.heap.size → W.heap[D]? = some (.deferred (some [])) → k < xs.length → (k = 0 ∨ go k) → ¬ go (k + 1) → Own W b #[.int .i64 ((k + 1 : Nat) : Int)] → Box b w W →
      (Code.exit id).wpIn Fence.wide n P Q { a with defers := { target := .collected D, args := #[] } :: a.defers } W) :
    (Code.rangeFunc g ps assign body).wpIn Fence.wide n P Q a w := by
  refine range_out hg eg hseq hps (fun x => x = b) (fun k hk => ⟨(hown k hk).1, (hown k hk).2.1, (hown k hk).2.2⟩) (fun x hx => by rw [hx]; exact hb.lt)
    (fun k Ft A => Ft = (fun x => x = b) ∧ Own A b #[.int .i64 (k : Int)] ∧ Box b w A ∧ (k = 0 ∨ go k))
    (fun c k Ft A => c = .exit id ∧ Ft = (fun x => x = b) ∧ Own A b #[.int .i64 (k : Int)] ∧ Box b w A ∧ ¬ go k ∧ ∃ j, k = j + 1 ∧ (j = 0 ∨ go j))
    ?_ ?_ ⟨rfl, hb, Box.refl hb.lt, .inl rfl⟩ ?_ ?_ ?_
  · rintro k Ft A A' ⟨rfl, ho, hB, hh⟩ hk
    exact ⟨rfl, Own.boxed ho hk, hB.keep hk, hh⟩
  · rintro c k Ft A A' ⟨rfl, rfl, ho, hB, hh⟩ hk
    exact ⟨rfl, rfl, Own.boxed ho hk, hB.keep hk, hh⟩
  · rintro L k x Ft W hxk ⟨rfl, ho, hB, hh⟩ hL hLW hFL hlt hfr
    refine wpIn_mono (hround L k x W hxk ho hB hL hLW) ?_
    rintro e a1 W1 hq
    cases e with
    | normal =>
      obtain ⟨hb1, hq⟩ := hq
      refine ⟨hb1, fun W2 hs hr => wpIn_mono (hq W2 hs hr) ?_⟩
      have hB2 := hB.step hb1 hs hL
      rintro e a2 W3 hp
      cases e with
      | normal => obtain ⟨p1, p2, p3⟩ := hp; exact ⟨_, p3, rfl, p2, hB2.then p3, .inr p1⟩
      | exit j => obtain ⟨rfl, p1, p2, p3⟩ := hp; exact ⟨_, p3, rfl, rfl, p2, hB2.then p3, p1, k, rfl, hh⟩
      | goto t => exact hp.elim
      | ret => exact hp.elim
      | panic c => exact hp.elim
      | outgrown => exact hp.elim
    | exit id => exact hq.elim
    | goto t => exact hq.elim
    | ret => exact hq.elim
    | panic chain => exact hq.elim
    | outgrown => exact hq.elim
  · rintro D Ft W hD hDW ⟨rfl, ho, hB, hh⟩ hFD hlt hfr hK
    rcases hh with hh | hh
    · omega
    · exact absurd hh hgo
  · rintro D c k Ft W hD hDW hk ⟨rfl, rfl, ho, hB, hh, j, hj, hj2⟩ hFD hlt hfr hK
    obtain rfl : j = k := by omega
    exact hend D j W hD hDW hK hk hj2 hh ho hB
/-- A number in the box is put anew. -/
theorem Box.put {W : World} {b n : Nat} {u : Value} (h : b < W.heap.size) : Box b W ((W.drewN n).setCell ⟨b, 0, none⟩ u) :=
  ⟨rfl, rfl, rfl, by rw [set_size]; exact Nat.le_refl _, fun k _ hn => set_other (W := W.drewN n) (by exact hn), fun k hk => ⟨.inl hk, by rw [set_size, hk]; exact h⟩⟩
/-- The number of the outer loop is put anew, a box is made for the inner loop's, and that alone turns. -/
theorem Box.wrap {W A : World} {b n : Nat} {u : Value} {o : Obj} (h : b < W.heap.size) (k : Box W.heap.size (((W.drewN n).setCell ⟨b, 0, none⟩ u).alloc o) A) : Box b W A ∧ A.heap[b]? = ((W.drewN n).setCell ⟨b, 0, none⟩ u).heap[b]? := by
  have hz : (((W.drewN n).setCell ⟨b, 0, none⟩ u).alloc o).heap.size = W.heap.size + 1 := by rw [World.size_alloc, set_size]; rfl
  have hs := k.size
  refine ⟨⟨k.os, k.tape, k.output, by omega, fun i hi hn => ?_, fun i hi => ⟨.inl hi, by rw [hi]; omega⟩⟩, ?_⟩
  · refine (k.block i (by omega) (by omega)).trans ?_
    refine (Below.heap_alloc _ _ _ (by rw [set_size]; exact hi)).trans ?_
    exact set_other (W := W.drewN n) (by exact hn)
  · refine (k.block b (by omega) (by omega)).trans ?_
    exact Below.heap_alloc _ _ _ (by rw [set_size]; exact h)
theorem toks_pos (s : ByteArray) : 0 < (toks s).length := by
  unfold toks
  split
  · rename_i h
    have hn : s.size ≠ 0 := fun e => by
      have hn : s.data.toList = [] := List.length_eq_zero_iff.1 (by rw [← size_len]; exact e)
      unfold isF at h; rw [hn] at h; cases h
    obtain ⟨m, hm⟩ : ∃ m, s.size = m + 1 := ⟨s.size - 1, by omega⟩
    unfold pcsOf
    rw [hm, pcs_succ, List.map_cons, cutW]
    simp
  · simp
end Go.Proofs.YtaamphdihmghhaaGreatDoor
