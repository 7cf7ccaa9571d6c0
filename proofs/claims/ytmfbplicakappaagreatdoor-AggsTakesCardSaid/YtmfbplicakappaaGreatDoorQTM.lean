/- What a call may turn: the blocks of a set and new ones (Mut), and what keeps through it. -/
import Derived.Test.YtmfbplicakappaaGreatDoorQNR
import Derived.Test.YtmfbplicakappaaGreatDoorQNT5p
import Derived.Deep.RegionLaw
namespace Go.Proofs.YtmfbplicakappaaGreatDoor
open Go.RowKit
set_option linter.all false
/-- Nothing but the blocks of S and new ones is turned. -/
structure Mut (S : Nat → Prop) (w w' : World) : Prop where
  os : w'.os = w.os
  tape : w'.tape = w.tape
  output : w'.output = w.output
  size : w.heap.size ≤ w'.heap.size
  block : ∀ k, k < w.heap.size → ¬ S k → w'.heap[k]? = w.heap[k]?
theorem Mut.refl (S : Nat → Prop) (w : World) : Mut S w w := ⟨rfl, rfl, rfl, Nat.le_refl _, fun _ _ _ => rfl⟩
theorem Mut.below {S : Nat → Prop} {w W W' : World} (h : Mut S w W) (hb : Below W.heap.size W W') : Mut S w W' :=
  ⟨hb.os.trans h.os, hb.tape.trans h.tape, hb.output.trans h.output, Nat.le_trans h.size hb.size, fun k hk hs => (hb.block k (Nat.lt_of_lt_of_le hk h.size)).trans (h.block k hk hs)⟩
theorem Mut.drew {S : Nat → Prop} {w W : World} (h : Mut S w W) : Mut S w W.drew := h.below (Below.refl _ _).drew
theorem Mut.drewN {S : Nat → Prop} {w W : World} (h : Mut S w W) (n : Nat) : Mut S w (W.drewN n) := h.below (bdrewN (Below.refl _ _) n)
theorem Mut.alloc {S : Nat → Prop} {w W : World} (h : Mut S w W) (o : Obj) : Mut S w (W.alloc o) := h.below (bal _ _)
theorem Mut.set {S : Nat → Prop} {w W : World} (h : Mut S w W) {a : Addr} (ha : S a.block ∨ w.heap.size ≤ a.block) (v : Value) : Mut S w (W.setCell a v) :=
  ⟨h.os, h.tape, h.output, by have := h.size; simpa [World.setCell] using this, fun k hk hs => (Below.heap_setCell W a v k (by rintro rfl; rcases ha with h1 | h1; exact hs h1; omega)).trans (h.block k hk hs)⟩
theorem Mut.grown {S : Nat → Prop} {w W W' : World} {row : Option Nat} (h : Mut S w W) (hg : W.grownBy W' row) (hr : ∀ g, row = some g → S g ∨ w.heap.size ≤ g) : Mut S w W' :=
  ⟨hg.os.trans h.os, hg.tape.trans h.tape, hg.output.trans h.output, Nat.le_trans h.size hg.size, fun k hk hs => (hg.block k (Nat.lt_of_lt_of_le hk h.size) (fun e => by rcases hr k e.symm with h1 | h1; exact hs h1; omega)).trans (h.block k hk hs)⟩
theorem Own.mut {S : Nat → Prop} {w W : World} {b : Nat} {A : Array Value} (h : Own w b A) (hm : Mut S w W) (hn : ¬ S b) : Own W b A := h.of_block (hm.block b h.lt hn)
theorem Row.mut {α : Type} {c : α → Array Value} {sz : Nat} {e : TypeId} {S : Nat → Prop} {w W : World} {base : Nat} {v : Value} {l : List α} (h : Row c sz e w base v l) (hm : Mut S w W) (hn : ∀ g, v.ownBlock = some g → ¬ S g) : Row c sz e W base v l :=
  h.of_block (fun g hg => hm.block g (h.lt g hg).2 (hn g hg))
theorem Row.fro {α : Type} {c : α → Array Value} {sz : Nat} {e : TypeId} {w : World} {base g m cap : Nat} {l : List α} (hc : ∀ x, (c x).size = sz) (h : Row c sz e w base (.slice (some ⟨g, 0, none⟩) m cap) l) (o : Nat) : w.frozen? ⟨g, o, none⟩ = false := by
  rcases Row.two hc h with ⟨e, _⟩ | ⟨g2, c2, e, _, _, _, _, _, hf⟩
  · cases e
  · cases e; exact hf o
theorem Row.aside {α : Type} {c : α → Array Value} {sz : Nat} {e : TypeId} {w : World} {base : Nat} {v : Value} {l : List α} (h : Row c sz e w base v l) {a : Addr} (x : Value) (hn : ∀ g, v.ownBlock = some g → g ≠ a.block) : Row c sz e (w.setCell a x) base v l :=
  h.of_block (fun g hg => Below.heap_setCell w a x g (hn g hg))
theorem Mut.mono {S S' : Nat → Prop} {w W : World} (h : Mut S w W) (hs : ∀ b, S b → S' b) : Mut S' w W := ⟨h.os, h.tape, h.output, h.size, fun k hk hn => h.block k hk (fun q => hn (hs k q))⟩
theorem Below.ofMut {S : Nat → Prop} {n : Nat} {w W w' : World} (h : Below n w W) (hm : Mut S W w') (hn : n ≤ W.heap.size) (hs : ∀ b, S b → n ≤ b) : Below n w w' :=
  ⟨hm.os.trans h.os, hm.tape.trans h.tape, hm.output.trans h.output, Nat.le_trans h.size hm.size, fun k hk => (hm.block k (Nat.lt_of_lt_of_le hk hn) (fun q => by have := hs k q; omega)).trans (h.block k hk)⟩
theorem View.mut {α : Type} {c : α → Array Value} {sz : Nat} {S : Nat → Prop} {w w' : World} {v : Value} {xs : List α} (h : View c sz w v xs) (hm : Mut S w w') (hn : ∀ b, S b → ∀ p n k, v = .slice (some p) n k → p.block ≠ b) : View c sz w' v xs := by
  obtain ⟨p, cap, e, hc, hf⟩ := h
  refine ⟨p, cap, e, hc, fun h0 => ?_⟩
  obtain ⟨b, o, e2, hlt, hcell⟩ := hf h0
  subst e2
  exact ⟨b, o, rfl, Nat.lt_of_lt_of_le hlt hm.size, fun i x hi j hj => (World.cell?_of_block (a := ⟨b, o + i * sz + j, none⟩) (hm.block b hlt (fun q => hn b q _ _ _ e rfl))).trans (hcell i x hi j hj)⟩
end Go.Proofs.YtmfbplicakappaaGreatDoor
