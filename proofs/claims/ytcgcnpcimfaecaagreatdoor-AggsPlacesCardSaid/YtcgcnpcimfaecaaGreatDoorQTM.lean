/- What a call may turn: the blocks of a set and new ones (Mut), and what keeps through it. The contract of the function that aggs.ofAll gives: what another one answers of the numbers among the items. New memory alone is made. -/
import Derived.Test.YtcgcnpcimfaecaaGreatDoorQNR
import Derived.Test.YtcgcnpcimfaecaaGreatDoorQGI
import Derived.Deep.RegionLaw
import Derived.Test.YtcgcnpcimfaecaaGreatDoorQShelfA
namespace Go.Proofs.YtcgcnpcimfaecaaGreatDoor
open Go.RowKit
set_option linter.all false
/-- Nothing but the blocks of S and new ones is turned. -/
structure Mut (S : Nat → Prop) (w w' : World) : Prop where
  os : w'.os = w.os
  tape : w'.tape = w.tape
  output : w'.output = w.output
  size : w.heap.size ≤ w'.heap.size
  block : ∀ k, k < w.heap.size → ¬ S k → w'.heap[k]? = w.heap[k]?
theorem Mut.refl (S : Nat → Prop) (w : World) : Mut S w w := ⟨rfl, rfl, rfl, Nat.le_refl _, fun _ _ _ => rfl⟩
theorem Mut.below {S : Nat → Prop} {w W W' : World} (h : Mut S w W) (hb : Below W.heap.size W W') : Mut S w W' :=
  ⟨hb.os.trans h.os, hb.tape.trans h.tape, hb.output.trans h.output, Nat.le_trans h.size hb.size, fun k hk hs => (hb.block k (Nat.lt_of_lt_of_le hk h.size)).trans (h.block k hk hs)⟩
theorem Mut.drew {S : Nat → Prop} {w W : World} (h : Mut S w W) : Mut S w W.drew := h.below (Below.refl _ _).drew
theorem Mut.drewN {S : Nat → Prop} {w W : World} (h : Mut S w W) (n : Nat) : Mut S w (W.drewN n) := h.below (bdrewN (Below.refl _ _) n)
theorem Mut.alloc {S : Nat → Prop} {w W : World} (h : Mut S w W) (o : Obj) : Mut S w (W.alloc o) := h.below (bal _ _)
theorem Mut.set {S : Nat → Prop} {w W : World} (h : Mut S w W) {a : Addr} (ha : S a.block ∨ w.heap.size ≤ a.block) (v : Value) : Mut S w (W.setCell a v) :=
  ⟨h.os, h.tape, h.output, by have := h.size; simpa [World.setCell] using this, fun k hk hs => (Below.heap_setCell W a v k (by rintro rfl; rcases ha with h1 | h1; exact hs h1; omega)).trans (h.block k hk hs)⟩
theorem Mut.grown {S : Nat → Prop} {w W W' : World} {row : Option Nat} (h : Mut S w W) (hg : W.grownBy W' row) (hr : ∀ g, row = some g → S g ∨ w.heap.size ≤ g) : Mut S w W' :=
  ⟨hg.os.trans h.os, hg.tape.trans h.tape, hg.output.trans h.output, Nat.le_trans h.size hg.size, fun k hk hs => (hg.block k (Nat.lt_of_lt_of_le hk h.size) (fun e => by rcases hr k e.symm with h1 | h1; exact hs h1; omega)).trans (h.block k hk hs)⟩
theorem Mut.call {S S' : Nat → Prop} {w W W' : World} (h : Mut S w W) (hc : Mut S' W W') (hs : ∀ b, S' b → S b ∨ w.heap.size ≤ b) : Mut S w W' :=
  ⟨hc.os.trans h.os, hc.tape.trans h.tape, hc.output.trans h.output, Nat.le_trans h.size hc.size, fun k hk hn => (hc.block k (Nat.lt_of_lt_of_le hk h.size) (fun e => by rcases hs k e with h1 | h1; exact hn h1; omega)).trans (h.block k hk hn)⟩
theorem Own.mut {S : Nat → Prop} {w W : World} {b : Nat} {A : Array Value} (h : Own w b A) (hm : Mut S w W) (hn : ¬ S b) : Own W b A := h.of_block (hm.block b h.lt hn)
theorem Row.mut {α : Type} {c : α → Array Value} {sz : Nat} {e : TypeId} {S : Nat → Prop} {w W : World} {base : Nat} {v : Value} {l : List α} (h : Row c sz e w base v l) (hm : Mut S w W) (hn : ∀ g, v.ownBlock = some g → ¬ S g) : Row c sz e W base v l :=
  h.of_block (fun g hg => hm.block g (h.lt g hg).2 (hn g hg))
theorem Row.fro {α : Type} {c : α → Array Value} {sz : Nat} {e : TypeId} {w : World} {base g m cap : Nat} {l : List α} (hc : ∀ x, (c x).size = sz) (h : Row c sz e w base (.slice (some ⟨g, 0, none⟩) m cap) l) (o : Nat) : w.frozen? ⟨g, o, none⟩ = false := by
  rcases Row.two hc h with ⟨e, _⟩ | ⟨g2, c2, e, _, _, _, _, _, hf⟩
  · cases e
  · cases e; exact hf o
theorem own_is {g g' m c : Nat} (h : (Value.slice (some ⟨g, 0, none⟩) m c).ownBlock = some g') : g = g' := Option.some.inj h
theorem rsnoc {α : Type} {c : α → Array Value} {sz : Nat} {e : TypeId} {w5 : World} {g cap k base : Nat} {l : List α} {t : α} (hl : l.length = k)
    (ho : w5.ownsRow base e sz (.slice (some ⟨g, 0, none⟩) (k + 1) cap) (k + 1) (flatC c l ++ (c t).toList)) : Row c sz e w5 base (.slice (some ⟨g, 0, none⟩) (k + 1) cap) (l ++ [t]) := by
  unfold Row
  rw [flatC_snoc, List.length_append, hl]
  exact ho
theorem Row.aside {α : Type} {c : α → Array Value} {sz : Nat} {e : TypeId} {w : World} {base : Nat} {v : Value} {l : List α} (h : Row c sz e w base v l) {a : Addr} (x : Value) (hn : ∀ g, v.ownBlock = some g → g ≠ a.block) : Row c sz e (w.setCell a x) base v l :=
  h.of_block (fun g hg => Below.heap_setCell w a x g (hn g hg))
theorem Mut.mono {S S' : Nat → Prop} {w W : World} (h : Mut S w W) (hs : ∀ b, S b → S' b) : Mut S' w W := ⟨h.os, h.tape, h.output, h.size, fun k hk hn => h.block k hk (fun q => hn (hs k q))⟩
theorem Below.ofMut {S : Nat → Prop} {n : Nat} {w W w' : World} (h : Below n w W) (hm : Mut S W w') (hn : n ≤ W.heap.size) (hs : ∀ b, S b → n ≤ b) : Below n w w' :=
  ⟨hm.os.trans h.os, hm.tape.trans h.tape, hm.output.trans h.output, Nat.le_trans h.size hm.size, fun k hk => (hm.block k (Nat.lt_of_lt_of_le hk hn) (fun q => by have := hs k q; omega)).trans (h.block k hk)⟩
theorem View.mut {α : Type} {c : α → Array Value} {sz : Nat} {S : Nat → Prop} {w w' : World} {v : Value} {xs : List α} (h : View c sz w v xs) (hm : Mut S w w') (hn : ∀ b, S b → ∀ p n k, v = .slice (some p) n k → p.block ≠ b) : View c sz w' v xs := by
  obtain ⟨p, cap, e, hc, hf⟩ := h
  refine ⟨p, cap, e, hc, fun h0 => ?_⟩
  obtain ⟨b, o, e2, hlt, hcell⟩ := hf h0
  subst e2
  exact ⟨b, o, rfl, Nat.lt_of_lt_of_le hlt hm.size, fun i x hi j hj => (World.cell?_of_block (a := ⟨b, o + i * sz + j, none⟩) (hm.block b hlt (fun q => hn b q _ _ _ e rfl))).trans (hcell i x hi j hj)⟩
end Go.Proofs.YtcgcnpcimfaecaaGreatDoor
namespace Go.Proofs.YtcgcnpcimfaecaaGreatDoor
open Go.RowKit
set_option linter.all false
theorem nof_v (w : World) (q : Option Addr) (n c : Nat) (L : List (Ag × List En)) (hv : AV w (.slice q n c) (L.map Prod.fst)) (h40 : L.length ≤ 1099511627776) (hE : Hid (∀ p ∈ L, AgE w p)) (hM : (itms L).length ≤ 1099511627776) :
    Calls Tryz.prog 111 #[.slice q n c] w fun e w' => (∃ p m c, e = .returned (.slice p m c) ∧ Hid (NV w' p m (numsI (itms L)) ∧ m ≤ c ∧ Row icell 1 2 w' w.heap.size (.slice p m c) (numsI (itms L)))) ∧ Below w.heap.size w w' := by
  refine (nof_any w _ L hv h40 hE hM).mono ?_
  rintro e w' ⟨⟨u, rfl, hr⟩, hb⟩
  obtain ⟨p, c, rfl, hc, hn⟩ := NV.ofRow hr
  exact ⟨⟨p, _, c, rfl, hn, hc, hr⟩, hb⟩
set_option maxRecDepth 100000 in
set_option maxHeartbeats 2000000 in
theorem ofa_any (k bb : Nat) (hcf : ∀ (args : Array Value) (W : World), (callFunc k args).run Tryz.prog W = .ok (.enter k args) W) (w : World) (vq up : Option Addr) (vn vc um uc : Nat) (x : Int) (L : List (Ag × List En)) (hv : AV w (.slice vq vn vc) (L.map Prod.fst)) (h40 : L.length ≤ 1099511627776) (hE : Hid (∀ p ∈ L, AgE w p)) (hM : (itms L).length ≤ 1099511627776) (hbo : Own w bb #[.func (.func k) #[] #[]]) (rt rn : Int) (rs : ByteArray) (rb : Bool) (rc : Int)
    (HK : Hid (∀ (W : World) (p : Option Addr) (m c : Nat), Hid (NV W p m (numsI (itms L)) ∧ m ≤ c ∧ Row icell 1 2 W (w.heap.size + 2) (.slice p m c) (numsI (itms L))) → Calls Tryz.prog k #[.slice p m c] W fun e w' => e = .returned (.agg #[.int .i64 rt, .int .i64 rn, .string rs, .bool rb, .int .i64 rc]) ∧ Mut (fun q => (Value.slice p m c).ownBlock = some q) W w')) :
    Calls Tryz.prog 110 #[.agg #[.slice vq vn vc, .slice up um uc, .int .i64 x], .pointer (some ⟨bb, 0, none⟩)] w fun e w' => e = .returned (.agg #[.int .i64 rt, .int .i64 rn, .string rs, .bool rb, .int .i64 rc]) ∧ Below w.heap.size w w' := by
  have mixed : Tryz.prog.follows .mixedOrders = true := by kernel_rfl
  have HV : Hid (AV w (.slice vq vn vc) (L.map Prod.fst)) := hv
  have hbl := hbo.lt
  have hbc := hbo.cell 0
  clear hv
  go_enter Tryz.func110, Tryz.ntmps110
  go_wp2
  go_region_held3 (fun w' => w'.cell? ⟨bb, 0, none⟩ = some (.func (.func k) #[] #[]) ∧ w'.cell? ⟨w.heap.size, 0, none⟩ = some (.slice vq vn vc)) ((repeat' apply And.intro) <;> (first | (go_keep; done) | (go_simp; done))) (first | (go_at_call 111; refine (nof_v _ _ _ _ L (View.keep HV.out (by with_reducible (repeat' first | assumption | exact Below.refl _ _ | refine Below.drew ?_ | refine bdrewN ?_ _ | refine Below.setCell ?_ (by first | exact Nat.le_refl _ | (simp; done) | (simp; omega) | omega) _ | refine Below.alloc ?_ (by first | exact Nat.le_refl _ | (simp; done) | (simp; omega) | omega) _))) h40 (show Hid _ from fun p hp => (hE.out p hp).keep (by with_reducible (repeat' first | assumption | exact Below.refl _ _ | refine Below.drew ?_ | refine bdrewN ?_ _ | refine Below.setCell ?_ (by first | exact Nat.le_refl _ | (simp; done) | (simp; omega) | omega) _ | refine Below.alloc ?_ (by first | exact Nat.le_refl _ | (simp; done) | (simp; omega) | omega) _))) hM).mono ?_; rintro e wa ⟨⟨p, m, c, rfl, hnv⟩, hbwa⟩; have hBwa : Below w.heap.size w wa := bup (by with_reducible (repeat' first | assumption | exact Below.refl _ _ | refine Below.drew ?_ | refine bdrewN ?_ _ | refine Below.setCell ?_ (by first | exact Nat.le_refl _ | (simp; done) | (simp; omega) | omega) _ | refine Below.alloc ?_ (by first | exact Nat.le_refl _ | (simp; done) | (simp; omega) | omega) _)) hbwa; have zwa := hBwa.size; have o0wa : Own wa (w.heap.size) #[.slice vq vn vc, .slice up um uc, .int .i64 x] := Own.keep (by with_reducible (repeat' first | assumption | refine Own.drew ?_ | refine Own.drewN ?_ _ | (refine Own.at ?_; first | rfl | (simp; done)) | refine Own.past ?_ _)) hbwa; have c0 := o0wa.cell; have f0 := o0wa.fro; have l0 := o0wa.lt; have o1wa : Own wa (w.heap.size + 1) #[.int .i64 0, .int .i64 0, .string ⟨#[]⟩, .bool false, .int .i64 0] := Own.keep (by with_reducible (repeat' first | assumption | refine Own.drew ?_ | refine Own.drewN ?_ _ | (refine Own.at ?_; first | rfl | (simp; done)) | refine Own.past ?_ _)) hbwa; have c1 := o1wa.cell; have f1 := o1wa.fro; have l1 := o1wa.lt; have hnv2 : Hid (NV wa p m (numsI (itms L)) ∧ m ≤ c ∧ Row icell 1 2 wa (w.heap.size + 2) (.slice p m c) (numsI (itms L))) := (show NV wa p m (numsI (itms L)) ∧ m ≤ c ∧ Row icell 1 2 wa (w.heap.size + 2) (.slice p m c) (numsI (itms L)) from ⟨hnv.out.1, hnv.out.2.1, Row.mono hnv.out.2.2 (by first | (simp; done) | (simp; omega))⟩); have hgb : Hid (∀ g, (Value.slice p m c).ownBlock = some g → w.heap.size + 2 ≤ g) := (show ∀ g, (Value.slice p m c).ownBlock = some g → w.heap.size + 2 ≤ g from fun g hg => (Row.lt hnv2.out.2.2 g hg).1); have cb := (hBwa.cell (p := ⟨bb, 0, none⟩) hbl).trans (hbo.cell 0)) | (with_reducible refine (HK.out _ _ _ _ hnv2).mono ?_; rintro e wb ⟨rfl, hmt⟩; have hBwb : Below w.heap.size w wb := Below.ofMut hBwa hmt zwa (fun b hb => Nat.le_trans (by omega) (hgb.out b hb)); have zwb := hBwb.size; have o0wb : Own wb (w.heap.size) #[.slice vq vn vc, .slice up um uc, .int .i64 x] := Own.mut o0wa hmt (fun h => by have := hgb.out _ h; omega); have c0 := o0wb.cell; have f0 := o0wb.fro; have l0 := o0wb.lt; have o1wb : Own wb (w.heap.size + 1) #[.int .i64 0, .int .i64 0, .string ⟨#[]⟩, .bool false, .int .i64 0] := Own.mut o1wa hmt (fun h => by have := hgb.out _ h; omega); have c1 := o1wb.cell; have f1 := o1wb.fro; have l1 := o1wb.lt; have cb2 := (hBwb.cell (p := ⟨bb, 0, none⟩) hbl).trans (hbo.cell 0)))
  go_wp2
  exact bodyPost_ret (v := (.agg #[.int .i64 rt, .int .i64 rn, .string rs, .bool rb, .int .i64 rc])) (by simp [results, Tryz.results110, go_sem, c1, f1, l1]) rfl ⟨rfl, by with_reducible (repeat' first | assumption | exact Below.refl _ _ | refine Below.drew ?_ | refine bdrewN ?_ _ | refine Below.setCell ?_ (by first | exact Nat.le_refl _ | (simp; done) | (simp; omega) | omega) _ | refine Below.alloc ?_ (by first | exact Nat.le_refl _ | (simp; done) | (simp; omega) | omega) _)⟩
end Go.Proofs.YtcgcnpcimfaecaaGreatDoor
