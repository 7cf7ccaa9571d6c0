/- The contracts of looker.add and looker.remove. -/
import Derived.Test.YtgojnijpjfdocaaGreatBBr
import Derived.Test.YtgojnijpjfdocaaGreatBGr
namespace Go.Proofs.YtgojnijpjfdocaaGreat
open Go.RowKit
set_option linter.all false
def fR (k0 k1 k2 k3 : Int) (x : Rct) : Int := cmpR x.t x.l x.b x.r k0 k1 k2 k3
theorem RowG.slice {α : Type} {E : TypeId} {sz : Nat} {cs : α → List Value} {w : World} {base : Nat} {v : Value} {l : List α} (h : RowG E sz cs w base v l) : ∃ q n cp, v = .slice q n cp := by
  rcases h.two with ⟨rfl, _⟩ | ⟨g, cap, cur, rfl, _⟩ <;> exact ⟨_, _, _, rfl⟩
/-- What an add, a remove leaves: the looker with another row of rectangles. -/
def LookP (w : World) (g : Nat) (r c : Int) (v : Value) (l' : List Rct) (e : Ending) (w' : World) : Prop := e = .returned (.bool true) ∧ ∃ v', Own w' g #[.int .i64 r, .int .i64 c, v'] ∧ RowR w' v' l' ∧ (∀ b, v'.ownBlock = some b → v.ownBlock = some b ∨ w.heap.size ≤ b) ∧ Mut (fun b => b = g ∨ v.ownBlock = some b) w w'
set_option maxRecDepth 100000 in
set_option maxHeartbeats 4000000 in
theorem ladd_no (w : World) (g : Nat) (r c : Int) (v : Value) (l : List Rct) (k0 k1 k2 k3 : Int) (ho : Hid (Own w g #[.int .i64 r, .int .i64 c, v])) (hv : Hid (RowR w v l)) (hl : l.length ≤ 4000000000000) (hS : Hid (MonoF (fR k0 k1 k2 k3) l)) (hh : hasF (fR k0 k1 k2 k3) l = true) :
    Calls Tryz.prog 74 #[.pointer (some ⟨g, 0, none⟩), .agg #[.int .i64 k0, .int .i64 k1, .int .i64 k2, .int .i64 k3]] w fun e w' => e = .returned (.bool false) ∧ Below w.heap.size w w' := by
  have mixed : Tryz.prog.follows .mixedOrders = true := by kernel_rfl
  have g2 : w.cell? ⟨g, 2, none⟩ = some v := ho.out.cell 2
  have gl := ho.out.lt
  have H : Hid (∀ W, Below w.heap.size w W → Calls Tryz.prog 93 #[v, .agg #[.int .i64 k0, .int .i64 k1, .int .i64 k2, .int .i64 k3], .func (.func 71) #[] #[]] W fun e w' => e = .returned (.tuple #[.int .i64 (idxF (fR k0 k1 k2 k3) l), .bool true]) ∧ Below W.heap.size W w') := (show _ from fun W hb => by
    have := bs_anyr W v l k0 k1 k2 k3 (fR k0 k1 k2 k3) (hv.out.keep hb) hl hS.out (fun W' _ x _ => orec_any x.t x.l x.b x.r k0 k1 k2 k3 W')
    rw [hh] at this
    exact this)
  generalize idxF (fR k0 k1 k2 k3) l = i at *
  clear hh hS hv ho
  go_enter Tryz.func74, Tryz.ntmps74
  go_wp2
  go_region_held3 (fun w' => w'.cell? ⟨g, 2, none⟩ = some v ∧ w'.cell? ⟨w.heap.size, 0, none⟩ = some (.int .i64 k0) ∧ w'.cell? ⟨w.heap.size, 1, none⟩ = some (.int .i64 k1) ∧ w'.cell? ⟨w.heap.size, 2, none⟩ = some (.int .i64 k2) ∧ w'.cell? ⟨w.heap.size, 3, none⟩ = some (.int .i64 k3)) ((repeat' apply And.intro) <;> (first | (go_keep; done) | (go_simp; done))) ((go_at_call 93; refine (H.out _ (by with_reducible (repeat' first | assumption | exact Below.refl _ _ | refine Below.drew ?_ | refine bdrewN ?_ _ | refine Below.setCell ?_ (by first | exact Nat.le_refl _ | (simp; done) | (simp; omega) | omega) _ | refine Below.alloc ?_ (by first | exact Nat.le_refl _ | (simp; done) | (simp; omega) | omega) _))).mono ?_; rintro e wa ⟨rfl, hbwa⟩; have hBwa : Below w.heap.size w wa := bup (by with_reducible (repeat' first | assumption | exact Below.refl _ _ | refine Below.drew ?_ | refine bdrewN ?_ _ | refine Below.setCell ?_ (by first | exact Nat.le_refl _ | (simp; done) | (simp; omega) | omega) _ | refine Below.alloc ?_ (by first | exact Nat.le_refl _ | (simp; done) | (simp; omega) | omega) _)) hbwa; have oa : Own wa w.heap.size #[.int .i64 k0, .int .i64 k1, .int .i64 k2, .int .i64 k3] := Own.keep (by with_reducible (repeat' first | assumption | refine Own.drew ?_ | refine Own.drewN ?_ _ | (refine Own.at ?_; first | rfl | (simp; done)) | refine Own.past ?_ _)) hbwa; have ca := oa.cell; have ya := (hBwa.cell (p := ⟨g, 2, none⟩) gl).trans g2))
  go_wp2
  go_ret
  exact ⟨rfl, hBwa⟩
set_option maxRecDepth 100000 in
set_option maxHeartbeats 4000000 in
theorem ladd_yes (w : World) (g : Nat) (r c : Int) (v : Value) (l : List Rct) (k0 k1 k2 k3 : Int) (ho : Hid (Own w g #[.int .i64 r, .int .i64 c, v])) (hv : Hid (RowR w v l)) (hng : v.ownBlock ≠ some g) (hl : l.length ≤ 4000000000000) (hS : Hid (MonoF (fR k0 k1 k2 k3) l)) (hh : hasF (fR k0 k1 k2 k3) l = false) :
    Calls Tryz.prog 74 #[.pointer (some ⟨g, 0, none⟩), .agg #[.int .i64 k0, .int .i64 k1, .int .i64 k2, .int .i64 k3]] w (LookP w g r c v (loF (fR k0 k1 k2 k3) l ++ ⟨k0, k1, k2, k3⟩ :: hiF (fR k0 k1 k2 k3) l)) := by
  have mixed : Tryz.prog.follows .mixedOrders = true := by kernel_rfl
  have g2 : w.cell? ⟨g, 2, none⟩ = some v := ho.out.cell 2
  have gl := ho.out.lt
  have H : Hid (∀ W, Below w.heap.size w W → Calls Tryz.prog 93 #[v, .agg #[.int .i64 k0, .int .i64 k1, .int .i64 k2, .int .i64 k3], .func (.func 71) #[] #[]] W fun e w' => e = .returned (.tuple #[.int .i64 (idxF (fR k0 k1 k2 k3) l), .bool false]) ∧ Below W.heap.size W w') := (show _ from fun W hb => by
    have := bs_anyr W v l k0 k1 k2 k3 (fR k0 k1 k2 k3) (hv.out.keep hb) hl hS.out (fun W' _ x _ => orec_any x.t x.l x.b x.r k0 k1 k2 k3 W')
    rw [hh] at this
    exact this)
  have HI : Hid (∀ W vb, Below w.heap.size w W → w.heap.size ≤ vb → W.heap[vb]? = some (.cells #[.int .i64 k0, .int .i64 k1, .int .i64 k2, .int .i64 k3] 48 (0, 0)) → Calls Tryz.prog 105 #[v, .int .i64 (idxF (fR k0 k1 k2 k3) l), .slice (some ⟨vb, 0, none⟩) 1 1] W fun e w' => ∃ v', e = .returned v' ∧ Own w' g #[.int .i64 r, .int .i64 c, v] ∧ (∃ q n cp, v' = .slice q n cp) ∧ LookP w g r c v (loF (fR k0 k1 k2 k3) l ++ ⟨k0, k1, k2, k3⟩ :: hiF (fR k0 k1 k2 k3) l) (.returned (.bool true)) (w'.setCell ⟨g, 2, none⟩ v')) := (show _ from fun W vb hb hvb hx => by
    have hvW := hv.out.keep hb
    have hgW := ho.out.keep hb
    refine (ins_anyr W v l (idxF (fR k0 k1 k2 k3) l) vb ⟨k0, k1, k2, k3⟩ hvW (idxF_le l) hl hx (fun q => by have := (hv.out.lt _ q).2; omega)).mono ?_
    rintro e w' ⟨v', rfl, p1, p2, p3⟩
    rw [take_idx hS.out, drop_idx hS.out, has_no hh] at p1
    have hgo : Own w' g #[.int .i64 r, .int .i64 c, v] := hgW.mut p3 hng
    have hob : ∀ b, v'.ownBlock = some b → v.ownBlock = some b ∨ w.heap.size ≤ b := fun b q => by
      rcases p2 with p2 | ⟨b', p2, p4⟩
      · exact .inl (p2.symm.trans q)
      · rw [p2] at q; injection q with q; subst q; exact .inr (Nat.le_trans hb.size p4)
    refine ⟨v', rfl, hgo, p1.slice, rfl, v', own_put (k := 2) hgo (by simp), p1.aside _ (fun b q => ?_), hob, ?_⟩
    · rcases hob b q with s | s
      · intro e; simp at e; subst e; exact hng s
      · simp; omega
    · exact Mut.set (Mut.call (Mut.of_below hb) p3 (fun b q => .inl (.inr q))) (.inl (.inl rfl)) _)
  revert HI
  generalize LookP w g r c v (loF (fR k0 k1 k2 k3) l ++ ⟨k0, k1, k2, k3⟩ :: hiF (fR k0 k1 k2 k3) l) = PP
  intro HI
  generalize idxF (fR k0 k1 k2 k3) l = i at *
  clear hh hS hv ho hng
  go_enter Tryz.func74, Tryz.ntmps74
  go_wp2
  go_region_held3 (fun w' => w'.cell? ⟨g, 2, none⟩ = some v ∧ w'.cell? ⟨w.heap.size, 0, none⟩ = some (.int .i64 k0) ∧ w'.cell? ⟨w.heap.size, 1, none⟩ = some (.int .i64 k1) ∧ w'.cell? ⟨w.heap.size, 2, none⟩ = some (.int .i64 k2) ∧ w'.cell? ⟨w.heap.size, 3, none⟩ = some (.int .i64 k3)) ((repeat' apply And.intro) <;> (first | (go_keep; done) | (go_simp; done))) ((go_at_call 93; refine (H.out _ (by with_reducible (repeat' first | assumption | exact Below.refl _ _ | refine Below.drew ?_ | refine bdrewN ?_ _ | refine Below.setCell ?_ (by first | exact Nat.le_refl _ | (simp; done) | (simp; omega) | omega) _ | refine Below.alloc ?_ (by first | exact Nat.le_refl _ | (simp; done) | (simp; omega) | omega) _))).mono ?_; rintro e wa ⟨rfl, hbwa⟩; have hBwa : Below w.heap.size w wa := bup (by with_reducible (repeat' first | assumption | exact Below.refl _ _ | refine Below.drew ?_ | refine bdrewN ?_ _ | refine Below.setCell ?_ (by first | exact Nat.le_refl _ | (simp; done) | (simp; omega) | omega) _ | refine Below.alloc ?_ (by first | exact Nat.le_refl _ | (simp; done) | (simp; omega) | omega) _)) hbwa; have oa : Own wa w.heap.size #[.int .i64 k0, .int .i64 k1, .int .i64 k2, .int .i64 k3] := Own.keep (by with_reducible (repeat' first | assumption | refine Own.drew ?_ | refine Own.drewN ?_ _ | (refine Own.at ?_; first | rfl | (simp; done)) | refine Own.past ?_ _)) hbwa; have ca := oa.cell; have la := oa.lt; have ya := (hBwa.cell (p := ⟨g, 2, none⟩) gl).trans g2; have za := hBwa.size; have gla : g < wa.heap.size := Nat.lt_of_lt_of_le gl za))
  go_wp2
  clear g2
  go_region_with (first | (go_at_call 105; refine (HI.out _ _ ?_ ?_ ?_).mono ?_; (· with_reducible (repeat' first | assumption | exact Below.refl _ _ | refine Below.drew ?_ | refine bdrewN ?_ _ | refine Below.setCell ?_ (by first | exact Nat.le_refl _ | (simp; done) | (simp; omega) | omega) _ | refine Below.alloc ?_ (by first | exact Nat.le_refl _ | (simp; done) | (simp; omega) | omega) _)); (· go_loud (first | omega | (simp; omega))); (· go_loud (first | exact heap_alloc_new _ _ | (simp; done))); rintro e wb ⟨v', rfl, og, ⟨qq, qn, qc, rfl⟩, hP⟩; have cg := og.cell; have fg := og.fro; have lg := og.lt; have HP : Hid _ := hP; clear hP))
  go_wp2
  all_goals first | exact HP.out | (go_ret; exact HP.out)
set_option maxRecDepth 100000 in
set_option maxHeartbeats 4000000 in
theorem lrem_no (w : World) (g : Nat) (r c : Int) (v : Value) (l : List Rct) (k0 k1 k2 k3 : Int) (ho : Hid (Own w g #[.int .i64 r, .int .i64 c, v])) (hv : Hid (RowR w v l)) (hl : l.length ≤ 4000000000000) (hS : Hid (MonoF (fR k0 k1 k2 k3) l)) (hh : hasF (fR k0 k1 k2 k3) l = false) :
    Calls Tryz.prog 65 #[.pointer (some ⟨g, 0, none⟩), .agg #[.int .i64 k0, .int .i64 k1, .int .i64 k2, .int .i64 k3]] w fun e w' => e = .returned (.bool false) ∧ Below w.heap.size w w' := by
  have mixed : Tryz.prog.follows .mixedOrders = true := by kernel_rfl
  have g2 : w.cell? ⟨g, 2, none⟩ = some v := ho.out.cell 2
  have gl := ho.out.lt
  have H : Hid (∀ W, Below w.heap.size w W → Calls Tryz.prog 93 #[v, .agg #[.int .i64 k0, .int .i64 k1, .int .i64 k2, .int .i64 k3], .func (.func 71) #[] #[]] W fun e w' => e = .returned (.tuple #[.int .i64 (idxF (fR k0 k1 k2 k3) l), .bool false]) ∧ Below W.heap.size W w') := (show _ from fun W hb => by
    have := bs_anyr W v l k0 k1 k2 k3 (fR k0 k1 k2 k3) (hv.out.keep hb) hl hS.out (fun W' _ x _ => orec_any x.t x.l x.b x.r k0 k1 k2 k3 W')
    rw [hh] at this
    exact this)
  generalize idxF (fR k0 k1 k2 k3) l = i at *
  clear hh hS hv ho
  go_enter Tryz.func65, Tryz.ntmps65
  go_wp2
  go_region_held3 (fun w' => w'.cell? ⟨g, 2, none⟩ = some v ∧ w'.cell? ⟨w.heap.size, 0, none⟩ = some (.int .i64 k0) ∧ w'.cell? ⟨w.heap.size, 1, none⟩ = some (.int .i64 k1) ∧ w'.cell? ⟨w.heap.size, 2, none⟩ = some (.int .i64 k2) ∧ w'.cell? ⟨w.heap.size, 3, none⟩ = some (.int .i64 k3)) ((repeat' apply And.intro) <;> (first | (go_keep; done) | (go_simp; done))) ((go_at_call 93; refine (H.out _ (by with_reducible (repeat' first | assumption | exact Below.refl _ _ | refine Below.drew ?_ | refine bdrewN ?_ _ | refine Below.setCell ?_ (by first | exact Nat.le_refl _ | (simp; done) | (simp; omega) | omega) _ | refine Below.alloc ?_ (by first | exact Nat.le_refl _ | (simp; done) | (simp; omega) | omega) _))).mono ?_; rintro e wa ⟨rfl, hbwa⟩; have hBwa : Below w.heap.size w wa := bup (by with_reducible (repeat' first | assumption | exact Below.refl _ _ | refine Below.drew ?_ | refine bdrewN ?_ _ | refine Below.setCell ?_ (by first | exact Nat.le_refl _ | (simp; done) | (simp; omega) | omega) _ | refine Below.alloc ?_ (by first | exact Nat.le_refl _ | (simp; done) | (simp; omega) | omega) _)) hbwa; have oa : Own wa w.heap.size #[.int .i64 k0, .int .i64 k1, .int .i64 k2, .int .i64 k3] := Own.keep (by with_reducible (repeat' first | assumption | refine Own.drew ?_ | refine Own.drewN ?_ _ | (refine Own.at ?_; first | rfl | (simp; done)) | refine Own.past ?_ _)) hbwa; have ca := oa.cell; have ya := (hBwa.cell (p := ⟨g, 2, none⟩) gl).trans g2))
  go_wp2
  go_ret
  exact ⟨rfl, hBwa⟩
set_option maxRecDepth 100000 in
set_option maxHeartbeats 4000000 in
theorem lrem_yes (w : World) (g : Nat) (r c : Int) (v : Value) (l : List Rct) (k0 k1 k2 k3 : Int) (ho : Hid (Own w g #[.int .i64 r, .int .i64 c, v])) (hv : Hid (RowR w v l)) (hng : v.ownBlock ≠ some g) (hl : l.length ≤ 4000000000000) (hS : Hid (MonoF (fR k0 k1 k2 k3) l)) (hh : hasF (fR k0 k1 k2 k3) l = true) :
    Calls Tryz.prog 65 #[.pointer (some ⟨g, 0, none⟩), .agg #[.int .i64 k0, .int .i64 k1, .int .i64 k2, .int .i64 k3]] w (LookP w g r c v (loF (fR k0 k1 k2 k3) l ++ hiF (fR k0 k1 k2 k3) l)) := by
  have mixed : Tryz.prog.follows .mixedOrders = true := by kernel_rfl
  have g2 : w.cell? ⟨g, 2, none⟩ = some v := ho.out.cell 2
  have gl := ho.out.lt
  have H : Hid (∀ W, Below w.heap.size w W → Calls Tryz.prog 93 #[v, .agg #[.int .i64 k0, .int .i64 k1, .int .i64 k2, .int .i64 k3], .func (.func 71) #[] #[]] W fun e w' => e = .returned (.tuple #[.int .i64 (idxF (fR k0 k1 k2 k3) l), .bool true]) ∧ Below W.heap.size W w') := (show _ from fun W hb => by
    have := bs_anyr W v l k0 k1 k2 k3 (fR k0 k1 k2 k3) (hv.out.keep hb) hl hS.out (fun W' _ x _ => orec_any x.t x.l x.b x.r k0 k1 k2 k3 W')
    rw [hh] at this
    exact this)
  have HI : Hid (∀ W, Below w.heap.size w W → Calls Tryz.prog 94 #[v, .int .i64 (idxF (fR k0 k1 k2 k3) l)] W fun e w' => ∃ v', e = .returned v' ∧ Own w' g #[.int .i64 r, .int .i64 c, v] ∧ (∃ q n cp, v' = .slice q n cp) ∧ LookP w g r c v (loF (fR k0 k1 k2 k3) l ++ hiF (fR k0 k1 k2 k3) l) (.returned (.bool true)) (w'.setCell ⟨g, 2, none⟩ v')) := (show _ from fun W hb => by
    have hvW := hv.out.keep hb
    have hgW := ho.out.keep hb
    obtain ⟨_, _, _, hlt⟩ := has_idx hS.out hh
    refine (wo_anyr W v l (idxF (fR k0 k1 k2 k3) l) hvW hlt hl).mono ?_
    rintro e w' ⟨v', rfl, p1, p2, p3⟩
    rw [drop_has hS.out hh] at p1
    have hgo : Own w' g #[.int .i64 r, .int .i64 c, v] := hgW.mut p3 hng
    have hob : ∀ b, v'.ownBlock = some b → v.ownBlock = some b ∨ w.heap.size ≤ b := fun b q => (p2 b q).imp id (fun s => Nat.le_trans hb.size s)
    refine ⟨v', rfl, hgo, p1.slice, rfl, v', own_put (k := 2) hgo (by simp), p1.aside _ (fun b q => ?_), hob, ?_⟩
    · rcases hob b q with s | s
      · intro e; simp at e; subst e; exact hng s
      · simp; omega
    · exact Mut.set (Mut.call (Mut.of_below hb) p3 (fun b q => .inl (.inr q))) (.inl (.inl rfl)) _)
  revert HI
  generalize LookP w g r c v (loF (fR k0 k1 k2 k3) l ++ hiF (fR k0 k1 k2 k3) l) = PP
  intro HI
  generalize idxF (fR k0 k1 k2 k3) l = i at *
  clear hh hS hv ho hng
  go_enter Tryz.func65, Tryz.ntmps65
  go_wp2
  go_region_held3 (fun w' => w'.cell? ⟨g, 2, none⟩ = some v ∧ w'.cell? ⟨w.heap.size, 0, none⟩ = some (.int .i64 k0) ∧ w'.cell? ⟨w.heap.size, 1, none⟩ = some (.int .i64 k1) ∧ w'.cell? ⟨w.heap.size, 2, none⟩ = some (.int .i64 k2) ∧ w'.cell? ⟨w.heap.size, 3, none⟩ = some (.int .i64 k3)) ((repeat' apply And.intro) <;> (first | (go_keep; done) | (go_simp; done))) ((go_at_call 93; refine (H.out _ (by with_reducible (repeat' first | assumption | exact Below.refl _ _ | refine Below.drew ?_ | refine bdrewN ?_ _ | refine Below.setCell ?_ (by first | exact Nat.le_refl _ | (simp; done) | (simp; omega) | omega) _ | refine Below.alloc ?_ (by first | exact Nat.le_refl _ | (simp; done) | (simp; omega) | omega) _))).mono ?_; rintro e wa ⟨rfl, hbwa⟩; have hBwa : Below w.heap.size w wa := bup (by with_reducible (repeat' first | assumption | exact Below.refl _ _ | refine Below.drew ?_ | refine bdrewN ?_ _ | refine Below.setCell ?_ (by first | exact Nat.le_refl _ | (simp; done) | (simp; omega) | omega) _ | refine Below.alloc ?_ (by first | exact Nat.le_refl _ | (simp; done) | (simp; omega) | omega) _)) hbwa; have oa : Own wa w.heap.size #[.int .i64 k0, .int .i64 k1, .int .i64 k2, .int .i64 k3] := Own.keep (by with_reducible (repeat' first | assumption | refine Own.drew ?_ | refine Own.drewN ?_ _ | (refine Own.at ?_; first | rfl | (simp; done)) | refine Own.past ?_ _)) hbwa; have ca := oa.cell; have la := oa.lt; have ya := (hBwa.cell (p := ⟨g, 2, none⟩) gl).trans g2; have za := hBwa.size; have gla : g < wa.heap.size := Nat.lt_of_lt_of_le gl za))
  go_wp2_with (go_at_call 94; refine (HI.out _ (by with_reducible (repeat' first | assumption | exact Below.refl _ _ | refine Below.drew ?_ | refine bdrewN ?_ _ | refine Below.setCell ?_ (by first | exact Nat.le_refl _ | (simp; done) | (simp; omega) | omega) _ | refine Below.alloc ?_ (by first | exact Nat.le_refl _ | (simp; done) | (simp; omega) | omega) _))).mono ?_; rintro e wb ⟨v', rfl, og, ⟨qq, qn, qc, rfl⟩, hP⟩; have cg := og.cell; have fg := og.fro; have lg := og.lt; have HP : Hid _ := hP; clear hP)
  all_goals first | exact HP.out | (go_ret; exact HP.out)
end Go.Proofs.YtgojnijpjfdocaaGreat
