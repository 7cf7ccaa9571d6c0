/- The law's does: one deed on both. -/
import Derived.Test.YtaafpfjmnhmalaaS25
namespace Go.Proofs.Ytaafpfjmnhmalaa
open Go.RowKit
set_option linter.all false
/-- A deed. -/
structure Dd where
  kd : Int
  r : Int
  c : Int
  t : Int
  l : Int
  b : Int
  rr : Int
  wh : Int
def Dd.cells (d : Dd) : Array Value := #[.int .i64 d.kd, .int .i64 d.r, .int .i64 d.c, .int .i64 d.t, .int .i64 d.l, .int .i64 d.b, .int .i64 d.rr, .int .i64 d.wh]
structure Dd.ok (d : Dd) : Prop where
  kd : I64 d.kd
  r : I64 d.r
  c : I64 d.c
  t : I64 d.t
  l : I64 d.l
  b : I64 d.b
  rr : I64 d.rr
  wh : I64 d.wh
def rngR (R : List Im) : Prop := ∀ m ∈ R, 0 ≤ m.k ∧ m.k < 8
/-- Both tell the same. -/
def GOut (w : World) (F : Nat → Prop) (k : Bx) (w' : World) : Prop := ∃ R', BOut w F k (itL k R') R' w' ∧ rngR R'
theorem BW.ins {w : World} {F : Nat → Prop} {k : Bx} {L : List It} {R : List Im} (h : BW w F k L R) : InS L := by
  obtain ⟨D, v, s1, _⟩ := h.st
  exact s1.ins
theorem BW.srtL {w : World} {F : Nat → Prop} {k : Bx} {L : List It} {R : List Im} (h : BW w F k L R) : SrtI L := by
  obtain ⟨D, v, s1, _⟩ := h.st
  exact s1.srt
set_option maxRecDepth 100000 in
set_option maxHeartbeats 8000000 in
theorem does_walk (w : World) (F : Nat → Prop) (k : Bx) (R : List Im) (kd r c t l b rr wh : Int) (h : Hid (BW w F k (itL k R) R)) (hg : Hid (rngR R)) (ik : I64 kd) (ir : I64 r) (ic : I64 c) (it : I64 t) (il : I64 l) (ib : I64 b) (irr : I64 rr) (iw : I64 wh) (hk : pkI kd 6 = 5) : Calls Try.prog 9 #[.pointer (some ⟨k.q, 0, none⟩), .agg #[.int .i64 kd, .int .i64 r, .int .i64 c, .int .i64 t, .int .i64 l, .int .i64 b, .int .i64 rr, .int .i64 wh]] w fun e w' => e = .returned (.bool true) ∧ GOut w F k w' := by
  have mixed : Try.prog.follows .mixedOrders = true := by kernel_rfl
  have hq0 : w.cell? ⟨k.q, 0, none⟩ = some (.pointer (some ⟨k.s, 0, none⟩)) := h.out.q.cell 0
  have hq1 : w.cell? ⟨k.q, 1, none⟩ = some (.pointer (some ⟨k.y, 0, none⟩)) := h.out.q.cell 1
  have hq2 : w.cell? ⟨k.q, 2, none⟩ = some (.slice (some ⟨k.p, 0, none⟩) 8 k.pc) := h.out.q.cell 2
  have hql := h.out.q.lt
  have HP6 : Hid (∀ W, Calls Try.prog 21 #[.int .i64 kd, .int .i64 6] W fun e w' => e = .returned (.int .i64 5) ∧ w' = W) := fun W => by rw [← hk]; exact pick_any W kd 6 ik (by omega) (by omega)
  have HP8 : Hid (∀ W, Calls Try.prog 21 #[.int .i64 wh, .int .i64 8] W fun e w' => e = .returned (.int .i64 (pkI wh 8)) ∧ w' = W) := fun W => pick_any W wh 8 iw (by omega) (by omega)
  have HW : Hid (∀ W, Below w.heap.size w W → Calls Try.prog 11 #[.pointer (some ⟨k.q, 0, none⟩), .agg #[.int .i64 t, .int .i64 l, .int .i64 b, .int .i64 rr]] W fun e w' => e = .returned (.bool true) ∧ Below W.heap.size W w') := fun W hb => walks_any W F k R t l b rr (show Hid _ from h.out.keep hb) it il ib irr h.out.ins
  clear hk
  generalize pkI wh 8 = pw at *
  go_enter Try.func9, Try.ntmps9
  go_wp2
  go_quiet ((go_at_call 21; exact Calls.quiet_of_same (HP8.out _)))
  go_wp2_with (first | (go_at_call 21; refine (HP6.out _).mono ?_; rintro e w5 ⟨rfl, h5⟩; have h6 := h5.symm; subst h6) | (go_at_call 11; refine (HW.out _ (by with_reducible (repeat' first | assumption | exact Below.refl _ _ | refine Below.drew ?_ | refine bdrewN ?_ _ | refine Below.setCell ?_ (by first | exact Nat.le_refl _ | (simp; done) | (simp; omega) | omega) _ | refine Below.alloc ?_ (by first | exact Nat.le_refl _ | (simp; done) | (simp; omega) | omega) _))).mono ?_; rintro e wa ⟨rfl, hba⟩; have hBa : Below w.heap.size w wa := bup (by with_reducible (repeat' first | assumption | exact Below.refl _ _ | refine Below.drew ?_ | refine bdrewN ?_ _ | refine Below.setCell ?_ (by first | exact Nat.le_refl _ | (simp; done) | (simp; omega) | omega) _ | refine Below.alloc ?_ (by first | exact Nat.le_refl _ | (simp; done) | (simp; omega) | omega) _)) hba))
  all_goals go_ret
  all_goals exact ⟨rfl, R, BOut.refl h.out hBa, hg.out⟩
set_option maxRecDepth 100000 in
set_option maxHeartbeats 8000000 in
theorem does_nil (w : World) (F : Nat → Prop) (k : Bx) (R : List Im) (kd r c t l b rr wh : Int) (h : Hid (BW w F k (itL k R) R)) (hg : Hid (rngR R)) (ik : I64 kd) (ir : I64 r) (ic : I64 c) (it : I64 t) (il : I64 l) (ib : I64 b) (irr : I64 rr) (iw : I64 wh) (hk : pkI kd 6 = 1) : Calls Try.prog 9 #[.pointer (some ⟨k.q, 0, none⟩), .agg #[.int .i64 kd, .int .i64 r, .int .i64 c, .int .i64 t, .int .i64 l, .int .i64 b, .int .i64 rr, .int .i64 wh]] w fun e w' => e = .returned (.bool true) ∧ GOut w F k w' := by
  have mixed : Try.prog.follows .mixedOrders = true := by kernel_rfl
  have hq0 : w.cell? ⟨k.q, 0, none⟩ = some (.pointer (some ⟨k.s, 0, none⟩)) := h.out.q.cell 0
  have hq1 : w.cell? ⟨k.q, 1, none⟩ = some (.pointer (some ⟨k.y, 0, none⟩)) := h.out.q.cell 1
  have hq2 : w.cell? ⟨k.q, 2, none⟩ = some (.slice (some ⟨k.p, 0, none⟩) 8 k.pc) := h.out.q.cell 2
  have hql := h.out.q.lt
  have hnb : ¬ F w.heap.size := fun q => by have := h.out.fl _ q; omega
  have HP6 : Hid (∀ W, Calls Try.prog 21 #[.int .i64 kd, .int .i64 6] W fun e w' => e = .returned (.int .i64 1) ∧ w' = W) := fun W => by rw [← hk]; exact pick_any W kd 6 ik (by omega) (by omega)
  have HP8 : Hid (∀ W, Calls Try.prog 21 #[.int .i64 wh, .int .i64 8] W fun e w' => e = .returned (.int .i64 (pkI wh 8)) ∧ w' = W) := fun W => pick_any W wh 8 iw (by omega) (by omega)
  have hpw := pk_in wh (n := 8) (by omega)
  clear hk
  have HN : Hid (∀ W, Calls Try.prog 14 #[.pointer (some ⟨k.s, 0, none⟩), .agg #[.int .i64 r, .int .i64 c], .pointer none] W fun e w' => e = .returned (.int .i64 1) ∧ Below W.heap.size W w') := fun W => put_nil W k.s r c
  generalize pkI wh 8 = pw at *
  go_enter Try.func9, Try.ntmps9
  go_wp2
  go_quiet ((go_at_call 21; exact Calls.quiet_of_same (HP8.out _)))
  go_wp2_with (go_at_call 21; refine (HP6.out _).mono ?_; rintro e w5 ⟨rfl, h5⟩; have h6 := h5.symm; subst h6)
  go_region_held3 (fun w' => w'.cell? ⟨k.q, 0, none⟩ = some (.pointer (some ⟨k.s, 0, none⟩)) ∧ w'.cell? ⟨k.q, 1, none⟩ = some (.pointer (some ⟨k.y, 0, none⟩)) ∧ w'.cell? ⟨k.q, 2, none⟩ = some (.slice (some ⟨k.p, 0, none⟩) 8 k.pc) ∧ w'.cell? ⟨w.heap.size, 0, none⟩ = some (.int .i64 kd) ∧ w'.cell? ⟨w.heap.size, 1, none⟩ = some (.int .i64 r) ∧ w'.cell? ⟨w.heap.size, 2, none⟩ = some (.int .i64 c) ∧ w'.cell? ⟨w.heap.size, 3, none⟩ = some (.int .i64 t) ∧ w'.cell? ⟨w.heap.size, 4, none⟩ = some (.int .i64 l) ∧ w'.cell? ⟨w.heap.size, 5, none⟩ = some (.int .i64 b) ∧ w'.cell? ⟨w.heap.size, 6, none⟩ = some (.int .i64 rr) ∧ w'.cell? ⟨w.heap.size, 7, none⟩ = some (.int .i64 wh)) ((repeat' apply And.intro) <;> (first | (go_keep; done) | (go_simp; done))) (first | (go_at_call 14; refine (HN.out _).mono ?_; rintro e wa ⟨rfl, hwa⟩; have hBwa : Below w.heap.size w wa := bup (by with_reducible (repeat' first | assumption | exact Below.refl _ _ | refine Below.drew ?_ | refine bdrewN ?_ _ | refine Below.setCell ?_ (by first | exact Nat.le_refl _ | (simp; done) | (simp; omega) | omega) _ | refine Below.alloc ?_ (by first | exact Nat.le_refl _ | (simp; done) | (simp; omega) | omega) _)) hwa; have zwa := hBwa.size; have owa : Own wa w.heap.size #[.int .i64 kd, .int .i64 r, .int .i64 c, .int .i64 t, .int .i64 l, .int .i64 b, .int .i64 rr, .int .i64 wh] := Own.keep (by with_reducible (repeat' first | assumption | refine Own.drew ?_ | refine Own.drewN ?_ _ | (refine Own.at ?_; first | rfl | (simp; done)) | refine Own.past ?_ _)) hwa; have cwa := owa.cell; have lwa := owa.lt; have q0wa := (hBwa.cell (p := ⟨k.q, 0, none⟩) hql).trans hq0; have q1wa := (hBwa.cell (p := ⟨k.q, 1, none⟩) hql).trans hq1; have q2wa := (hBwa.cell (p := ⟨k.q, 2, none⟩) hql).trans hq2))
  go_wp2
  all_goals go_ret
  all_goals exact ⟨rfl, R, BOut.refl h.out hBwa, hg.out⟩
set_option maxRecDepth 100000 in
set_option maxHeartbeats 8000000 in
theorem does_put (w : World) (F : Nat → Prop) (k : Bx) (R : List Im) (kd r c t l b rr wh : Int) (h : Hid (BW w F k (itL k R) R)) (hg : Hid (rngR R)) (ik : I64 kd) (ir : I64 r) (ic : I64 c) (it : I64 t) (il : I64 l) (ib : I64 b) (irr : I64 rr) (iw : I64 wh) (hk : pkI kd 6 = 0) : Calls Try.prog 9 #[.pointer (some ⟨k.q, 0, none⟩), .agg #[.int .i64 kd, .int .i64 r, .int .i64 c, .int .i64 t, .int .i64 l, .int .i64 b, .int .i64 rr, .int .i64 wh]] w fun e w' => e = .returned (.bool true) ∧ GOut w F k w' := by
  have mixed : Try.prog.follows .mixedOrders = true := by kernel_rfl
  have hq0 : w.cell? ⟨k.q, 0, none⟩ = some (.pointer (some ⟨k.s, 0, none⟩)) := h.out.q.cell 0
  have hq1 : w.cell? ⟨k.q, 1, none⟩ = some (.pointer (some ⟨k.y, 0, none⟩)) := h.out.q.cell 1
  have hq2 : w.cell? ⟨k.q, 2, none⟩ = some (.slice (some ⟨k.p, 0, none⟩) 8 k.pc) := h.out.q.cell 2
  have hql := h.out.q.lt
  have hnb : ¬ F w.heap.size := fun q => by have := h.out.fl _ q; omega
  have HP6 : Hid (∀ W, Calls Try.prog 21 #[.int .i64 kd, .int .i64 6] W fun e w' => e = .returned (.int .i64 0) ∧ w' = W) := fun W => by rw [← hk]; exact pick_any W kd 6 ik (by omega) (by omega)
  have HP8 : Hid (∀ W, Calls Try.prog 21 #[.int .i64 wh, .int .i64 8] W fun e w' => e = .returned (.int .i64 (pkI wh 8)) ∧ w' = W) := fun W => pick_any W wh 8 iw (by omega) (by omega)
  have hpw := pk_in wh (n := 8) (by omega)
  clear hk
  obtain ⟨j, hj⟩ : ∃ j : Nat, pkI wh 8 = j := ⟨(pkI wh 8).toNat, by omega⟩
  rw [hj] at HP8 hpw
  have hj8 : j < 8 := by omega
  have hj' : (j : Int) < 8 := by omega
  have hpj := h.out.p j hj8
  have hpl : k.p < w.heap.size := h.out.fl _ (h.out.ff _ (.inr (.inl rfl)))
  have hpc := h.out.pc
  unfold maxLen at hpc
  clear hj hpw
  have HPX : Hid (∀ W, Below w.heap.size w W → Calls Try.prog 14 #[.pointer (some ⟨k.s, 0, none⟩), .agg #[.int .i64 r, .int .i64 c], .pointer (some ⟨k.x j, 0, none⟩)] W fun e w' => e = .returned (.int .i64 (if mayC r c = true then 0 else 3)) ∧ ∃ F1, BW w' F1 k (itL k (if mayC r c = true then putR R r c j else R)) R ∧ Mut F W w' ∧ ∀ b, F1 b → F b ∨ W.heap.size ≤ b) := fun W hb => (bx_put W F k _ R r c ⟨k.x j, 0, none⟩ (h.out.keep hb)).mono (by
    rintro e w' ⟨rfl, F1, b1, b2, b3⟩
    refine ⟨rfl, F1, ?_, b2, b3⟩
    cases hm : mayC r c
    · rw [hm] at b1; exact b1
    · rw [hm, if_pos rfl] at b1; rw [if_pos rfl, it_put]; simpa using b1)
  have hlen : mayC r c = true → (putR R r c j).length ≤ 1048576 := fun hm => by
    have := all_few (putL_srt h.out.srtL r c (some ⟨k.x j, 0, none⟩)) (h.out.ins.put (v := some ⟨k.x j, 0, none⟩) (mayC_is hm))
    rw [← it_len k, it_put]
    simpa using this
  have HPY : Hid (∀ W F1, BW W F1 k (itL k (if mayC r c = true then putR R r c j else R)) R → Calls Try.prog 22 #[.pointer (some ⟨k.y, 0, none⟩), .agg #[.int .i64 r, .int .i64 c], .int .i64 j] W fun e w' => e = .returned (.int .i64 (if mayC r c = true then 0 else 3)) ∧ BOut W F1 k (itL k (if mayC r c = true then putR R r c j else R)) (if mayC r c = true then putR R r c j else R) w') := fun W F1 hW => by_put W F1 k _ R r c j hW hlen
  have hgr : Hid (rngR (if mayC r c = true then putR R r c j else R)) := (show rngR _ from fun m hm => by
    split at hm
    · unfold putR at hm
      rcases List.mem_append.1 hm with q | q
      · exact hg.out m (List.mem_filter.1 q).1
      · rcases List.mem_cons.1 q with rfl | q
        · exact ⟨by simp, by simp; omega⟩
        · exact hg.out m (List.mem_filter.1 q).1
    · exact hg.out m hm)
  clear hlen
  revert HPX HPY hgr
  generalize (if mayC r c = true then (0 : Int) else 3) = ev
  generalize (if mayC r c = true then putR R r c j else R) = R'
  intro HPX HPY hgr
  go_enter Try.func9, Try.ntmps9
  go_wp2
  go_quiet ((go_at_call 21; exact Calls.quiet_of_same (HP8.out _)))
  go_wp2_with (go_at_call 21; refine (HP6.out _).mono ?_; rintro e w5 ⟨rfl, h5⟩; have h6 := h5.symm; subst h6)
  go_region_held3 (fun w' => w'.cell? ⟨k.q, 0, none⟩ = some (.pointer (some ⟨k.s, 0, none⟩)) ∧ w'.cell? ⟨k.q, 1, none⟩ = some (.pointer (some ⟨k.y, 0, none⟩)) ∧ w'.cell? ⟨k.q, 2, none⟩ = some (.slice (some ⟨k.p, 0, none⟩) 8 k.pc) ∧ w'.cell? ⟨k.p, j, none⟩ = some (.pointer (some ⟨k.x j, 0, none⟩)) ∧ w'.cell? ⟨w.heap.size, 0, none⟩ = some (.int .i64 kd) ∧ w'.cell? ⟨w.heap.size, 1, none⟩ = some (.int .i64 r) ∧ w'.cell? ⟨w.heap.size, 2, none⟩ = some (.int .i64 c) ∧ w'.cell? ⟨w.heap.size, 3, none⟩ = some (.int .i64 t) ∧ w'.cell? ⟨w.heap.size, 4, none⟩ = some (.int .i64 l) ∧ w'.cell? ⟨w.heap.size, 5, none⟩ = some (.int .i64 b) ∧ w'.cell? ⟨w.heap.size, 6, none⟩ = some (.int .i64 rr) ∧ w'.cell? ⟨w.heap.size, 7, none⟩ = some (.int .i64 wh)) ((repeat' apply And.intro) <;> (first | (go_keep; done) | (go_simp; done))) (first | (go_at_call 14; refine (HPX.out _ (by with_reducible (repeat' first | assumption | exact Below.refl _ _ | refine Below.drew ?_ | refine bdrewN ?_ _ | refine Below.setCell ?_ (by first | exact Nat.le_refl _ | (simp; done) | (simp; omega) | omega) _ | refine Below.alloc ?_ (by first | exact Nat.le_refl _ | (simp; done) | (simp; omega) | omega) _))).mono ?_; rintro e wa ⟨rfl, F1, b1, b2, b3⟩; have B1 : Hid (BW wa F1 k (itL k R') R) := b1; have owa : Own wa w.heap.size #[.int .i64 kd, .int .i64 r, .int .i64 c, .int .i64 t, .int .i64 l, .int .i64 b, .int .i64 rr, .int .i64 wh] := Own.mut (by with_reducible (repeat' first | assumption | refine Own.drew ?_ | refine Own.drewN ?_ _ | (refine Own.at ?_; first | rfl | (simp; done)) | refine Own.past ?_ _)) b2 hnb; have cwa := owa.cell; have lwa := owa.lt; have q0a : wa.cell? ⟨k.q, 0, none⟩ = some (.pointer (some ⟨k.s, 0, none⟩)) := b1.q.cell 0; have q1a : wa.cell? ⟨k.q, 1, none⟩ = some (.pointer (some ⟨k.y, 0, none⟩)) := b1.q.cell 1; have q2a : wa.cell? ⟨k.q, 2, none⟩ = some (.slice (some ⟨k.p, 0, none⟩) 8 k.pc) := b1.q.cell 2; have pja := b1.p j hj8; have BM : Hid (Mut F w wa) := (show _ from Mut.call (Mut.of_below (show Below w.heap.size w _ from by with_reducible (repeat' first | assumption | exact Below.refl _ _ | refine Below.drew ?_ | refine bdrewN ?_ _ | refine Below.setCell ?_ (by first | exact Nat.le_refl _ | (simp; done) | (simp; omega) | omega) _ | refine Below.alloc ?_ (by first | exact Nat.le_refl _ | (simp; done) | (simp; omega) | omega) _))) b2 (fun b q => .inl q)); have BF : Hid (∀ b, F1 b → F b ∨ w.heap.size ≤ b) := (show _ from fun b q => (b3 b q).imp id (fun r => Nat.le_trans (Below.size (show Below w.heap.size w _ from by with_reducible (repeat' first | assumption | exact Below.refl _ _ | refine Below.drew ?_ | refine bdrewN ?_ _ | refine Below.setCell ?_ (by first | exact Nat.le_refl _ | (simp; done) | (simp; omega) | omega) _ | refine Below.alloc ?_ (by first | exact Nat.le_refl _ | (simp; done) | (simp; omega) | omega) _))) r)); have BG : Hid (¬ F1 w.heap.size) := (show ¬ F1 w.heap.size from fun q => by rcases b3 _ q with r | r; exact hnb r; simp at r; omega); clear b1 b2 b3) | (go_at_call 22; refine (HPY.out _ F1 (B1.out.keep (by with_reducible (repeat' first | assumption | exact Below.refl _ _ | refine Below.drew ?_ | refine bdrewN ?_ _ | refine Below.setCell ?_ (by first | exact Nat.le_refl _ | (simp; done) | (simp; omega) | omega) _ | refine Below.alloc ?_ (by first | exact Nat.le_refl _ | (simp; done) | (simp; omega) | omega) _)))).mono ?_; rintro e wb ⟨rfl, b4⟩; obtain ⟨F2, e1, e2, e3⟩ := b4; have owb : Own wb w.heap.size #[.int .i64 kd, .int .i64 r, .int .i64 c, .int .i64 t, .int .i64 l, .int .i64 b, .int .i64 rr, .int .i64 wh] := Own.mut (by with_reducible (repeat' first | assumption | refine Own.drew ?_ | refine Own.drewN ?_ _ | (refine Own.at ?_; first | rfl | (simp; done)) | refine Own.past ?_ _)) e2 BG.out; have cwb := owb.cell; have q0b : wb.cell? ⟨k.q, 0, none⟩ = some (.pointer (some ⟨k.s, 0, none⟩)) := e1.q.cell 0; have q1b : wb.cell? ⟨k.q, 1, none⟩ = some (.pointer (some ⟨k.y, 0, none⟩)) := e1.q.cell 1; have q2b : wb.cell? ⟨k.q, 2, none⟩ = some (.slice (some ⟨k.p, 0, none⟩) 8 k.pc) := e1.q.cell 2; have pjb := e1.p j hj8; have B4 : Hid (BOut w F k (itL k R') R' wb) := (show _ from BOut.then BM.out BF.out (BOut.pre (show Below wa.heap.size wa _ from by with_reducible (repeat' first | assumption | exact Below.refl _ _ | refine Below.drew ?_ | refine bdrewN ?_ _ | refine Below.setCell ?_ (by first | exact Nat.le_refl _ | (simp; done) | (simp; omega) | omega) _ | refine Below.alloc ?_ (by first | exact Nat.le_refl _ | (simp; done) | (simp; omega) | omega) _)) ⟨F2, e1, e2, e3⟩)); clear e1 e2 e3))
  go_wp2
  all_goals go_ret
  all_goals first | exact ⟨rfl, R', B4.out, hgr.out⟩ | exact ⟨retB (by simp), R', B4.out, hgr.out⟩
end Go.Proofs.Ytaafpfjmnhmalaa
