/- A way of aggs.Call: what cannot be taken, a fault of the items, the answer. New memory alone is made. SUM and LARGE of the law's column of three numbers. New memory alone is made. -/
import Derived.Test.YtbpbocgbfeblmaaGreatDoorQGC0
import Derived.Test.YtbpbocgbfeblmaaGreatDoorQGQ
namespace Go.Proofs.YtbpbocgbfeblmaaGreatDoor
open Go.RowKit
set_option linter.all false
set_option maxRecDepth 100000 in
set_option maxHeartbeats 4000000 in
theorem c_an_cs (s : ByteArray) (w : World) (v : Value) (x : Int) (L : List (Ag × List En)) (hv : AV w v (L.map Prod.fst)) (hN : Hid (Nums (L.map Prod.fst))) (h40 : (L.map Prod.fst).length ≤ 1099511627776) (hE : Hid (∀ p ∈ L, AgE w p)) (h : nmI s < 18) (hx : ¬ x < 0) (hx2 : ¬ 1024 < x) (ht : takB (plI (nmI s)) (moI (nmI s)) ((L.map Prod.fst).map (·.many)) = true) (hm : L.any mnB = false) (ha : firstF (L.map Prod.fst) = none) (hF : firstN (nIx (plI (nmI s)) (L.map Prod.fst)) = 0) (hst : stI (nmI s) = true) (hfi : firstI (itms L) = none) (h7 : nmI s < 7) (rt rn : Int) (rs : ByteArray) (rb : Bool) (rc : Int) (hans : ∀ (W : World) (up : Option Addr) (um uc bb : Nat), Below w.heap.size w W → AnsB (nmI s) W bb → Hid (Row icell 1 2 W 0 (.slice up um uc) ((nIx (plI (nmI s)) (L.map Prod.fst)).map aI)) → Calls Tryz.prog (fidI (nmI s)) #[.agg #[v, .slice up um uc, .int .i64 x], .pointer (some ⟨bb, 0, none⟩)] W fun e w' => e = .returned (.agg #[.int .i64 rt, .int .i64 rn, .string rs, .bool rb, .int .i64 rc]) ∧ Below W.heap.size W w') : Calls Tryz.prog 6 #[.string s, v, .int .i64 x] w fun e w' => e = .returned (.agg #[.int .i64 rt, .int .i64 rn, .string rs, .bool rb, .int .i64 rc]) ∧ Below w.heap.size w w' := by
  have h40' : L.length ≤ 1099511627776 := by rw [List.length_map] at h40; exact h40
  have h0 : 0 < (L.map Prod.fst).length := by
    have h1 := (tak_len ht).1
    have h2 := (pl_bd _ h).1
    rw [List.length_map] at h1
    omega
  have h16 : (L.map Prod.fst).length ≤ 16 := by
    have h1 := (tak_len ht).2
    have h2 := (pl_bd _ h).2.2
    rw [List.length_map] at h1
    omega
  have hf := find_any s
  have hbd := pl_bd _ h
  have hfv := fv_c _ h7
  unfold FndP at hf
  have hcf := callf _ h
  generalize hgp : plI (nmI s) = p at *
  generalize hgm : moI (nmI s) = mo at *
  generalize hgs : stI (nmI s) = st at *
  generalize hgf : fvI (nmI s) = F at *
  generalize hgi : fidI (nmI s) = fid at *
  have HABK : Hid (∀ w w' b, AnsB (nmI s) w b → Below w.heap.size w w' → AnsB (nmI s) w' b) := (show ∀ w w' b, AnsB (nmI s) w b → Below w.heap.size w w' → AnsB (nmI s) w' b from fun _ _ _ => AnsB.keep)
  generalize hga : AnsB (nmI s) = AB at *
  have mixed : Tryz.prog.follows .mixedOrders = true := by kernel_rfl
  have hd1 : decide (x < 0) = false := by simpa using hx
  have hd2 : decide (1024 < x) = false := by simpa using hx2
  have hl : L.length ≤ 9223372036854775807 := by rw [List.length_map] at h40; omega
  have hsl : ∃ q n c, v = .slice q n c ∧ (L.map Prod.fst).length = n := by obtain ⟨q, c, e, _⟩ := hv; exact ⟨q, _, c, e, rfl⟩
  obtain ⟨vq, vn, vc, rfl, hvn0⟩ := hsl
  have hvn : Hid _ := hvn0
  clear hvn0
  have HF : Hid _ := hF
  clear hF
  subst hst
  have HAns : Hid _ := hans
  clear hans
  go_enter Tryz.func6, Tryz.ntmps6
  go_wp2_with (first | (go_at_call 14; refine (hf _ h).mono ?_; rintro e wa ⟨⟨b0, b1, b2, b3, b4, b5, b6, rfl, hT⟩, hbwa⟩; have hBwa : Below w.heap.size w wa := bup (by with_reducible (repeat' first | assumption | exact Below.refl _ _ | refine Below.drew ?_ | refine bdrewN ?_ _ | refine Below.setCell ?_ (by first | exact Nat.le_refl _ | (simp; done) | (simp; omega) | omega) _ | refine Below.alloc ?_ (by first | exact Nat.le_refl _ | (simp; done) | (simp; omega) | omega) _)) hbwa; have zwa := hBwa.size; have o0wa : Own wa (w.heap.size) #[.int .i64 0, .int .i64 0, .string ⟨#[]⟩, .bool false, .int .i64 0] := Own.keep (by with_reducible (repeat' first | assumption | refine Own.drew ?_ | refine Own.drewN ?_ _ | (refine Own.at ?_; first | rfl | (simp; done)) | refine Own.past ?_ _)) hbwa; have c0 := o0wa.cell; have f0 := o0wa.fro; have l0 := o0wa.lt; obtain ⟨bb, hfe, hAB⟩ := hfv b0 b1 b2 b3 b4 b5 b6 wa hT; rw [hfe]; clear hfe; have hva := View.keep hv hBwa))
  have o1wa : Own (wa.alloc (.cells #[.string p, .int .i64 mo, .bool true, .func (.func fid) #[] #[.pointer (some ⟨bb, 0, none⟩)]] 50)) wa.heap.size #[.string p, .int .i64 mo, .bool true, .func (.func fid) #[] #[.pointer (some ⟨bb, 0, none⟩)]] := Own.new _ _ _
  have c1 := o1wa.cell
  refine wp_region_held_drew (S := fun w' => w'.cell? ⟨wa.heap.size, 0, none⟩ = some (.string p) ∧ w'.cell? ⟨wa.heap.size, 1, none⟩ = some (.int .i64 mo) ∧ w'.cell? ⟨wa.heap.size, 2, none⟩ = some (.bool true) ∧ w'.cell? ⟨wa.heap.size, 3, none⟩ = some (.func (.func fid) #[] #[.pointer (some ⟨bb, 0, none⟩)])) (by kernel_rfl) (by (try dsimp only); ((repeat' apply And.intro) <;> (first | (go_keep; done) | (go_simp; done)))) (fun hHeld => ?_)
  refine wpAnyH_take (i := 0) (v := (.int .i64 x)) rfl (by kernel_rfl) (by kernel_rfl) (by kernel_rfl) (fun _ _ _ h => h) (Or.inl ⟨by first | rfl | kernel_rfl, by intro wz hSw; (try dsimp only at hSw); go_simp⟩) (by assumption) ?_
  (try simp only [Act.put, List.getElem_toArray, List.getElem_cons_succ, List.getElem_cons_zero, List.setIfInBounds_toArray, List.set_cons_zero, List.set_cons_succ])
  refine wpAnyH_take (i := 1) (v := (.bool false)) rfl (by kernel_rfl) (by kernel_rfl) (by kernel_rfl) (fun _ _ _ h => h) (Or.inl ⟨by first | rfl | kernel_rfl, by intro wz hSw; (try dsimp only at hSw); go_simp⟩) (by assumption) ?_
  (try simp only [Act.put, List.getElem_toArray, List.getElem_cons_succ, List.getElem_cons_zero, List.setIfInBounds_toArray, List.set_cons_zero, List.set_cons_succ])
  refine wpAnyH_take (i := 2) (v := (.bool false)) rfl (by kernel_rfl) (by kernel_rfl) (by kernel_rfl) (fun _ _ _ h => h) (Or.inl ⟨by first | rfl | kernel_rfl, by intro wz hSw; (try dsimp only at hSw); go_simp⟩) (by assumption) ?_
  (try simp only [Act.put, List.getElem_toArray, List.getElem_cons_succ, List.getElem_cons_zero, List.setIfInBounds_toArray, List.set_cons_zero, List.set_cons_succ])
  refine wpAnyH_take (i := 3) (v := (.int .i64 x)) rfl (by kernel_rfl) (by kernel_rfl) (by kernel_rfl) (fun _ _ _ h => h) (Or.inl ⟨by first | rfl | kernel_rfl, by intro wz hSw; (try dsimp only at hSw); go_simp⟩) (by assumption) ?_
  (try simp only [Act.put, List.getElem_toArray, List.getElem_cons_succ, List.getElem_cons_zero, List.setIfInBounds_toArray, List.set_cons_zero, List.set_cons_succ])
  refine wpAnyH_take (i := 4) (v := (.bool false)) rfl (by kernel_rfl) (by kernel_rfl) (by kernel_rfl) (fun _ _ _ h => h) (Or.inl ⟨by first | rfl | kernel_rfl, by intro wz hSw; (try dsimp only at hSw); go_simp⟩) (by assumption) ?_
  (try simp only [Act.put, List.getElem_toArray, List.getElem_cons_succ, List.getElem_cons_zero, List.setIfInBounds_toArray, List.set_cons_zero, List.set_cons_succ])
  refine wpAnyH_take (i := 5) (v := (.bool false)) rfl (by kernel_rfl) (by kernel_rfl) (by kernel_rfl) (fun _ _ _ h => h) (Or.inl ⟨by first | rfl | kernel_rfl, by intro wz hSw; (try dsimp only at hSw); go_simp⟩) (by assumption) ?_
  (try simp only [Act.put, List.getElem_toArray, List.getElem_cons_succ, List.getElem_cons_zero, List.setIfInBounds_toArray, List.set_cons_zero, List.set_cons_succ])
  refine wpAnyH_take (i := 6) (v := (.bool false)) rfl (by kernel_rfl) (by kernel_rfl) (by kernel_rfl) (fun _ _ _ h => h) (Or.inl ⟨by first | rfl | kernel_rfl, by intro wz hSw; (try dsimp only at hSw); go_simp⟩) (by assumption) ?_
  (try simp only [Act.put, List.getElem_toArray, List.getElem_cons_succ, List.getElem_cons_zero, List.setIfInBounds_toArray, List.set_cons_zero, List.set_cons_succ])
  refine wpAnyH_take (i := 7) (v := (.bool true)) rfl (by kernel_rfl) (by kernel_rfl) (by kernel_rfl) (fun _ _ _ h => h) (Or.inl ⟨by first | rfl | kernel_rfl, by intro wz hSw; (try dsimp only at hSw); go_simp⟩) (by assumption) ?_
  (try simp only [Act.put, List.getElem_toArray, List.getElem_cons_succ, List.getElem_cons_zero, List.setIfInBounds_toArray, List.set_cons_zero, List.set_cons_succ])
  refine wpAnyH_take (i := 8) (v := (.bool false)) rfl (by kernel_rfl) (by kernel_rfl) (by kernel_rfl) (fun _ _ _ h => h) (Or.inl ⟨by first | rfl | kernel_rfl, by intro wz hSw; (try dsimp only at hSw); go_simp⟩) (by assumption) ?_
  (try simp only [Act.put, List.getElem_toArray, List.getElem_cons_succ, List.getElem_cons_zero, List.setIfInBounds_toArray, List.set_cons_zero, List.set_cons_succ])
  refine wpAnyH_take (i := 9) (v := (.bool false)) rfl (by kernel_rfl) (by kernel_rfl) (by kernel_rfl) (fun _ _ _ h => h) (Or.inl ⟨by first | rfl | kernel_rfl, by intro wz hSw; (try dsimp only at hSw); go_simp⟩) (by assumption) ?_
  (try simp only [Act.put, List.getElem_toArray, List.getElem_cons_succ, List.getElem_cons_zero, List.setIfInBounds_toArray, List.set_cons_zero, List.set_cons_succ])
  refine wpAnyH_take (i := 10) (v := (.bool false)) rfl (by kernel_rfl) (by kernel_rfl) (by kernel_rfl) (fun _ _ _ h => h) (Or.inl ⟨by first | rfl | kernel_rfl, by intro wz hSw; (try dsimp only at hSw); go_simp⟩) (by assumption) ?_
  (try simp only [Act.put, List.getElem_toArray, List.getElem_cons_succ, List.getElem_cons_zero, List.setIfInBounds_toArray, List.set_cons_zero, List.set_cons_succ])
  refine wpAnyH_take (i := 11) (v := (.agg #[.string p, .int .i64 mo, .bool true, .func (.func fid) #[] #[.pointer (some ⟨bb, 0, none⟩)]])) rfl (by kernel_rfl) (by kernel_rfl) (by kernel_rfl) (fun _ _ _ h => h) (Or.inl ⟨by first | rfl | kernel_rfl, by intro wz hSw; (try dsimp only at hSw); go_simp⟩) (by assumption) ?_
  (try simp only [Act.put, List.getElem_toArray, List.getElem_cons_succ, List.getElem_cons_zero, List.setIfInBounds_toArray, List.set_cons_zero, List.set_cons_succ])
  refine wpAnyH_take (i := 12) (v := (.slice vq vn vc)) rfl (by kernel_rfl) (by kernel_rfl) (by kernel_rfl) (fun _ _ _ h => h) (Or.inl ⟨by first | rfl | kernel_rfl, by intro wz hSw; (try dsimp only at hSw); go_simp⟩) (by assumption) ?_
  (try simp only [Act.put, List.getElem_toArray, List.getElem_cons_succ, List.getElem_cons_zero, List.setIfInBounds_toArray, List.set_cons_zero, List.set_cons_succ])
  refine wpAnyH_ready (rs := [13]) (by kernel_rfl) (by simp) ?_
  refine AllReadyH.cons rfl (fun K hK => ?_) ?_
  · go_simp
    (go_at_call 16; refine (rects_n _ _ _ _ (View.keep hv (by with_reducible (repeat' first | assumption | exact Below.refl _ _ | refine Below.drew ?_ | refine bdrewN ?_ _ | refine Below.setCell ?_ (by first | exact Nat.le_refl _ | (simp; done) | (simp; omega) | omega) _ | refine Below.alloc ?_ (by first | exact Nat.le_refl _ | (simp; done) | (simp; omega) | omega) _))) hN h40 hvn).mono ?_; rintro e wr ⟨⟨rp, rcp, rfl, hbv⟩, hbwr⟩; have hBwr : Below w.heap.size w wr := bup (by with_reducible (repeat' first | assumption | exact Below.refl _ _ | refine Below.drew ?_ | refine bdrewN ?_ _ | refine Below.setCell ?_ (by first | exact Nat.le_refl _ | (simp; done) | (simp; omega) | omega) _ | refine Below.alloc ?_ (by first | exact Nat.le_refl _ | (simp; done) | (simp; omega) | omega) _)) hbwr; have zwr := hBwr.size; have o0wr : Own wr (w.heap.size) #[.int .i64 0, .int .i64 0, .string ⟨#[]⟩, .bool false, .int .i64 0] := Own.keep (by with_reducible (repeat' first | assumption | refine Own.drew ?_ | refine Own.drewN ?_ _ | (refine Own.at ?_; first | rfl | (simp; done)) | refine Own.past ?_ _)) hbwr; have c0 := o0wr.cell; have f0 := o0wr.fro; have l0 := o0wr.lt; have o1wr : Own wr (wa.heap.size) #[.string p, .int .i64 mo, .bool true, .func (.func fid) #[] #[.pointer (some ⟨bb, 0, none⟩)]] := Own.keep (by with_reducible (repeat' first | assumption | refine Own.drew ?_ | refine Own.drewN ?_ _ | (refine Own.at ?_; first | rfl | (simp; done)) | refine Own.past ?_ _)) hbwr; have c1 := o1wr.cell; have f1 := o1wr.fro; have l1 := o1wr.lt; have hBawr : Below wa.heap.size wa wr := bup (by with_reducible (repeat' first | assumption | exact Below.refl _ _ | refine Below.drew ?_ | refine bdrewN ?_ _ | refine Below.setCell ?_ (by first | exact Nat.le_refl _ | (simp; done) | (simp; omega) | omega) _ | refine Below.alloc ?_ (by first | exact Nat.le_refl _ | (simp; done) | (simp; omega) | omega) _)) hbwr)
    go_wp2_with fail
    refine hK.out _ _ (by (try dsimp only); first | (with_reducible assumption) | ((repeat' apply And.intro) <;> (first | (go_keep; done) | (go_simp; done)))) (fun hHeld => ?_)
    clear hK K
    (try simp only [Act.put, List.getElem_toArray, List.getElem_cons_succ, List.getElem_cons_zero, List.setIfInBounds_toArray, List.set_cons_zero, List.set_cons_succ])
    refine wpAnyH_ready (rs := [14]) (by kernel_rfl) (by simp) ?_
    refine AllReadyH.cons rfl (fun K hK => ?_) ?_
    · go_simp
      (go_at_call 15; refine (takes_any _ _ _ _ _ _ _ _ _ hbv.out hbd.1 hbd.2.1 hbd.2.2).mono ?_; rintro e wt ⟨rfl, hbwt⟩; have hBwt : Below w.heap.size w wt := bup (by with_reducible (repeat' first | assumption | exact Below.refl _ _ | refine Below.drew ?_ | refine bdrewN ?_ _ | refine Below.setCell ?_ (by first | exact Nat.le_refl _ | (simp; done) | (simp; omega) | omega) _ | refine Below.alloc ?_ (by first | exact Nat.le_refl _ | (simp; done) | (simp; omega) | omega) _)) hbwt; have zwt := hBwt.size; have o0wt : Own wt (w.heap.size) #[.int .i64 0, .int .i64 0, .string ⟨#[]⟩, .bool false, .int .i64 0] := Own.keep (by with_reducible (repeat' first | assumption | refine Own.drew ?_ | refine Own.drewN ?_ _ | (refine Own.at ?_; first | rfl | (simp; done)) | refine Own.past ?_ _)) hbwt; have c0 := o0wt.cell; have f0 := o0wt.fro; have l0 := o0wt.lt; have o1wt : Own wt (wa.heap.size) #[.string p, .int .i64 mo, .bool true, .func (.func fid) #[] #[.pointer (some ⟨bb, 0, none⟩)]] := Own.keep (by with_reducible (repeat' first | assumption | refine Own.drew ?_ | refine Own.drewN ?_ _ | (refine Own.at ?_; first | rfl | (simp; done)) | refine Own.past ?_ _)) hbwt; have c1 := o1wt.cell; have f1 := o1wt.fro; have l1 := o1wt.lt; have hBawt : Below wa.heap.size wa wt := bup (by with_reducible (repeat' first | assumption | exact Below.refl _ _ | refine Below.drew ?_ | refine bdrewN ?_ _ | refine Below.setCell ?_ (by first | exact Nat.le_refl _ | (simp; done) | (simp; omega) | omega) _ | refine Below.alloc ?_ (by first | exact Nat.le_refl _ | (simp; done) | (simp; omega) | omega) _)) hbwt; rw [ht])
      go_wp2_with fail
      refine hK.out _ _ (by (try dsimp only); first | (with_reducible assumption) | ((repeat' apply And.intro) <;> (first | (go_keep; done) | (go_simp; done)))) (fun hHeld => ?_)
      clear hK K
      (try simp only [Act.put, List.getElem_toArray, List.getElem_cons_succ, List.getElem_cons_zero, List.setIfInBounds_toArray, List.set_cons_zero, List.set_cons_succ])
      refine wpAnyH_take (i := 15) (v := (.bool false)) rfl (by kernel_rfl) (by kernel_rfl) (by kernel_rfl) (fun _ _ _ h => h) (Or.inl ⟨by first | rfl | kernel_rfl, by intro wz hSw; (try dsimp only at hSw); go_simp⟩) (by assumption) ?_
      (try simp only [Act.put, List.getElem_toArray, List.getElem_cons_succ, List.getElem_cons_zero, List.setIfInBounds_toArray, List.set_cons_zero, List.set_cons_succ])
      refine wpAnyH_take (i := 16) (v := (.bool false)) rfl (by kernel_rfl) (by kernel_rfl) (by kernel_rfl) (fun _ _ _ h => h) (Or.inl ⟨by first | rfl | kernel_rfl, by intro wz hSw; (try dsimp only at hSw); go_simp⟩) (by assumption) ?_
      (try simp only [Act.put, List.getElem_toArray, List.getElem_cons_succ, List.getElem_cons_zero, List.setIfInBounds_toArray, List.set_cons_zero, List.set_cons_succ])
      refine wpAnyH_take (i := 17) (v := (.bool false)) rfl (by kernel_rfl) (by kernel_rfl) (by kernel_rfl) (fun _ _ _ h => h) (Or.inl ⟨by first | rfl | kernel_rfl, by intro wz hSw; (try dsimp only at hSw); go_simp⟩) (by assumption) ?_
      (try simp only [Act.put, List.getElem_toArray, List.getElem_cons_succ, List.getElem_cons_zero, List.setIfInBounds_toArray, List.set_cons_zero, List.set_cons_succ])
      refine wpAnyH_take (i := 18) (v := (.slice vq vn vc)) rfl (by kernel_rfl) (by kernel_rfl) (by kernel_rfl) (fun _ _ _ h => h) (Or.inl ⟨by first | rfl | kernel_rfl, by intro wz hSw; (try dsimp only at hSw); go_simp⟩) (by assumption) ?_
      (try simp only [Act.put, List.getElem_toArray, List.getElem_cons_succ, List.getElem_cons_zero, List.setIfInBounds_toArray, List.set_cons_zero, List.set_cons_succ])
      refine wpAnyH_ready (rs := [19]) (by kernel_rfl) (by simp) ?_
      refine AllReadyH.cons rfl (fun K hK => ?_) ?_
      · go_simp
        (go_at_call 17; refine (contm_any _ _ _ (View.keep hv (by with_reducible (repeat' first | assumption | exact Below.refl _ _ | refine Below.drew ?_ | refine bdrewN ?_ _ | refine Below.setCell ?_ (by first | exact Nat.le_refl _ | (simp; done) | (simp; omega) | omega) _ | refine Below.alloc ?_ (by first | exact Nat.le_refl _ | (simp; done) | (simp; omega) | omega) _))) hl (show Hid _ from fun p hp => (hE.out p hp).keep (by with_reducible (repeat' first | assumption | exact Below.refl _ _ | refine Below.drew ?_ | refine bdrewN ?_ _ | refine Below.setCell ?_ (by first | exact Nat.le_refl _ | (simp; done) | (simp; omega) | omega) _ | refine Below.alloc ?_ (by first | exact Nat.le_refl _ | (simp; done) | (simp; omega) | omega) _)))).mono ?_; rintro e wc ⟨rfl, hbwc⟩; have hBwc : Below w.heap.size w wc := bup (by with_reducible (repeat' first | assumption | exact Below.refl _ _ | refine Below.drew ?_ | refine bdrewN ?_ _ | refine Below.setCell ?_ (by first | exact Nat.le_refl _ | (simp; done) | (simp; omega) | omega) _ | refine Below.alloc ?_ (by first | exact Nat.le_refl _ | (simp; done) | (simp; omega) | omega) _)) hbwc; have zwc := hBwc.size; have o0wc : Own wc (w.heap.size) #[.int .i64 0, .int .i64 0, .string ⟨#[]⟩, .bool false, .int .i64 0] := Own.keep (by with_reducible (repeat' first | assumption | refine Own.drew ?_ | refine Own.drewN ?_ _ | (refine Own.at ?_; first | rfl | (simp; done)) | refine Own.past ?_ _)) hbwc; have c0 := o0wc.cell; have f0 := o0wc.fro; have l0 := o0wc.lt; have o1wc : Own wc (wa.heap.size) #[.string p, .int .i64 mo, .bool true, .func (.func fid) #[] #[.pointer (some ⟨bb, 0, none⟩)]] := Own.keep (by with_reducible (repeat' first | assumption | refine Own.drew ?_ | refine Own.drewN ?_ _ | (refine Own.at ?_; first | rfl | (simp; done)) | refine Own.past ?_ _)) hbwc; have c1 := o1wc.cell; have f1 := o1wc.fro; have l1 := o1wc.lt; have hBawc : Below wa.heap.size wa wc := bup (by with_reducible (repeat' first | assumption | exact Below.refl _ _ | refine Below.drew ?_ | refine bdrewN ?_ _ | refine Below.setCell ?_ (by first | exact Nat.le_refl _ | (simp; done) | (simp; omega) | omega) _ | refine Below.alloc ?_ (by first | exact Nat.le_refl _ | (simp; done) | (simp; omega) | omega) _)) hbwc; rw [hm])
        go_wp2_with fail
        refine hK.out _ _ (by (try dsimp only); first | (with_reducible assumption) | ((repeat' apply And.intro) <;> (first | (go_keep; done) | (go_simp; done)))) (fun hHeld => ?_)
        clear hK K
        (try simp only [Act.put, List.getElem_toArray, List.getElem_cons_succ, List.getElem_cons_zero, List.setIfInBounds_toArray, List.set_cons_zero, List.set_cons_succ])
        refine wpAnyH_take (i := 20) (v := (.bool false)) rfl (by kernel_rfl) (by kernel_rfl) (by kernel_rfl) (fun _ _ _ h => h) (Or.inl ⟨by first | rfl | kernel_rfl, by intro wz hSw; (try dsimp only at hSw); go_simp⟩) (by assumption) ?_
        (try simp only [Act.put, List.getElem_toArray, List.getElem_cons_succ, List.getElem_cons_zero, List.setIfInBounds_toArray, List.set_cons_zero, List.set_cons_succ])
        refine wpAnyH_done (by kernel_rfl) ?_ _
        have hAB2 : ∀ W, Below wa.heap.size wa W → AB W bb := fun W hW => HABK.out _ _ _ hAB hW
        go_wp2_with (first | (go_at_call 20; refine (fault_any _ _ _ (View.keep hv (by with_reducible (repeat' first | assumption | exact Below.refl _ _ | refine Below.drew ?_ | refine bdrewN ?_ _ | refine Below.setCell ?_ (by first | exact Nat.le_refl _ | (simp; done) | (simp; omega) | omega) _ | refine Below.alloc ?_ (by first | exact Nat.le_refl _ | (simp; done) | (simp; omega) | omega) _))) (by rw [List.length_map]; exact hl) hN).mono ?_; rintro e wd ⟨rfl, hbwd⟩; have hBwd : Below w.heap.size w wd := bup (by with_reducible (repeat' first | assumption | exact Below.refl _ _ | refine Below.drew ?_ | refine bdrewN ?_ _ | refine Below.setCell ?_ (by first | exact Nat.le_refl _ | (simp; done) | (simp; omega) | omega) _ | refine Below.alloc ?_ (by first | exact Nat.le_refl _ | (simp; done) | (simp; omega) | omega) _)) hbwd; have zwd := hBwd.size; have o0wd : Own wd (w.heap.size) #[.int .i64 0, .int .i64 0, .string ⟨#[]⟩, .bool false, .int .i64 0] := Own.keep (by with_reducible (repeat' first | assumption | refine Own.drew ?_ | refine Own.drewN ?_ _ | (refine Own.at ?_; first | rfl | (simp; done)) | refine Own.past ?_ _)) hbwd; have c0 := o0wd.cell; have f0 := o0wd.fro; have l0 := o0wd.lt; have o1wd : Own wd (wa.heap.size) #[.string p, .int .i64 mo, .bool true, .func (.func fid) #[] #[.pointer (some ⟨bb, 0, none⟩)]] := Own.keep (by with_reducible (repeat' first | assumption | refine Own.drew ?_ | refine Own.drewN ?_ _ | (refine Own.at ?_; first | rfl | (simp; done)) | refine Own.past ?_ _)) hbwd; have c1 := o1wd.cell; have f1 := o1wd.fro; have l1 := o1wd.lt; have hBawd : Below wa.heap.size wa wd := bup (by with_reducible (repeat' first | assumption | exact Below.refl _ _ | refine Below.drew ?_ | refine bdrewN ?_ _ | refine Below.setCell ?_ (by first | exact Nat.le_refl _ | (simp; done) | (simp; omega) | omega) _ | refine Below.alloc ?_ (by first | exact Nat.le_refl _ | (simp; done) | (simp; omega) | omega) _)) hbwd; rw [ha]; dsimp only [faultOut, v0]) | (go_at_call 21; refine (wholes_ok _ _ _ (View.keep hv (by with_reducible (repeat' first | assumption | exact Below.refl _ _ | refine Below.drew ?_ | refine bdrewN ?_ _ | refine Below.setCell ?_ (by first | exact Nat.le_refl _ | (simp; done) | (simp; omega) | omega) _ | refine Below.alloc ?_ (by first | exact Nat.le_refl _ | (simp; done) | (simp; omega) | omega) _))) hN h0 h16 _ _ _ _ _ _ hbd.1 hbd.2.1 HF.out).mono ?_; rintro e we ⟨⟨up, um, uc, rfl, hrow⟩, hbwe⟩; have hBwe : Below w.heap.size w we := bup (by with_reducible (repeat' first | assumption | exact Below.refl _ _ | refine Below.drew ?_ | refine bdrewN ?_ _ | refine Below.setCell ?_ (by first | exact Nat.le_refl _ | (simp; done) | (simp; omega) | omega) _ | refine Below.alloc ?_ (by first | exact Nat.le_refl _ | (simp; done) | (simp; omega) | omega) _)) hbwe; have zwe := hBwe.size; have o0we : Own we (w.heap.size) #[.int .i64 0, .int .i64 0, .string ⟨#[]⟩, .bool false, .int .i64 0] := Own.keep (by with_reducible (repeat' first | assumption | refine Own.drew ?_ | refine Own.drewN ?_ _ | (refine Own.at ?_; first | rfl | (simp; done)) | refine Own.past ?_ _)) hbwe; have c0 := o0we.cell; have f0 := o0we.fro; have l0 := o0we.lt; have o1we : Own we (wa.heap.size) #[.string p, .int .i64 mo, .bool true, .func (.func fid) #[] #[.pointer (some ⟨bb, 0, none⟩)]] := Own.keep (by with_reducible (repeat' first | assumption | refine Own.drew ?_ | refine Own.drewN ?_ _ | (refine Own.at ?_; first | rfl | (simp; done)) | refine Own.past ?_ _)) hbwe; have c1 := o1we.cell; have f1 := o1we.fro; have l1 := o1we.lt; have hBawe : Below wa.heap.size wa we := bup (by with_reducible (repeat' first | assumption | exact Below.refl _ _ | refine Below.drew ?_ | refine bdrewN ?_ _ | refine Below.setCell ?_ (by first | exact Nat.le_refl _ | (simp; done) | (simp; omega) | omega) _ | refine Below.alloc ?_ (by first | exact Nat.le_refl _ | (simp; done) | (simp; omega) | omega) _)) hbwe) | (go_at_call 22; refine (ff_any _ _ _ (View.keep hv (by with_reducible (repeat' first | assumption | exact Below.refl _ _ | refine Below.drew ?_ | refine bdrewN ?_ _ | refine Below.setCell ?_ (by first | exact Nat.le_refl _ | (simp; done) | (simp; omega) | omega) _ | refine Below.alloc ?_ (by first | exact Nat.le_refl _ | (simp; done) | (simp; omega) | omega) _))) h40' (show Hid _ from fun p hp => (hE.out p hp).keep (by with_reducible (repeat' first | assumption | exact Below.refl _ _ | refine Below.drew ?_ | refine bdrewN ?_ _ | refine Below.setCell ?_ (by first | exact Nat.le_refl _ | (simp; done) | (simp; omega) | omega) _ | refine Below.alloc ?_ (by first | exact Nat.le_refl _ | (simp; done) | (simp; omega) | omega) _)))).mono ?_; rintro e wf ⟨rfl, hbwf⟩; have hBwf : Below w.heap.size w wf := bup (by with_reducible (repeat' first | assumption | exact Below.refl _ _ | refine Below.drew ?_ | refine bdrewN ?_ _ | refine Below.setCell ?_ (by first | exact Nat.le_refl _ | (simp; done) | (simp; omega) | omega) _ | refine Below.alloc ?_ (by first | exact Nat.le_refl _ | (simp; done) | (simp; omega) | omega) _)) hbwf; have zwf := hBwf.size; have o0wf : Own wf (w.heap.size) #[.int .i64 0, .int .i64 0, .string ⟨#[]⟩, .bool false, .int .i64 0] := Own.keep (by with_reducible (repeat' first | assumption | refine Own.drew ?_ | refine Own.drewN ?_ _ | (refine Own.at ?_; first | rfl | (simp; done)) | refine Own.past ?_ _)) hbwf; have c0 := o0wf.cell; have f0 := o0wf.fro; have l0 := o0wf.lt; have o1wf : Own wf (wa.heap.size) #[.string p, .int .i64 mo, .bool true, .func (.func fid) #[] #[.pointer (some ⟨bb, 0, none⟩)]] := Own.keep (by with_reducible (repeat' first | assumption | refine Own.drew ?_ | refine Own.drewN ?_ _ | (refine Own.at ?_; first | rfl | (simp; done)) | refine Own.past ?_ _)) hbwf; have c1 := o1wf.cell; have f1 := o1wf.fro; have l1 := o1wf.lt; have hBawf : Below wa.heap.size wa wf := bup (by with_reducible (repeat' first | assumption | exact Below.refl _ _ | refine Below.drew ?_ | refine bdrewN ?_ _ | refine Below.setCell ?_ (by first | exact Nat.le_refl _ | (simp; done) | (simp; omega) | omega) _ | refine Below.alloc ?_ (by first | exact Nat.le_refl _ | (simp; done) | (simp; omega) | omega) _)) hbwf; rw [hfi]; dsimp only [faultI, v0, itV]; have hrow2 : Hid (Row icell 1 2 wf 0 (.slice up um uc) ((nIx p (L.map Prod.fst)).map aI)) := (show Row icell 1 2 wf 0 (.slice up um uc) ((nIx p (L.map Prod.fst)).map aI) from Row.keep hrow.out hbwf); have hrow3 : ∀ o, Hid (Row icell 1 2 (wf.alloc o) 0 (.slice up um uc) ((nIx p (L.map Prod.fst)).map aI)) := (fun o => (show Row icell 1 2 (wf.alloc o) 0 (.slice up um uc) ((nIx p (L.map Prod.fst)).map aI) from Row.past hrow2.out o))) | (with_reducible refine (HAns.out _ _ _ _ _ (by with_reducible (repeat' first | assumption | exact Below.refl _ _ | refine Below.drew ?_ | refine bdrewN ?_ _ | refine Below.setCell ?_ (by first | exact Nat.le_refl _ | (simp; done) | (simp; omega) | omega) _ | refine Below.alloc ?_ (by first | exact Nat.le_refl _ | (simp; done) | (simp; omega) | omega) _)) (hAB2 _ (by with_reducible (repeat' first | assumption | exact Below.refl _ _ | refine Below.drew ?_ | refine bdrewN ?_ _ | refine Below.setCell ?_ (by first | exact Nat.le_refl _ | (simp; done) | (simp; omega) | omega) _ | refine Below.alloc ?_ (by first | exact Nat.le_refl _ | (simp; done) | (simp; omega) | omega) _))) (hrow3 _)).mono ?_; rintro e wz ⟨rfl, hbwz⟩; have hBwz : Below w.heap.size w wz := bup (by with_reducible (repeat' first | assumption | exact Below.refl _ _ | refine Below.drew ?_ | refine bdrewN ?_ _ | refine Below.setCell ?_ (by first | exact Nat.le_refl _ | (simp; done) | (simp; omega) | omega) _ | refine Below.alloc ?_ (by first | exact Nat.le_refl _ | (simp; done) | (simp; omega) | omega) _)) hbwz; have zwz := hBwz.size; have o0wz : Own wz (w.heap.size) #[.int .i64 0, .int .i64 0, .string ⟨#[]⟩, .bool false, .int .i64 0] := Own.keep (by with_reducible (repeat' first | assumption | refine Own.drew ?_ | refine Own.drewN ?_ _ | (refine Own.at ?_; first | rfl | (simp; done)) | refine Own.past ?_ _)) hbwz; have c0 := o0wz.cell; have f0 := o0wz.fro; have l0 := o0wz.lt))
        exact bodyPost_ret (v := (.agg #[.int .i64 rt, .int .i64 rn, .string rs, .bool rb, .int .i64 rc])) (by simp [results, Tryz.results6, go_sem, c0, f0, l0]) rfl ⟨rfl, by with_reducible (repeat' first | assumption | exact Below.refl _ _ | refine Below.drew ?_ | refine bdrewN ?_ _ | refine Below.setCell ?_ (by first | exact Nat.le_refl _ | (simp; done) | (simp; omega) | omega) _ | refine Below.alloc ?_ (by first | exact Nat.le_refl _ | (simp; done) | (simp; omega) | omega) _)⟩
      exact AllReadyH.nil
    exact AllReadyH.nil
  exact AllReadyH.nil
end Go.Proofs.YtbpbocgbfeblmaaGreatDoor
namespace Go.Proofs.YtbpbocgbfeblmaaGreatDoor
open Go.RowKit
set_option linter.all false
/-- The column of the law's own known calls. -/
def agC (p : Option Addr) (c : Nat) : Ag := ⟨true, 0, 0, ⟨#[]⟩, false, 0, 1, 1, 3, 1, p, 3, c⟩
def es3 : List En := colE [20000, 50000, 10000]
def sg2 : Ag := ⟨false, 1, 20000, ⟨#[]⟩, false, 0, 0, 0, 0, 0, none, 0, 0⟩
theorem callf_sum (args : Array Value) (W : World) : (callFunc 73 args).run Tryz.prog W = .ok (.enter 73 args) W := by kernel_rfl
theorem nm_sum : nmI ⟨#[83, 85, 77]⟩ = 0 := by decide
theorem nm_large : nmI ⟨#[76, 65, 82, 71, 69]⟩ = 14 := by decide
theorem mn_c (p : Option Addr) (c : Nat) : mnB (agC p c, es3) = false := by
  show (!vz5 0 0 ⟨#[]⟩ false 0 || !Ad.mayR 1 1 3 1 || !entsB 1 1 3 1 es3) = false
  decide
theorem nums_c (p : Option Addr) (c : Nat) : numsI (itms [(agC p c, es3)]) = [20000, 50000, 10000] := rfl
theorem first_c (p : Option Addr) (c : Nat) : firstI (itms [(agC p c, es3)]) = none := rfl
theorem first_c2 (p : Option Addr) (c : Nat) : firstI (itms [(agC p c, es3), (sg2, [])]) = none := rfl
theorem sum_call (W : World) (v : Value) (p : Option Addr) (c : Nat) (hv : AV W v [agC p c]) (hE : AgE W (agC p c, es3)) : Calls Tryz.prog 6 #[.string ⟨#[83, 85, 77]⟩, v, .int .i64 8] W fun e w' => e = .returned (.agg #[.int .i64 (1), .int .i64 (80000), .string ⟨#[]⟩, .bool false, .int .i64 (0)]) ∧ Below W.heap.size W w' := by
  have hE1 : ∀ q ∈ [(agC p c, es3)], AgE W q := fun q hq => by simp at hq; subst hq; exact hE
  refine c_an_cs ⟨#[83, 85, 77]⟩ W v 8 [(agC p c, es3)] hv (show Hid _ from fun a ha => by simp at ha; subst ha; exact (show I64 0 from ⟨by decide, by decide⟩)) (show 1 ≤ 1099511627776 by decide) hE1 (by rw [nm_sum]; decide) (by decide) (by decide)
    (by rw [nm_sum]; rfl) (by rw [List.any_cons, mn_c]; rfl) rfl (by rw [nm_sum]; rfl) (by rw [nm_sum]; rfl) (first_c p c) (by rw [nm_sum]; decide) 1 80000 ⟨#[]⟩ false 0 ?_
  intro W2 up um uc bb hW hAB hrow
  rw [nm_sum] at hAB ⊢
  have hv2 := View.keep hv hW
  obtain ⟨vq, vc, rfl, hcc, hf⟩ := hv2
  refine ofa_any 73 bb callf_sum W2 vq up _ vc um uc 8 [(agC p c, es3)] ⟨vq, vc, rfl, hcc, hf⟩ (show 1 ≤ 1099511627776 by decide) (show Hid _ from fun q hq => (hE1 q hq).keep hW) (show 3 ≤ 1099511627776 by decide) hAB 1 80000 ⟨#[]⟩ false 0 (show Hid _ from fun W3 q m c3 h => ?_)
  have hx := sum_any W3 q m c3 _ h.out.1 (by have := h.out.1.len; rw [nums_c] at this; simp at this; omega) (show Hid _ from fun x hx => by rw [nums_c] at hx; simp at hx; rcases hx with h | h | h <;> subst h <;> exact ⟨by decide, by decide⟩)
  rw [nums_c] at hx
  exact hx.mono fun e w' ⟨he, hb⟩ => ⟨he, Mut.below (Mut.refl _ _) hb⟩
theorem srt_3 : (srt [20000, 50000, 10000])[1]? = some 20000 := by unfold srt; simp [List.mergeSort, List.MergeSort.Internal.splitInTwo]
theorem view_first {w : World} {q : Option Addr} {n c : Nat} {a b : Ag} (h : AV w (.slice q n c) [a, b]) : ∃ ab ao, q = some ⟨ab, ao, none⟩ ∧ n = 2 ∧ 2 ≤ c ∧ AV w (.slice (some ⟨ab, ao, none⟩) 1 c) [a] := by
  obtain ⟨p, c', e, hc, hf⟩ := h
  injection e with e1 e2 e3
  subst e1 e2 e3
  obtain ⟨ab, ao, rfl, hl, hcell⟩ := hf (by simp)
  refine ⟨ab, ao, rfl, rfl, hc, _, _, rfl, ?_, fun _ => ⟨ab, ao, rfl, hl, fun i x hi j hj => ?_⟩⟩
  · exact Nat.le_trans (by decide : 1 ≤ 2) hc
  · have h0 : i = 0 := by
      have := (List.getElem?_eq_some_iff.1 hi).1
      simp at this; omega
    subst h0
    exact hcell 0 x (by simpa using hi) j hj
theorem large_call (W : World) (v : Value) (p : Option Addr) (c : Nat) (hv : AV W v [agC p c, sg2]) (hE : AgE W (agC p c, es3)) : Calls Tryz.prog 6 #[.string ⟨#[76, 65, 82, 71, 69]⟩, v, .int .i64 8] W fun e w' => e = .returned (.agg #[.int .i64 (1), .int .i64 (20000), .string ⟨#[]⟩, .bool false, .int .i64 (0)]) ∧ Below W.heap.size W w' := by
  have hEs : AgE W (sg2, []) := ⟨⟨none, 0, rfl, Nat.le_refl _, fun h => absurd h (by simp)⟩, fun x hx => (by cases hx), (show I64 20000 from ⟨by decide, by decide⟩), by simp⟩
  have hE1 : ∀ q ∈ [(agC p c, es3), (sg2, [])], AgE W q := fun q hq => by
    simp at hq
    rcases hq with h | h
    · subst h; exact hE
    · subst h; exact hEs
  refine c_an_ps ⟨#[76, 65, 82, 71, 69]⟩ W v 8 [(agC p c, es3), (sg2, [])] hv (show Hid _ from fun a ha => by
      simp at ha
      rcases ha with h | h
      · subst h; exact (show I64 0 from ⟨by decide, by decide⟩)
      · subst h; exact (show I64 20000 from ⟨by decide, by decide⟩)) (show 2 ≤ 1099511627776 by decide) hE1 (by rw [nm_large]; decide) (by decide) (by decide)
    (by rw [nm_large]; rfl) (by rw [List.any_cons, mn_c]; rfl) rfl (by rw [nm_large]; rfl) (by rw [nm_large]; rfl) (first_c2 p c) (by rw [nm_large]; decide) 1 20000 ⟨#[]⟩ false 0 ?_
  intro W2 up um uc hW hrow
  rw [nm_large] at hrow ⊢
  have hv2 := View.keep hv hW
  have hsl : ∃ q n c, v = .slice q n c := by obtain ⟨q, c, e, _⟩ := hv; exact ⟨q, _, c, e⟩
  obtain ⟨vq, vn, vc, rfl⟩ := hsl
  obtain ⟨ab, ao, rfl, rfl, hc2, hv1⟩ := view_first hv2
  have hr : Row icell 1 2 W2 0 (.slice up um uc) [2] := hrow.out
  rcases Row.two icell_size hr with ⟨_, e⟩ | ⟨g, cap, e, _, hgl, hcap, _, hcl, _⟩
  · cases e
  · injection e with e1 e2 e3
    subst e1 e2 e3
    have hk : W2.cell? ⟨g, 0, none⟩ = some (.int .i64 2) := by have := hcl 0 2 rfl 0 (by decide); simpa [icell] using this
    refine fg_ok W2 ab ao vc g 0 uc 8 2 [(agC p c, es3)] hv1 (show 1 ≤ 1099511627776 by decide) (show Hid _ from fun q hq => (hE1 q (by simp at hq ⊢; exact .inl hq)).keep hW) (show 3 ≤ 1099511627776 by decide) (by omega) (by omega) hgl hk (by decide) (show (2 : Int) ≤ 3 by decide) 1 20000 (show (1 : Int) = 3 - 2 by decide) (show Hid _ from srt_3) 1 20000 0 (show Hid _ from fun W3 => num_t 20000 W3 ⟨by decide, by decide⟩ (by decide)) (show Hid _ from fun W3 q m c3 h0 h => ?_)
    exact sort_row W3 _ q m c3 _ h.out.2.2 h0 (by have := h.out.1.len; rw [nums_c] at this; simp at this; omega)
end Go.Proofs.YtbpbocgbfeblmaaGreatDoor
