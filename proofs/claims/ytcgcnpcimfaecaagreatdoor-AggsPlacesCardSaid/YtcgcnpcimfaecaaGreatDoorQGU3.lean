/- A way of aggs.Call: arguments that are not taken, or may not be; a single argument that is a fault. New memory alone is made. The contract of aggs.wholes, both ways; the numbers of the functions that the table names. No condition. -/
import Derived.Test.YtcgcnpcimfaecaaGreatDoorQGTn
import Derived.Test.YtcgcnpcimfaecaaGreatDoorQGU1
import Derived.Test.YtcgcnpcimfaecaaGreatDoorQGTw
namespace Go.Proofs.YtcgcnpcimfaecaaGreatDoor
open Go.RowKit
set_option linter.all false
set_option maxRecDepth 100000 in
set_option maxHeartbeats 1000000 in
theorem c_fault (s : ByteArray) (w : World) (v : Value) (x : Int) (L : List (Ag × List En)) (hv : AV w v (L.map Prod.fst)) (hN : Hid (Nums (L.map Prod.fst))) (h40 : (L.map Prod.fst).length ≤ 1099511627776) (hE : Hid (∀ p ∈ L, AgE w p)) (h : nmI s < 18) (hx : ¬ x < 0) (hx2 : ¬ 1024 < x) (ht : takB (plI (nmI s)) (moI (nmI s)) ((L.map Prod.fst).map (·.many)) = true) (hm : L.any mnB = false) (a : Ag) (ha : firstF (L.map Prod.fst) = some a) : Calls Tryz.prog 9 #[.string s, v, .int .i64 x] w fun e w' => e = .returned (vOf a) ∧ Below w.heap.size w w' := by
  unfold vOf
  have hf := find_any s
  have hbd := pl_bd _ h
  have hfv := fv_is _ h
  unfold FndP at hf
  generalize hgp : plI (nmI s) = p at *
  generalize hgm : moI (nmI s) = mo at *
  generalize hgs : stI (nmI s) = st at *
  generalize hgf : fvI (nmI s) = F at *
  have mixed : Tryz.prog.follows .mixedOrders = true := by kernel_rfl
  have hd1 : decide (x < 0) = false := by simpa using hx
  have hd2 : decide (1024 < x) = false := by simpa using hx2
  have hl : L.length ≤ 9223372036854775807 := by rw [List.length_map] at h40; omega
  have hsl : ∃ q n c, v = .slice q n c ∧ (L.map Prod.fst).length = n := by obtain ⟨q, c, e, _⟩ := hv; exact ⟨q, _, c, e, rfl⟩
  obtain ⟨vq, vn, vc, rfl, hvn0⟩ := hsl
  have hvn : Hid _ := hvn0
  clear hvn0
  go_enter Tryz.func9, Tryz.ntmps9
  go_wp2_with (first | (go_at_call 22; refine (hf _ h).mono ?_; rintro e wa ⟨⟨b0, b1, b2, b3, b4, b5, b6, rfl, hT⟩, hbwa⟩; have hBwa : Below w.heap.size w wa := bup (by with_reducible (repeat' first | assumption | exact Below.refl _ _ | refine Below.drew ?_ | refine bdrewN ?_ _ | refine Below.setCell ?_ (by first | exact Nat.le_refl _ | (simp; done) | (simp; omega) | omega) _ | refine Below.alloc ?_ (by first | exact Nat.le_refl _ | (simp; done) | (simp; omega) | omega) _)) hbwa; have zwa := hBwa.size; have o0wa : Own wa (w.heap.size) #[.int .i64 0, .int .i64 0, .string ⟨#[]⟩, .bool false, .int .i64 0] := Own.keep (by with_reducible (repeat' first | assumption | refine Own.drew ?_ | refine Own.drewN ?_ _ | (refine Own.at ?_; first | rfl | (simp; done)) | refine Own.past ?_ _)) hbwa; have c0 := o0wa.cell; have f0 := o0wa.fro; have l0 := o0wa.lt; obtain ⟨fp, fl, hfe⟩ := hfv b0 b1 b2 b3 b4 b5 b6; rw [hfe]; clear hfe; have hva := View.keep hv hBwa))
  have o1wa : Own (wa.alloc (.cells #[.string p, .int .i64 mo, .bool st, .func fp #[] fl] 55)) wa.heap.size #[.string p, .int .i64 mo, .bool st, .func fp #[] fl] := Own.new _ _ _
  have c1 := o1wa.cell
  refine wp_region_held_drew (S := fun w' => w'.cell? ⟨wa.heap.size, 0, none⟩ = some (.string p) ∧ w'.cell? ⟨wa.heap.size, 1, none⟩ = some (.int .i64 mo) ∧ w'.cell? ⟨wa.heap.size, 2, none⟩ = some (.bool st) ∧ w'.cell? ⟨wa.heap.size, 3, none⟩ = some (.func fp #[] fl)) (by kernel_rfl) (by (try dsimp only); ((repeat' apply And.intro) <;> (first | (go_keep; done) | (go_simp; done)))) (fun hHeld => ?_)
  refine wpAnyH_take (i := 0) (v := (.int .i64 x)) rfl (by kernel_rfl) (by kernel_rfl) (by kernel_rfl) (fun _ _ _ h => h) (Or.inl ⟨by first | rfl | kernel_rfl, by intro wz hSw; (try dsimp only at hSw); go_simp⟩) (by assumption) ?_
  (try simp only [Act.put, List.getElem_toArray, List.getElem_cons_succ, List.getElem_cons_zero, List.setIfInBounds_toArray, List.set_cons_zero, List.set_cons_succ])
  refine wpAnyH_take (i := 1) (v := (.bool false)) rfl (by kernel_rfl) (by kernel_rfl) (by kernel_rfl) (fun _ _ _ h => h) (Or.inl ⟨by first | rfl | kernel_rfl, by intro wz hSw; (try dsimp only at hSw); go_simp⟩) (by assumption) ?_
  (try simp only [Act.put, List.getElem_toArray, List.getElem_cons_succ, List.getElem_cons_zero, List.setIfInBounds_toArray, List.set_cons_zero, List.set_cons_succ])
  refine wpAnyH_take (i := 2) (v := (.bool false)) rfl (by kernel_rfl) (by kernel_rfl) (by kernel_rfl) (fun _ _ _ h => h) (Or.inl ⟨by first | rfl | kernel_rfl, by intro wz hSw; (try dsimp only at hSw); go_simp⟩) (by assumption) ?_
  (try simp only [Act.put, List.getElem_toArray, List.getElem_cons_succ, List.getElem_cons_zero, List.setIfInBounds_toArray, List.set_cons_zero, List.set_cons_succ])
  refine wpAnyH_take (i := 3) (v := (.int .i64 x)) rfl (by kernel_rfl) (by kernel_rfl) (by kernel_rfl) (fun _ _ _ h => h) (Or.inl ⟨by first | rfl | kernel_rfl, by intro wz hSw; (try dsimp only at hSw); go_simp⟩) (by assumption) ?_
  (try simp only [Act.put, List.getElem_toArray, List.getElem_cons_succ, List.getElem_cons_zero, List.setIfInBounds_toArray, List.set_cons_zero, List.set_cons_succ])
  refine wpAnyH_take (i := 4) (v := (.bool false)) rfl (by kernel_rfl) (by kernel_rfl) (by kernel_rfl) (fun _ _ _ h => h) (Or.inl ⟨by first | rfl | kernel_rfl, by intro wz hSw; (try dsimp only at hSw); go_simp⟩) (by assumption) ?_
  (try simp only [Act.put, List.getElem_toArray, List.getElem_cons_succ, List.getElem_cons_zero, List.setIfInBounds_toArray, List.set_cons_zero, List.set_cons_succ])
  refine wpAnyH_take (i := 5) (v := (.bool false)) rfl (by kernel_rfl) (by kernel_rfl) (by kernel_rfl) (fun _ _ _ h => h) (Or.inl ⟨by first | rfl | kernel_rfl, by intro wz hSw; (try dsimp only at hSw); go_simp⟩) (by assumption) ?_
  (try simp only [Act.put, List.getElem_toArray, List.getElem_cons_succ, List.getElem_cons_zero, List.setIfInBounds_toArray, List.set_cons_zero, List.set_cons_succ])
  refine wpAnyH_take (i := 6) (v := (.bool false)) rfl (by kernel_rfl) (by kernel_rfl) (by kernel_rfl) (fun _ _ _ h => h) (Or.inl ⟨by first | rfl | kernel_rfl, by intro wz hSw; (try dsimp only at hSw); go_simp⟩) (by assumption) ?_
  (try simp only [Act.put, List.getElem_toArray, List.getElem_cons_succ, List.getElem_cons_zero, List.setIfInBounds_toArray, List.set_cons_zero, List.set_cons_succ])
  refine wpAnyH_take (i := 7) (v := (.bool true)) rfl (by kernel_rfl) (by kernel_rfl) (by kernel_rfl) (fun _ _ _ h => h) (Or.inl ⟨by first | rfl | kernel_rfl, by intro wz hSw; (try dsimp only at hSw); go_simp⟩) (by assumption) ?_
  (try simp only [Act.put, List.getElem_toArray, List.getElem_cons_succ, List.getElem_cons_zero, List.setIfInBounds_toArray, List.set_cons_zero, List.set_cons_succ])
  refine wpAnyH_take (i := 8) (v := (.bool false)) rfl (by kernel_rfl) (by kernel_rfl) (by kernel_rfl) (fun _ _ _ h => h) (Or.inl ⟨by first | rfl | kernel_rfl, by intro wz hSw; (try dsimp only at hSw); go_simp⟩) (by assumption) ?_
  (try simp only [Act.put, List.getElem_toArray, List.getElem_cons_succ, List.getElem_cons_zero, List.setIfInBounds_toArray, List.set_cons_zero, List.set_cons_succ])
  refine wpAnyH_take (i := 9) (v := (.bool false)) rfl (by kernel_rfl) (by kernel_rfl) (by kernel_rfl) (fun _ _ _ h => h) (Or.inl ⟨by first | rfl | kernel_rfl, by intro wz hSw; (try dsimp only at hSw); go_simp⟩) (by assumption) ?_
  (try simp only [Act.put, List.getElem_toArray, List.getElem_cons_succ, List.getElem_cons_zero, List.setIfInBounds_toArray, List.set_cons_zero, List.set_cons_succ])
  refine wpAnyH_take (i := 10) (v := (.bool false)) rfl (by kernel_rfl) (by kernel_rfl) (by kernel_rfl) (fun _ _ _ h => h) (Or.inl ⟨by first | rfl | kernel_rfl, by intro wz hSw; (try dsimp only at hSw); go_simp⟩) (by assumption) ?_
  (try simp only [Act.put, List.getElem_toArray, List.getElem_cons_succ, List.getElem_cons_zero, List.setIfInBounds_toArray, List.set_cons_zero, List.set_cons_succ])
  refine wpAnyH_take (i := 11) (v := (.agg #[.string p, .int .i64 mo, .bool st, .func fp #[] fl])) rfl (by kernel_rfl) (by kernel_rfl) (by kernel_rfl) (fun _ _ _ h => h) (Or.inl ⟨by first | rfl | kernel_rfl, by intro wz hSw; (try dsimp only at hSw); go_simp⟩) (by assumption) ?_
  (try simp only [Act.put, List.getElem_toArray, List.getElem_cons_succ, List.getElem_cons_zero, List.setIfInBounds_toArray, List.set_cons_zero, List.set_cons_succ])
  refine wpAnyH_take (i := 12) (v := (.slice vq vn vc)) rfl (by kernel_rfl) (by kernel_rfl) (by kernel_rfl) (fun _ _ _ h => h) (Or.inl ⟨by first | rfl | kernel_rfl, by intro wz hSw; (try dsimp only at hSw); go_simp⟩) (by assumption) ?_
  (try simp only [Act.put, List.getElem_toArray, List.getElem_cons_succ, List.getElem_cons_zero, List.setIfInBounds_toArray, List.set_cons_zero, List.set_cons_succ])
  refine wpAnyH_ready (rs := [13]) (by kernel_rfl) (by simp) ?_
  refine AllReadyH.cons rfl (fun K hK => ?_) ?_
  · go_simp
    (go_at_call 24; refine (rects_n _ _ _ _ (View.keep hv (by with_reducible (repeat' first | assumption | exact Below.refl _ _ | refine Below.drew ?_ | refine bdrewN ?_ _ | refine Below.setCell ?_ (by first | exact Nat.le_refl _ | (simp; done) | (simp; omega) | omega) _ | refine Below.alloc ?_ (by first | exact Nat.le_refl _ | (simp; done) | (simp; omega) | omega) _))) hN h40 hvn).mono ?_; rintro e wr ⟨⟨rp, rc, rfl, hbv⟩, hbwr⟩; have hBwr : Below w.heap.size w wr := bup (by with_reducible (repeat' first | assumption | exact Below.refl _ _ | refine Below.drew ?_ | refine bdrewN ?_ _ | refine Below.setCell ?_ (by first | exact Nat.le_refl _ | (simp; done) | (simp; omega) | omega) _ | refine Below.alloc ?_ (by first | exact Nat.le_refl _ | (simp; done) | (simp; omega) | omega) _)) hbwr; have zwr := hBwr.size; have o0wr : Own wr (w.heap.size) #[.int .i64 0, .int .i64 0, .string ⟨#[]⟩, .bool false, .int .i64 0] := Own.keep (by with_reducible (repeat' first | assumption | refine Own.drew ?_ | refine Own.drewN ?_ _ | (refine Own.at ?_; first | rfl | (simp; done)) | refine Own.past ?_ _)) hbwr; have c0 := o0wr.cell; have f0 := o0wr.fro; have l0 := o0wr.lt; have o1wr : Own wr (wa.heap.size) #[.string p, .int .i64 mo, .bool st, .func fp #[] fl] := Own.keep (by with_reducible (repeat' first | assumption | refine Own.drew ?_ | refine Own.drewN ?_ _ | (refine Own.at ?_; first | rfl | (simp; done)) | refine Own.past ?_ _)) hbwr; have c1 := o1wr.cell; have f1 := o1wr.fro; have l1 := o1wr.lt)
    go_wp2_with fail
    refine hK.out _ _ (by (try dsimp only); first | (with_reducible assumption) | ((repeat' apply And.intro) <;> (first | (go_keep; done) | (go_simp; done)))) (fun hHeld => ?_)
    clear hK K
    (try simp only [Act.put, List.getElem_toArray, List.getElem_cons_succ, List.getElem_cons_zero, List.setIfInBounds_toArray, List.set_cons_zero, List.set_cons_succ])
    refine wpAnyH_ready (rs := [14]) (by kernel_rfl) (by simp) ?_
    refine AllReadyH.cons rfl (fun K hK => ?_) ?_
    · go_simp
      (go_at_call 23; refine (takes_any _ _ _ _ _ _ _ _ _ hbv.out hbd.1 hbd.2.1 hbd.2.2).mono ?_; rintro e wt ⟨rfl, hbwt⟩; have hBwt : Below w.heap.size w wt := bup (by with_reducible (repeat' first | assumption | exact Below.refl _ _ | refine Below.drew ?_ | refine bdrewN ?_ _ | refine Below.setCell ?_ (by first | exact Nat.le_refl _ | (simp; done) | (simp; omega) | omega) _ | refine Below.alloc ?_ (by first | exact Nat.le_refl _ | (simp; done) | (simp; omega) | omega) _)) hbwt; have zwt := hBwt.size; have o0wt : Own wt (w.heap.size) #[.int .i64 0, .int .i64 0, .string ⟨#[]⟩, .bool false, .int .i64 0] := Own.keep (by with_reducible (repeat' first | assumption | refine Own.drew ?_ | refine Own.drewN ?_ _ | (refine Own.at ?_; first | rfl | (simp; done)) | refine Own.past ?_ _)) hbwt; have c0 := o0wt.cell; have f0 := o0wt.fro; have l0 := o0wt.lt; have o1wt : Own wt (wa.heap.size) #[.string p, .int .i64 mo, .bool st, .func fp #[] fl] := Own.keep (by with_reducible (repeat' first | assumption | refine Own.drew ?_ | refine Own.drewN ?_ _ | (refine Own.at ?_; first | rfl | (simp; done)) | refine Own.past ?_ _)) hbwt; have c1 := o1wt.cell; have f1 := o1wt.fro; have l1 := o1wt.lt; rw [ht])
      go_wp2_with fail
      refine hK.out _ _ (by (try dsimp only); first | (with_reducible assumption) | ((repeat' apply And.intro) <;> (first | (go_keep; done) | (go_simp; done)))) (fun hHeld => ?_)
      clear hK K
      (try simp only [Act.put, List.getElem_toArray, List.getElem_cons_succ, List.getElem_cons_zero, List.setIfInBounds_toArray, List.set_cons_zero, List.set_cons_succ])
      refine wpAnyH_take (i := 15) (v := (.bool false)) rfl (by kernel_rfl) (by kernel_rfl) (by kernel_rfl) (fun _ _ _ h => h) (Or.inl ⟨by first | rfl | kernel_rfl, by intro wz hSw; (try dsimp only at hSw); go_simp⟩) (by assumption) ?_
      (try simp only [Act.put, List.getElem_toArray, List.getElem_cons_succ, List.getElem_cons_zero, List.setIfInBounds_toArray, List.set_cons_zero, List.set_cons_succ])
      refine wpAnyH_take (i := 16) (v := (.bool false)) rfl (by kernel_rfl) (by kernel_rfl) (by kernel_rfl) (fun _ _ _ h => h) (Or.inl ⟨by first | rfl | kernel_rfl, by intro wz hSw; (try dsimp only at hSw); go_simp⟩) (by assumption) ?_
      (try simp only [Act.put, List.getElem_toArray, List.getElem_cons_succ, List.getElem_cons_zero, List.setIfInBounds_toArray, List.set_cons_zero, List.set_cons_succ])
      refine wpAnyH_take (i := 17) (v := (.bool false)) rfl (by kernel_rfl) (by kernel_rfl) (by kernel_rfl) (fun _ _ _ h => h) (Or.inl ⟨by first | rfl | kernel_rfl, by intro wz hSw; (try dsimp only at hSw); go_simp⟩) (by assumption) ?_
      (try simp only [Act.put, List.getElem_toArray, List.getElem_cons_succ, List.getElem_cons_zero, List.setIfInBounds_toArray, List.set_cons_zero, List.set_cons_succ])
      refine wpAnyH_take (i := 18) (v := (.slice vq vn vc)) rfl (by kernel_rfl) (by kernel_rfl) (by kernel_rfl) (fun _ _ _ h => h) (Or.inl ⟨by first | rfl | kernel_rfl, by intro wz hSw; (try dsimp only at hSw); go_simp⟩) (by assumption) ?_
      (try simp only [Act.put, List.getElem_toArray, List.getElem_cons_succ, List.getElem_cons_zero, List.setIfInBounds_toArray, List.set_cons_zero, List.set_cons_succ])
      refine wpAnyH_ready (rs := [19]) (by kernel_rfl) (by simp) ?_
      refine AllReadyH.cons rfl (fun K hK => ?_) ?_
      · go_simp
        (go_at_call 25; refine (contm_any _ _ _ (View.keep hv (by with_reducible (repeat' first | assumption | exact Below.refl _ _ | refine Below.drew ?_ | refine bdrewN ?_ _ | refine Below.setCell ?_ (by first | exact Nat.le_refl _ | (simp; done) | (simp; omega) | omega) _ | refine Below.alloc ?_ (by first | exact Nat.le_refl _ | (simp; done) | (simp; omega) | omega) _))) hl (show Hid _ from fun p hp => (hE.out p hp).keep (by with_reducible (repeat' first | assumption | exact Below.refl _ _ | refine Below.drew ?_ | refine bdrewN ?_ _ | refine Below.setCell ?_ (by first | exact Nat.le_refl _ | (simp; done) | (simp; omega) | omega) _ | refine Below.alloc ?_ (by first | exact Nat.le_refl _ | (simp; done) | (simp; omega) | omega) _)))).mono ?_; rintro e wc ⟨rfl, hbwc⟩; have hBwc : Below w.heap.size w wc := bup (by with_reducible (repeat' first | assumption | exact Below.refl _ _ | refine Below.drew ?_ | refine bdrewN ?_ _ | refine Below.setCell ?_ (by first | exact Nat.le_refl _ | (simp; done) | (simp; omega) | omega) _ | refine Below.alloc ?_ (by first | exact Nat.le_refl _ | (simp; done) | (simp; omega) | omega) _)) hbwc; have zwc := hBwc.size; have o0wc : Own wc (w.heap.size) #[.int .i64 0, .int .i64 0, .string ⟨#[]⟩, .bool false, .int .i64 0] := Own.keep (by with_reducible (repeat' first | assumption | refine Own.drew ?_ | refine Own.drewN ?_ _ | (refine Own.at ?_; first | rfl | (simp; done)) | refine Own.past ?_ _)) hbwc; have c0 := o0wc.cell; have f0 := o0wc.fro; have l0 := o0wc.lt; have o1wc : Own wc (wa.heap.size) #[.string p, .int .i64 mo, .bool st, .func fp #[] fl] := Own.keep (by with_reducible (repeat' first | assumption | refine Own.drew ?_ | refine Own.drewN ?_ _ | (refine Own.at ?_; first | rfl | (simp; done)) | refine Own.past ?_ _)) hbwc; have c1 := o1wc.cell; have f1 := o1wc.fro; have l1 := o1wc.lt; rw [hm])
        go_wp2_with fail
        refine hK.out _ _ (by (try dsimp only); first | (with_reducible assumption) | ((repeat' apply And.intro) <;> (first | (go_keep; done) | (go_simp; done)))) (fun hHeld => ?_)
        clear hK K
        (try simp only [Act.put, List.getElem_toArray, List.getElem_cons_succ, List.getElem_cons_zero, List.setIfInBounds_toArray, List.set_cons_zero, List.set_cons_succ])
        refine wpAnyH_take (i := 20) (v := (.bool false)) rfl (by kernel_rfl) (by kernel_rfl) (by kernel_rfl) (fun _ _ _ h => h) (Or.inl ⟨by first | rfl | kernel_rfl, by intro wz hSw; (try dsimp only at hSw); go_simp⟩) (by assumption) ?_
        (try simp only [Act.put, List.getElem_toArray, List.getElem_cons_succ, List.getElem_cons_zero, List.setIfInBounds_toArray, List.set_cons_zero, List.set_cons_succ])
        refine wpAnyH_done (by kernel_rfl) ?_ _
        go_wp2_with (go_at_call 28; refine (fault_any _ _ _ (View.keep hv (by with_reducible (repeat' first | assumption | exact Below.refl _ _ | refine Below.drew ?_ | refine bdrewN ?_ _ | refine Below.setCell ?_ (by first | exact Nat.le_refl _ | (simp; done) | (simp; omega) | omega) _ | refine Below.alloc ?_ (by first | exact Nat.le_refl _ | (simp; done) | (simp; omega) | omega) _))) (by rw [List.length_map]; exact hl) hN).mono ?_; rintro e wd ⟨rfl, hbwd⟩; have hBwd : Below w.heap.size w wd := bup (by with_reducible (repeat' first | assumption | exact Below.refl _ _ | refine Below.drew ?_ | refine bdrewN ?_ _ | refine Below.setCell ?_ (by first | exact Nat.le_refl _ | (simp; done) | (simp; omega) | omega) _ | refine Below.alloc ?_ (by first | exact Nat.le_refl _ | (simp; done) | (simp; omega) | omega) _)) hbwd; have zwd := hBwd.size; have o0wd : Own wd (w.heap.size) #[.int .i64 0, .int .i64 0, .string ⟨#[]⟩, .bool false, .int .i64 0] := Own.keep (by with_reducible (repeat' first | assumption | refine Own.drew ?_ | refine Own.drewN ?_ _ | (refine Own.at ?_; first | rfl | (simp; done)) | refine Own.past ?_ _)) hbwd; have c0 := o0wd.cell; have f0 := o0wd.fro; have l0 := o0wd.lt; have o1wd : Own wd (wa.heap.size) #[.string p, .int .i64 mo, .bool st, .func fp #[] fl] := Own.keep (by with_reducible (repeat' first | assumption | refine Own.drew ?_ | refine Own.drewN ?_ _ | (refine Own.at ?_; first | rfl | (simp; done)) | refine Own.past ?_ _)) hbwd; have c1 := o1wd.cell; have f1 := o1wd.fro; have l1 := o1wd.lt; rw [ha]; dsimp only [faultOut, vOf])
        exact bodyPost_ret (v := (.agg #[.int .i64 a.t, .int .i64 a.n, .string a.s, .bool a.b, .int .i64 a.c])) (by simp [results, Tryz.results9, go_sem, c0, f0, l0]) rfl ⟨rfl, by with_reducible (repeat' first | assumption | exact Below.refl _ _ | refine Below.drew ?_ | refine bdrewN ?_ _ | refine Below.setCell ?_ (by first | exact Nat.le_refl _ | (simp; done) | (simp; omega) | omega) _ | refine Below.alloc ?_ (by first | exact Nat.le_refl _ | (simp; done) | (simp; omega) | omega) _)⟩
      exact AllReadyH.nil
    exact AllReadyH.nil
  exact AllReadyH.nil
end Go.Proofs.YtcgcnpcimfaecaaGreatDoor
namespace Go.Proofs.YtcgcnpcimfaecaaGreatDoor
open Go.RowKit
set_option linter.all false
theorem wholes_ok (w : World) (v : Value) (l : List Ag) (h : AV w v l) (hN : Hid (Nums l)) (h0 : 0 < l.length) (h16 : l.length ≤ 16) (p : ByteArray) (mo : Int) (st : Bool) (fp : Fn) (fc fl : Array Value) (hp : 0 < p.size) (hp2 : p.size ≤ 16) (hF : firstN (nIx p l) = 0) :
    Calls Tryz.prog 29 #[.agg #[.string p, .int .i64 mo, .bool st, .func fp fc fl], v] w fun e w' => (∃ up m uc, e = .returned (.tuple #[.slice up m uc, .int .i64 0]) ∧ Hid (Row icell 1 2 w' 0 (.slice up m uc) ((nIx p l).map aI))) ∧ Below w.heap.size w w' := by
  obtain ⟨q, c, rfl, hc, hf⟩ := h
  obtain ⟨b, o, rfl, hlt, HA⟩ := hf h0
  refine (wholes_y w b o c l.length l hlt HA rfl hc h0 (by omega) hN h16 p mo st fp fc fl hp hp2).mono ?_
  rintro e w' ⟨⟨_, u, rfl, h1⟩ | ⟨hn, _⟩, hb⟩
  · obtain ⟨up, uc, rfl, _, _⟩ := Row.slice h1
    exact ⟨⟨up, _, uc, rfl, Row.mono h1 (Nat.zero_le _)⟩, hb⟩
  · exact absurd hF hn
theorem wholes_no (w : World) (v : Value) (l : List Ag) (h : AV w v l) (hN : Hid (Nums l)) (h0 : 0 < l.length) (h16 : l.length ≤ 16) (p : ByteArray) (mo : Int) (st : Bool) (fp : Fn) (fc fl : Array Value) (hp : 0 < p.size) (hp2 : p.size ≤ 16) (hF : ¬ firstN (nIx p l) = 0) :
    Calls Tryz.prog 29 #[.agg #[.string p, .int .i64 mo, .bool st, .func fp fc fl], v] w fun e w' => e = .returned (.tuple #[.slice none 0 0, .int .i64 (firstN (nIx p l))]) ∧ Below w.heap.size w w' := by
  obtain ⟨q, c, rfl, hc, hf⟩ := h
  obtain ⟨b, o, rfl, hlt, HA⟩ := hf h0
  refine (wholes_y w b o c l.length l hlt HA rfl hc h0 (by omega) hN h16 p mo st fp fc fl hp hp2).mono ?_
  rintro e w' ⟨⟨hn, _⟩ | ⟨_, rfl⟩, hb⟩
  · exact absurd hn hF
  · exact ⟨rfl, hb⟩
theorem tak_len {p : ByteArray} {mo : Int} {l : List Bool} (h : takB p mo l = true) : p.size ≤ l.length ∧ (l.length : Int) ≤ mo := by
  unfold takB at h
  simp only [Bool.and_eq_true, decide_eq_true_eq] at h
  exact h.1
def fidI (k : Nat) : FuncId := [110, 110, 110, 110, 110, 110, 110, 86, 87, 88, 89, 90, 91, 92, 93, 94, 95, 96].getD k 0
theorem callf_ofAll_1 (args : Array Value) (W : World) : (callFunc 110 args).run Tryz.prog W = .ok (.enter 110 args) W := by kernel_rfl
theorem callf_countFilled (args : Array Value) (W : World) : (callFunc 86 args).run Tryz.prog W = .ok (.enter 86 args) W := by kernel_rfl
theorem callf_countBlank (args : Array Value) (W : World) : (callFunc 87 args).run Tryz.prog W = .ok (.enter 87 args) W := by kernel_rfl
theorem callf_countSame (args : Array Value) (W : World) : (callFunc 88 args).run Tryz.prog W = .ok (.enter 88 args) W := by kernel_rfl
theorem callf_sumWhere (args : Array Value) (W : World) : (callFunc 89 args).run Tryz.prog W = .ok (.enter 89 args) W := by kernel_rfl
theorem callf_matched (args : Array Value) (W : World) : (callFunc 90 args).run Tryz.prog W = .ok (.enter 90 args) W := by kernel_rfl
theorem callf_lookedUp (args : Array Value) (W : World) : (callFunc 91 args).run Tryz.prog W = .ok (.enter 91 args) W := by kernel_rfl
theorem callf_indexed (args : Array Value) (W : World) : (callFunc 92 args).run Tryz.prog W = .ok (.enter 92 args) W := by kernel_rfl
theorem callf_fromGreatest (args : Array Value) (W : World) : (callFunc 93 args).run Tryz.prog W = .ok (.enter 93 args) W := by kernel_rfl
theorem callf_joined (args : Array Value) (W : World) : (callFunc 94 args).run Tryz.prog W = .ok (.enter 94 args) W := by kernel_rfl
theorem callf_countRows (args : Array Value) (W : World) : (callFunc 95 args).run Tryz.prog W = .ok (.enter 95 args) W := by kernel_rfl
theorem callf_countCols (args : Array Value) (W : World) : (callFunc 96 args).run Tryz.prog W = .ok (.enter 96 args) W := by kernel_rfl
theorem callf (k : Nat) (h : k < 18) (args : Array Value) (W : World) : (callFunc (fidI k) args).run Tryz.prog W = .ok (.enter (fidI k) args) W := by
  match k, h with
  | 0, _ => exact callf_ofAll_1 args W
  | 1, _ => exact callf_ofAll_1 args W
  | 2, _ => exact callf_ofAll_1 args W
  | 3, _ => exact callf_ofAll_1 args W
  | 4, _ => exact callf_ofAll_1 args W
  | 5, _ => exact callf_ofAll_1 args W
  | 6, _ => exact callf_ofAll_1 args W
  | 7, _ => exact callf_countFilled args W
  | 8, _ => exact callf_countBlank args W
  | 9, _ => exact callf_countSame args W
  | 10, _ => exact callf_sumWhere args W
  | 11, _ => exact callf_matched args W
  | 12, _ => exact callf_lookedUp args W
  | 13, _ => exact callf_indexed args W
  | 14, _ => exact callf_fromGreatest args W
  | 15, _ => exact callf_joined args W
  | 16, _ => exact callf_countRows args W
  | 17, _ => exact callf_countCols args W
  | j + 18, h => exact absurd h (by omega)
theorem fv_p (k : Nat) (h : k < 18) (h7 : 7 ≤ k) (b0 b1 b2 b3 b4 b5 b6 : Nat) : fvI k b0 b1 b2 b3 b4 b5 b6 = .func (.func (fidI k)) #[] #[] := by
  match k, h, h7 with
  | 7, _, _ => rfl
  | 8, _, _ => rfl
  | 9, _, _ => rfl
  | 10, _, _ => rfl
  | 11, _, _ => rfl
  | 12, _, _ => rfl
  | 13, _, _ => rfl
  | 14, _, _ => rfl
  | 15, _, _ => rfl
  | 16, _, _ => rfl
  | 17, _, _ => rfl
  | 0, _, h7 => exact absurd h7 (by decide)
  | 1, _, h7 => exact absurd h7 (by decide)
  | 2, _, h7 => exact absurd h7 (by decide)
  | 3, _, h7 => exact absurd h7 (by decide)
  | 4, _, h7 => exact absurd h7 (by decide)
  | 5, _, h7 => exact absurd h7 (by decide)
  | 6, _, h7 => exact absurd h7 (by decide)
  | j + 18, h, _ => exact absurd h (by omega)
/-- What lies in the box of a function of all numbers. -/
def AnsB (k : Nat) (w : World) (b : Nat) : Prop := match k with
  | 0 => AllV w (.func (.func 78) #[] #[]) b
  | 1 => AllV w (.func (.func 79) #[] #[]) b
  | 2 => SomeV w (.func (.func 81) #[] #[]) b
  | 3 => SomeV w (.func (.func 82) #[] #[]) b
  | 4 => SomeV w (.func (.func 83) #[] #[]) b
  | 5 => SomeV w (.func (.func 84) #[] #[]) b
  | 6 => AllV w (.func (.func 85) #[] #[]) b
  | _ => False
theorem fv_c (k : Nat) (h7 : k < 7) (b0 b1 b2 b3 b4 b5 b6 : Nat) (w : World) (hT : TabW b0 b1 b2 b3 b4 b5 b6 w) : ∃ b, fvI k b0 b1 b2 b3 b4 b5 b6 = .func (.func (fidI k)) #[] #[.pointer (some ⟨b, 0, none⟩)] ∧ AnsB k w b := by
  match k, h7 with
  | 0, _ => exact ⟨b0, rfl, hT.h0⟩
  | 1, _ => exact ⟨b1, rfl, hT.h1⟩
  | 2, _ => exact ⟨b2, rfl, hT.h2⟩
  | 3, _ => exact ⟨b3, rfl, hT.h3⟩
  | 4, _ => exact ⟨b4, rfl, hT.h4⟩
  | 5, _ => exact ⟨b5, rfl, hT.h5⟩
  | 6, _ => exact ⟨b6, rfl, hT.h6⟩
  | j + 7, h => exact absurd h (by omega)
theorem AnsB.keep {k : Nat} {w w' : World} {b : Nat} (h : AnsB k w b) (hb : Below w.heap.size w w') : AnsB k w' b := by
  unfold AnsB at h ⊢
  split at h <;> first | exact AllV.keep h hb | exact SomeV.keep h hb | exact h
end Go.Proofs.YtcgcnpcimfaecaaGreatDoor
