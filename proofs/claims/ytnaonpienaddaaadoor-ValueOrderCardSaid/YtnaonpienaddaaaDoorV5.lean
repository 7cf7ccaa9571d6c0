/- Parts of the contract of value.Compare: of any two values -1, 0 or 1. New memory alone is made. No condition but that the numbers are int64. -/
import Derived.Test.YtnaonpienaddaaaDoorV4
namespace Go.Proofs.YtnaonpienaddaaaDoor
open Go.RowKit
set_option linter.all false
set_option maxHeartbeats 4000000 in
theorem cmp_01 (n : Int) (w : World) (hn : I64 n) (hwa : wrongC (0) (0) ⟨#[]⟩ false (0) = 0) (hwb : wrongC (1) (n) ⟨#[]⟩ false (0) = 0) : Calls Tryd.prog 22 #[(.agg #[.int .i64 (0), .int .i64 (0), .string ⟨#[]⟩, .bool false, .int .i64 (0)]), (.agg #[.int .i64 (1), .int .i64 (n), .string ⟨#[]⟩, .bool false, .int .i64 (0)])] w fun e w' => e = .returned (.int .i64 (cmpI 0 n)) ∧ Below w.heap.size w w' := by
  have hz : I64 0 := ⟨by decide, by decide⟩
  have q1 : fillT 0 1 = 1 := rfl
  have p1 : fillT 1 0 = 1 := rfl
  have q2 : fillT 0 2 = 2 := rfl
  have p2 : fillT 2 0 = 2 := rfl
  have q3 : fillT 0 3 = 3 := rfl
  have p3 : fillT 3 0 = 3 := rfl
  go_enter Tryd.func22, Tryd.ntmps22
  go_wp2_with (go_at_call 40; refine (wrongV _ _ _ _ _ _ (by assumption)).mono ?_; rintro e w1 ⟨rfl, hb⟩; have hB : Below w.heap.size w w1 := bup (by with_reducible (first | assumption | exact Below.drew (by assumption) | exact bal _ _ | exact (bal _ _).alloc (by simp) _ | exact (bal _ _).drew | exact ((bal _ _).alloc (by simp) _).drew | exact Below.refl _ _ | exact (Below.refl _ _).drew)) hb; have o0 : Own w1 (w.heap.size) #[.int .i64 (0), .int .i64 (0), .string ⟨#[]⟩, .bool false, .int .i64 (0)] := Own.keep (by with_reducible (first | assumption | exact Own.drew (by assumption) | exact Own.new _ _ _ | exact Own.new2 _ _ _ _ | exact (Own.new _ _ _).past _ | exact Own.drew (Own.new _ _ _) | exact (Own.new2 _ _ _ _).drew | exact ((Own.new _ _ _).past _).drew)) hb; have c0 := o0.cell; have f0 := o0.fro; have o1 : Own w1 (w.heap.size + 1) #[.int .i64 (1), .int .i64 (n), .string ⟨#[]⟩, .bool false, .int .i64 (0)] := Own.keep (by with_reducible (first | assumption | exact Own.drew (by assumption) | exact Own.new _ _ _ | exact Own.new2 _ _ _ _ | exact (Own.new _ _ _).past _ | exact Own.drew (Own.new _ _ _) | exact (Own.new2 _ _ _ _).drew | exact ((Own.new _ _ _).past _).drew)) hb; have c1 := o1.cell; have f1 := o1.fro)
  refine wp_region_held_drew (S := (fun w' => w'.cell? ⟨w.heap.size + 1, 0, none⟩ = some (.int .i64 (1)) ∧ w'.cell? ⟨w.heap.size + 1, 1, none⟩ = some (.int .i64 (n)) ∧ w'.cell? ⟨w.heap.size + 1, 2, none⟩ = some (.string ⟨#[]⟩) ∧ w'.cell? ⟨w.heap.size + 1, 3, none⟩ = some (.bool false) ∧ w'.cell? ⟨w.heap.size + 1, 4, none⟩ = some (.int .i64 (0)))) (by kernel_rfl) (by (try dsimp only); ((repeat' apply And.intro) <;> (first | (go_keep; done) | (go_simp; done)))) (fun hHeld => ?_)
  refine wpAnyH_take (i := 1) (v := .pointer (some ⟨w.heap.size + 1, 0, none⟩)) rfl (by kernel_rfl) (by kernel_rfl) (by kernel_rfl) (fun _ _ _ h => h) (Or.inl ⟨by rfl, by intro wz hSw; (try dsimp only at hSw); go_simp⟩) (by assumption) ?_
  (try simp only [Act.put, List.setIfInBounds_toArray, List.set_cons_zero, List.set_cons_succ])
  refine wpAnyH_take (i := 5) (v := .pointer (some ⟨w.heap.size, 0, none⟩)) rfl (by kernel_rfl) (by kernel_rfl) (by kernel_rfl) (fun _ _ _ h => h) (Or.inl ⟨by rfl, by intro wz hSw; (try dsimp only at hSw); go_simp⟩) (by assumption) ?_
  (try simp only [Act.put, List.setIfInBounds_toArray, List.set_cons_zero, List.set_cons_succ])
  refine wpAnyH_take (i := 2) (v := .int .i64 (1)) rfl (by kernel_rfl) (by kernel_rfl) (by kernel_rfl) (fun _ _ _ h => h) (Or.inl ⟨by rfl, by intro wz hSw; (try dsimp only at hSw); go_simp⟩) (by assumption) ?_
  (try simp only [Act.put, List.setIfInBounds_toArray, List.set_cons_zero, List.set_cons_succ])
  refine wpAnyH_take (i := 4) (v := (.agg #[.int .i64 (1), .int .i64 (n), .string ⟨#[]⟩, .bool false, .int .i64 (0)])) rfl (by kernel_rfl) (by kernel_rfl) (by kernel_rfl) (fun _ _ _ h => h) (Or.inl ⟨by rfl, by intro wz hSw; (try dsimp only at hSw); go_simp⟩) (by assumption) ?_
  (try simp only [Act.put, List.setIfInBounds_toArray, List.set_cons_zero, List.set_cons_succ])
  refine wpAnyH_ready (rs := [0, 6]) (by kernel_rfl) (by simp) ?_
  refine AllReadyH.cons rfl (fun K hK => ?_) ?_
  · go_simp
    refine hK.out _ _ (by (try dsimp only); first | (with_reducible assumption) | ((repeat' apply And.intro) <;> (first | (go_keep; done) | (go_simp; done)))) (fun hHeld => ?_)
    clear hK K
    (try simp only [Act.put, List.setIfInBounds_toArray, List.set_cons_zero, List.set_cons_succ])
    refine wpAnyH_ready (rs := [3, 6]) (by kernel_rfl) (by simp) ?_
    refine AllReadyH.cons rfl (fun K hK => ?_) ?_
    · go_simp
      (go_at_call 41; refine (filledV _ _ _ _ _ _ _ (by intro h; first | exact ⟨rfl, rfl, rfl, rfl⟩ | exact absurd h (by decide))).mono ?_; rintro e w3 ⟨rfl, hb⟩; have hB : Below w.heap.size w w3 := bup (by with_reducible (first | assumption | exact Below.drew (by assumption) | exact bal _ _ | exact (bal _ _).alloc (by simp) _ | exact (bal _ _).drew | exact ((bal _ _).alloc (by simp) _).drew | exact Below.refl _ _ | exact (Below.refl _ _).drew)) hb; have o0 : Own w3 (w.heap.size) #[.int .i64 (0), .int .i64 (0), .string ⟨#[]⟩, .bool false, .int .i64 (0)] := Own.keep (by with_reducible (first | assumption | exact Own.drew (by assumption) | exact Own.new _ _ _ | exact Own.new2 _ _ _ _ | exact (Own.new _ _ _).past _ | exact Own.drew (Own.new _ _ _) | exact (Own.new2 _ _ _ _).drew | exact ((Own.new _ _ _).past _).drew)) hb; have c0 := o0.cell; have f0 := o0.fro; have o1 : Own w3 (w.heap.size + 1) #[.int .i64 (1), .int .i64 (n), .string ⟨#[]⟩, .bool false, .int .i64 (0)] := Own.keep (by with_reducible (first | assumption | exact Own.drew (by assumption) | exact Own.new _ _ _ | exact Own.new2 _ _ _ _ | exact (Own.new _ _ _).past _ | exact Own.drew (Own.new _ _ _) | exact (Own.new2 _ _ _ _).drew | exact ((Own.new _ _ _).past _).drew)) hb; have c1 := o1.cell; have f1 := o1.fro)
      go_wp2_with fail
      refine hK.out _ _ (by (try dsimp only); first | (with_reducible assumption) | ((repeat' apply And.intro) <;> (first | (go_keep; done) | (go_simp; done)))) (fun hHeld => ?_)
      clear hK K
      (try simp only [Act.put, List.setIfInBounds_toArray, List.set_cons_zero, List.set_cons_succ])
      refine wpAnyH_ready (rs := [6]) (by kernel_rfl) (by simp) ?_
      refine AllReadyH.cons rfl (fun K hK => ?_) ?_
      · go_simp
        refine hK.out _ _ (by (try dsimp only); first | (with_reducible assumption) | ((repeat' apply And.intro) <;> (first | (go_keep; done) | (go_simp; done)))) (fun hHeld => ?_)
        clear hK K
        (try simp only [Act.put, List.setIfInBounds_toArray, List.set_cons_zero, List.set_cons_succ])
        refine wpAnyH_ready (rs := [7]) (by kernel_rfl) (by simp) ?_
        refine AllReadyH.cons rfl (fun K hK => ?_) ?_
        · go_simp
          (go_at_call 41; refine (filledV _ _ _ _ _ _ _ (by intro h; first | exact ⟨rfl, rfl, rfl, rfl⟩ | exact absurd h (by decide))).mono ?_; rintro e w3 ⟨rfl, hb⟩; have hB : Below w.heap.size w w3 := bup (by with_reducible (first | assumption | exact Below.drew (by assumption) | exact bal _ _ | exact (bal _ _).alloc (by simp) _ | exact (bal _ _).drew | exact ((bal _ _).alloc (by simp) _).drew | exact Below.refl _ _ | exact (Below.refl _ _).drew)) hb; have o0 : Own w3 (w.heap.size) #[.int .i64 (0), .int .i64 (0), .string ⟨#[]⟩, .bool false, .int .i64 (0)] := Own.keep (by with_reducible (first | assumption | exact Own.drew (by assumption) | exact Own.new _ _ _ | exact Own.new2 _ _ _ _ | exact (Own.new _ _ _).past _ | exact Own.drew (Own.new _ _ _) | exact (Own.new2 _ _ _ _).drew | exact ((Own.new _ _ _).past _).drew)) hb; have c0 := o0.cell; have f0 := o0.fro; have o1 : Own w3 (w.heap.size + 1) #[.int .i64 (1), .int .i64 (n), .string ⟨#[]⟩, .bool false, .int .i64 (0)] := Own.keep (by with_reducible (first | assumption | exact Own.drew (by assumption) | exact Own.new _ _ _ | exact Own.new2 _ _ _ _ | exact (Own.new _ _ _).past _ | exact Own.drew (Own.new _ _ _) | exact (Own.new2 _ _ _ _).drew | exact ((Own.new _ _ _).past _).drew)) hb; have c1 := o1.cell; have f1 := o1.fro)
          go_wp2_with fail
          refine hK.out _ _ (by (try dsimp only); first | (with_reducible assumption) | ((repeat' apply And.intro) <;> (first | (go_keep; done) | (go_simp; done)))) (fun hHeld => ?_)
          clear hK K
          (try simp only [Act.put, List.setIfInBounds_toArray, List.set_cons_zero, List.set_cons_succ])
          refine wpAnyH_ready (rs := [8]) (by kernel_rfl) (by simp) ?_
          refine AllReadyH.cons rfl (fun K hK => ?_) ?_
          · go_simp
            refine hK.out _ _ (by (try dsimp only); first | (with_reducible assumption) | ((repeat' apply And.intro) <;> (first | (go_keep; done) | (go_simp; done)))) (fun hHeld => ?_)
            clear hK K
            (try simp only [Act.put, List.setIfInBounds_toArray, List.set_cons_zero, List.set_cons_succ])
            refine wpAnyH_ready (rs := [9]) (by kernel_rfl) (by simp) ?_
            refine AllReadyH.cons rfl (fun K hK => ?_) ?_
            · go_simp
              refine hK.out _ _ (by (try dsimp only); first | (with_reducible assumption) | ((repeat' apply And.intro) <;> (first | (go_keep; done) | (go_simp; done)))) (fun hHeld => ?_)
              clear hK K
              (try simp only [Act.put, List.setIfInBounds_toArray, List.set_cons_zero, List.set_cons_succ])
              refine wpAnyH_done (by kernel_rfl) ?_ _
              go_wp2_with (first | (go_at_call 42; refine (cmpTag _ _ _).mono ?_; rintro e w5 ⟨rfl, rfl⟩) | (go_at_call 43; refine (cmp64 _ _ _).mono ?_; rintro e w5 ⟨rfl, rfl⟩) | (go_at_call 44; refine (cmpSV _ _ _).mono ?_; rintro e w5 ⟨rfl, rfl⟩) | (go_at_call 45; refine (partsV _ _).mono ?_; rintro e w5 ⟨rfl, rfl⟩))
              go_ret
              refine ⟨rfl, ?_⟩
              repeat' with_reducible first | assumption | refine Below.setCell ?_ (by first | exact Nat.le_refl _ | (simp; done) | (simp; omega)) _ | refine Below.drew ?_
            exact AllReadyH.nil
          exact AllReadyH.nil
        exact AllReadyH.nil
      exact AllReadyH.nil
    refine AllReadyH.cons rfl (fun K hK => ?_) ?_
    · go_simp
      refine hK.out _ _ (by (try dsimp only); first | (with_reducible assumption) | ((repeat' apply And.intro) <;> (first | (go_keep; done) | (go_simp; done)))) (fun hHeld => ?_)
      clear hK K
      (try simp only [Act.put, List.setIfInBounds_toArray, List.set_cons_zero, List.set_cons_succ])
      refine wpAnyH_ready (rs := [3]) (by kernel_rfl) (by simp) ?_
      refine AllReadyH.cons rfl (fun K hK => ?_) ?_
      · go_simp
        (go_at_call 41; refine (filledV _ _ _ _ _ _ _ (by intro h; first | exact ⟨rfl, rfl, rfl, rfl⟩ | exact absurd h (by decide))).mono ?_; rintro e w3 ⟨rfl, hb⟩; have hB : Below w.heap.size w w3 := bup (by with_reducible (first | assumption | exact Below.drew (by assumption) | exact bal _ _ | exact (bal _ _).alloc (by simp) _ | exact (bal _ _).drew | exact ((bal _ _).alloc (by simp) _).drew | exact Below.refl _ _ | exact (Below.refl _ _).drew)) hb; have o0 : Own w3 (w.heap.size) #[.int .i64 (0), .int .i64 (0), .string ⟨#[]⟩, .bool false, .int .i64 (0)] := Own.keep (by with_reducible (first | assumption | exact Own.drew (by assumption) | exact Own.new _ _ _ | exact Own.new2 _ _ _ _ | exact (Own.new _ _ _).past _ | exact Own.drew (Own.new _ _ _) | exact (Own.new2 _ _ _ _).drew | exact ((Own.new _ _ _).past _).drew)) hb; have c0 := o0.cell; have f0 := o0.fro; have o1 : Own w3 (w.heap.size + 1) #[.int .i64 (1), .int .i64 (n), .string ⟨#[]⟩, .bool false, .int .i64 (0)] := Own.keep (by with_reducible (first | assumption | exact Own.drew (by assumption) | exact Own.new _ _ _ | exact Own.new2 _ _ _ _ | exact (Own.new _ _ _).past _ | exact Own.drew (Own.new _ _ _) | exact (Own.new2 _ _ _ _).drew | exact ((Own.new _ _ _).past _).drew)) hb; have c1 := o1.cell; have f1 := o1.fro)
        go_wp2_with fail
        refine hK.out _ _ (by (try dsimp only); first | (with_reducible assumption) | ((repeat' apply And.intro) <;> (first | (go_keep; done) | (go_simp; done)))) (fun hHeld => ?_)
        clear hK K
        (try simp only [Act.put, List.setIfInBounds_toArray, List.set_cons_zero, List.set_cons_succ])
        refine wpAnyH_ready (rs := [7]) (by kernel_rfl) (by simp) ?_
        refine AllReadyH.cons rfl (fun K hK => ?_) ?_
        · go_simp
          (go_at_call 41; refine (filledV _ _ _ _ _ _ _ (by intro h; first | exact ⟨rfl, rfl, rfl, rfl⟩ | exact absurd h (by decide))).mono ?_; rintro e w3 ⟨rfl, hb⟩; have hB : Below w.heap.size w w3 := bup (by with_reducible (first | assumption | exact Below.drew (by assumption) | exact bal _ _ | exact (bal _ _).alloc (by simp) _ | exact (bal _ _).drew | exact ((bal _ _).alloc (by simp) _).drew | exact Below.refl _ _ | exact (Below.refl _ _).drew)) hb; have o0 : Own w3 (w.heap.size) #[.int .i64 (0), .int .i64 (0), .string ⟨#[]⟩, .bool false, .int .i64 (0)] := Own.keep (by with_reducible (first | assumption | exact Own.drew (by assumption) | exact Own.new _ _ _ | exact Own.new2 _ _ _ _ | exact (Own.new _ _ _).past _ | exact Own.drew (Own.new _ _ _) | exact (Own.new2 _ _ _ _).drew | exact ((Own.new _ _ _).past _).drew)) hb; have c0 := o0.cell; have f0 := o0.fro; have o1 : Own w3 (w.heap.size + 1) #[.int .i64 (1), .int .i64 (n), .string ⟨#[]⟩, .bool false, .int .i64 (0)] := Own.keep (by with_reducible (first | assumption | exact Own.drew (by assumption) | exact Own.new _ _ _ | exact Own.new2 _ _ _ _ | exact (Own.new _ _ _).past _ | exact Own.drew (Own.new _ _ _) | exact (Own.new2 _ _ _ _).drew | exact ((Own.new _ _ _).past _).drew)) hb; have c1 := o1.cell; have f1 := o1.fro)
          go_wp2_with fail
          refine hK.out _ _ (by (try dsimp only); first | (with_reducible assumption) | ((repeat' apply And.intro) <;> (first | (go_keep; done) | (go_simp; done)))) (fun hHeld => ?_)
          clear hK K
          (try simp only [Act.put, List.setIfInBounds_toArray, List.set_cons_zero, List.set_cons_succ])
          refine wpAnyH_ready (rs := [8]) (by kernel_rfl) (by simp) ?_
          refine AllReadyH.cons rfl (fun K hK => ?_) ?_
          · go_simp
            refine hK.out _ _ (by (try dsimp only); first | (with_reducible assumption) | ((repeat' apply And.intro) <;> (first | (go_keep; done) | (go_simp; done)))) (fun hHeld => ?_)
            clear hK K
            (try simp only [Act.put, List.setIfInBounds_toArray, List.set_cons_zero, List.set_cons_succ])
            refine wpAnyH_ready (rs := [9]) (by kernel_rfl) (by simp) ?_
            refine AllReadyH.cons rfl (fun K hK => ?_) ?_
            · go_simp
              refine hK.out _ _ (by (try dsimp only); first | (with_reducible assumption) | ((repeat' apply And.intro) <;> (first | (go_keep; done) | (go_simp; done)))) (fun hHeld => ?_)
              clear hK K
              (try simp only [Act.put, List.setIfInBounds_toArray, List.set_cons_zero, List.set_cons_succ])
              refine wpAnyH_done (by kernel_rfl) ?_ _
              go_wp2_with (first | (go_at_call 42; refine (cmpTag _ _ _).mono ?_; rintro e w5 ⟨rfl, rfl⟩) | (go_at_call 43; refine (cmp64 _ _ _).mono ?_; rintro e w5 ⟨rfl, rfl⟩) | (go_at_call 44; refine (cmpSV _ _ _).mono ?_; rintro e w5 ⟨rfl, rfl⟩) | (go_at_call 45; refine (partsV _ _).mono ?_; rintro e w5 ⟨rfl, rfl⟩))
              go_ret
              refine ⟨rfl, ?_⟩
              repeat' with_reducible first | assumption | refine Below.setCell ?_ (by first | exact Nat.le_refl _ | (simp; done) | (simp; omega)) _ | refine Below.drew ?_
            exact AllReadyH.nil
          exact AllReadyH.nil
        exact AllReadyH.nil
      exact AllReadyH.nil
    exact AllReadyH.nil
  refine AllReadyH.cons rfl (fun K hK => ?_) ?_
  · go_simp
    refine hK.out _ _ (by (try dsimp only); first | (with_reducible assumption) | ((repeat' apply And.intro) <;> (first | (go_keep; done) | (go_simp; done)))) (fun hHeld => ?_)
    clear hK K
    (try simp only [Act.put, List.setIfInBounds_toArray, List.set_cons_zero, List.set_cons_succ])
    refine wpAnyH_ready (rs := [0]) (by kernel_rfl) (by simp) ?_
    refine AllReadyH.cons rfl (fun K hK => ?_) ?_
    · go_simp
      refine hK.out _ _ (by (try dsimp only); first | (with_reducible assumption) | ((repeat' apply And.intro) <;> (first | (go_keep; done) | (go_simp; done)))) (fun hHeld => ?_)
      clear hK K
      (try simp only [Act.put, List.setIfInBounds_toArray, List.set_cons_zero, List.set_cons_succ])
      refine wpAnyH_ready (rs := [3]) (by kernel_rfl) (by simp) ?_
      refine AllReadyH.cons rfl (fun K hK => ?_) ?_
      · go_simp
        (go_at_call 41; refine (filledV _ _ _ _ _ _ _ (by intro h; first | exact ⟨rfl, rfl, rfl, rfl⟩ | exact absurd h (by decide))).mono ?_; rintro e w3 ⟨rfl, hb⟩; have hB : Below w.heap.size w w3 := bup (by with_reducible (first | assumption | exact Below.drew (by assumption) | exact bal _ _ | exact (bal _ _).alloc (by simp) _ | exact (bal _ _).drew | exact ((bal _ _).alloc (by simp) _).drew | exact Below.refl _ _ | exact (Below.refl _ _).drew)) hb; have o0 : Own w3 (w.heap.size) #[.int .i64 (0), .int .i64 (0), .string ⟨#[]⟩, .bool false, .int .i64 (0)] := Own.keep (by with_reducible (first | assumption | exact Own.drew (by assumption) | exact Own.new _ _ _ | exact Own.new2 _ _ _ _ | exact (Own.new _ _ _).past _ | exact Own.drew (Own.new _ _ _) | exact (Own.new2 _ _ _ _).drew | exact ((Own.new _ _ _).past _).drew)) hb; have c0 := o0.cell; have f0 := o0.fro; have o1 : Own w3 (w.heap.size + 1) #[.int .i64 (1), .int .i64 (n), .string ⟨#[]⟩, .bool false, .int .i64 (0)] := Own.keep (by with_reducible (first | assumption | exact Own.drew (by assumption) | exact Own.new _ _ _ | exact Own.new2 _ _ _ _ | exact (Own.new _ _ _).past _ | exact Own.drew (Own.new _ _ _) | exact (Own.new2 _ _ _ _).drew | exact ((Own.new _ _ _).past _).drew)) hb; have c1 := o1.cell; have f1 := o1.fro)
        go_wp2_with fail
        refine hK.out _ _ (by (try dsimp only); first | (with_reducible assumption) | ((repeat' apply And.intro) <;> (first | (go_keep; done) | (go_simp; done)))) (fun hHeld => ?_)
        clear hK K
        (try simp only [Act.put, List.setIfInBounds_toArray, List.set_cons_zero, List.set_cons_succ])
        refine wpAnyH_ready (rs := [7]) (by kernel_rfl) (by simp) ?_
        refine AllReadyH.cons rfl (fun K hK => ?_) ?_
        · go_simp
          (go_at_call 41; refine (filledV _ _ _ _ _ _ _ (by intro h; first | exact ⟨rfl, rfl, rfl, rfl⟩ | exact absurd h (by decide))).mono ?_; rintro e w3 ⟨rfl, hb⟩; have hB : Below w.heap.size w w3 := bup (by with_reducible (first | assumption | exact Below.drew (by assumption) | exact bal _ _ | exact (bal _ _).alloc (by simp) _ | exact (bal _ _).drew | exact ((bal _ _).alloc (by simp) _).drew | exact Below.refl _ _ | exact (Below.refl _ _).drew)) hb; have o0 : Own w3 (w.heap.size) #[.int .i64 (0), .int .i64 (0), .string ⟨#[]⟩, .bool false, .int .i64 (0)] := Own.keep (by with_reducible (first | assumption | exact Own.drew (by assumption) | exact Own.new _ _ _ | exact Own.new2 _ _ _ _ | exact (Own.new _ _ _).past _ | exact Own.drew (Own.new _ _ _) | exact (Own.new2 _ _ _ _).drew | exact ((Own.new _ _ _).past _).drew)) hb; have c0 := o0.cell; have f0 := o0.fro; have o1 : Own w3 (w.heap.size + 1) #[.int .i64 (1), .int .i64 (n), .string ⟨#[]⟩, .bool false, .int .i64 (0)] := Own.keep (by with_reducible (first | assumption | exact Own.drew (by assumption) | exact Own.new _ _ _ | exact Own.new2 _ _ _ _ | exact (Own.new _ _ _).past _ | exact Own.drew (Own.new _ _ _) | exact (Own.new2 _ _ _ _).drew | exact ((Own.new _ _ _).past _).drew)) hb; have c1 := o1.cell; have f1 := o1.fro)
          go_wp2_with fail
          refine hK.out _ _ (by (try dsimp only); first | (with_reducible assumption) | ((repeat' apply And.intro) <;> (first | (go_keep; done) | (go_simp; done)))) (fun hHeld => ?_)
          clear hK K
          (try simp only [Act.put, List.setIfInBounds_toArray, List.set_cons_zero, List.set_cons_succ])
          refine wpAnyH_ready (rs := [8]) (by kernel_rfl) (by simp) ?_
          refine AllReadyH.cons rfl (fun K hK => ?_) ?_
          · go_simp
            refine hK.out _ _ (by (try dsimp only); first | (with_reducible assumption) | ((repeat' apply And.intro) <;> (first | (go_keep; done) | (go_simp; done)))) (fun hHeld => ?_)
            clear hK K
            (try simp only [Act.put, List.setIfInBounds_toArray, List.set_cons_zero, List.set_cons_succ])
            refine wpAnyH_ready (rs := [9]) (by kernel_rfl) (by simp) ?_
            refine AllReadyH.cons rfl (fun K hK => ?_) ?_
            · go_simp
              refine hK.out _ _ (by (try dsimp only); first | (with_reducible assumption) | ((repeat' apply And.intro) <;> (first | (go_keep; done) | (go_simp; done)))) (fun hHeld => ?_)
              clear hK K
              (try simp only [Act.put, List.setIfInBounds_toArray, List.set_cons_zero, List.set_cons_succ])
              refine wpAnyH_done (by kernel_rfl) ?_ _
              go_wp2_with (first | (go_at_call 42; refine (cmpTag _ _ _).mono ?_; rintro e w5 ⟨rfl, rfl⟩) | (go_at_call 43; refine (cmp64 _ _ _).mono ?_; rintro e w5 ⟨rfl, rfl⟩) | (go_at_call 44; refine (cmpSV _ _ _).mono ?_; rintro e w5 ⟨rfl, rfl⟩) | (go_at_call 45; refine (partsV _ _).mono ?_; rintro e w5 ⟨rfl, rfl⟩))
              go_ret
              refine ⟨rfl, ?_⟩
              repeat' with_reducible first | assumption | refine Below.setCell ?_ (by first | exact Nat.le_refl _ | (simp; done) | (simp; omega)) _ | refine Below.drew ?_
            exact AllReadyH.nil
          exact AllReadyH.nil
        exact AllReadyH.nil
      exact AllReadyH.nil
    exact AllReadyH.nil
  exact AllReadyH.nil
set_option maxHeartbeats 4000000 in
theorem cmp_10 (n : Int) (w : World) (hn : I64 n) (hwa : wrongC (1) (n) ⟨#[]⟩ false (0) = 0) (hwb : wrongC (0) (0) ⟨#[]⟩ false (0) = 0) : Calls Tryd.prog 22 #[(.agg #[.int .i64 (1), .int .i64 (n), .string ⟨#[]⟩, .bool false, .int .i64 (0)]), (.agg #[.int .i64 (0), .int .i64 (0), .string ⟨#[]⟩, .bool false, .int .i64 (0)])] w fun e w' => e = .returned (.int .i64 (cmpI n 0)) ∧ Below w.heap.size w w' := by
  have hz : I64 0 := ⟨by decide, by decide⟩
  have q1 : fillT 0 1 = 1 := rfl
  have p1 : fillT 1 0 = 1 := rfl
  have q2 : fillT 0 2 = 2 := rfl
  have p2 : fillT 2 0 = 2 := rfl
  have q3 : fillT 0 3 = 3 := rfl
  have p3 : fillT 3 0 = 3 := rfl
  go_enter Tryd.func22, Tryd.ntmps22
  go_wp2_with (go_at_call 40; refine (wrongV _ _ _ _ _ _ (by assumption)).mono ?_; rintro e w1 ⟨rfl, hb⟩; have hB : Below w.heap.size w w1 := bup (by with_reducible (first | assumption | exact Below.drew (by assumption) | exact bal _ _ | exact (bal _ _).alloc (by simp) _ | exact (bal _ _).drew | exact ((bal _ _).alloc (by simp) _).drew | exact Below.refl _ _ | exact (Below.refl _ _).drew)) hb; have o0 : Own w1 (w.heap.size) #[.int .i64 (1), .int .i64 (n), .string ⟨#[]⟩, .bool false, .int .i64 (0)] := Own.keep (by with_reducible (first | assumption | exact Own.drew (by assumption) | exact Own.new _ _ _ | exact Own.new2 _ _ _ _ | exact (Own.new _ _ _).past _ | exact Own.drew (Own.new _ _ _) | exact (Own.new2 _ _ _ _).drew | exact ((Own.new _ _ _).past _).drew)) hb; have c0 := o0.cell; have f0 := o0.fro; have o1 : Own w1 (w.heap.size + 1) #[.int .i64 (0), .int .i64 (0), .string ⟨#[]⟩, .bool false, .int .i64 (0)] := Own.keep (by with_reducible (first | assumption | exact Own.drew (by assumption) | exact Own.new _ _ _ | exact Own.new2 _ _ _ _ | exact (Own.new _ _ _).past _ | exact Own.drew (Own.new _ _ _) | exact (Own.new2 _ _ _ _).drew | exact ((Own.new _ _ _).past _).drew)) hb; have c1 := o1.cell; have f1 := o1.fro)
  refine wp_region_held_drew (S := (fun w' => w'.cell? ⟨w.heap.size, 0, none⟩ = some (.int .i64 (1)) ∧ w'.cell? ⟨w.heap.size, 1, none⟩ = some (.int .i64 (n)) ∧ w'.cell? ⟨w.heap.size, 2, none⟩ = some (.string ⟨#[]⟩) ∧ w'.cell? ⟨w.heap.size, 3, none⟩ = some (.bool false) ∧ w'.cell? ⟨w.heap.size, 4, none⟩ = some (.int .i64 (0)))) (by kernel_rfl) (by (try dsimp only); ((repeat' apply And.intro) <;> (first | (go_keep; done) | (go_simp; done)))) (fun hHeld => ?_)
  refine wpAnyH_take (i := 1) (v := .pointer (some ⟨w.heap.size + 1, 0, none⟩)) rfl (by kernel_rfl) (by kernel_rfl) (by kernel_rfl) (fun _ _ _ h => h) (Or.inl ⟨by rfl, by intro wz hSw; (try dsimp only at hSw); go_simp⟩) (by assumption) ?_
  (try simp only [Act.put, List.setIfInBounds_toArray, List.set_cons_zero, List.set_cons_succ])
  refine wpAnyH_take (i := 5) (v := .pointer (some ⟨w.heap.size, 0, none⟩)) rfl (by kernel_rfl) (by kernel_rfl) (by kernel_rfl) (fun _ _ _ h => h) (Or.inl ⟨by rfl, by intro wz hSw; (try dsimp only at hSw); go_simp⟩) (by assumption) ?_
  (try simp only [Act.put, List.setIfInBounds_toArray, List.set_cons_zero, List.set_cons_succ])
  refine wpAnyH_take (i := 0) (v := (.agg #[.int .i64 (1), .int .i64 (n), .string ⟨#[]⟩, .bool false, .int .i64 (0)])) rfl (by kernel_rfl) (by kernel_rfl) (by kernel_rfl) (fun _ _ _ h => h) (Or.inl ⟨by rfl, by intro wz hSw; (try dsimp only at hSw); go_simp⟩) (by assumption) ?_
  (try simp only [Act.put, List.setIfInBounds_toArray, List.set_cons_zero, List.set_cons_succ])
  refine wpAnyH_take (i := 6) (v := .int .i64 (1)) rfl (by kernel_rfl) (by kernel_rfl) (by kernel_rfl) (fun _ _ _ h => h) (Or.inl ⟨by rfl, by intro wz hSw; (try dsimp only at hSw); go_simp⟩) (by assumption) ?_
  (try simp only [Act.put, List.setIfInBounds_toArray, List.set_cons_zero, List.set_cons_succ])
  refine wpAnyH_ready (rs := [2, 4]) (by kernel_rfl) (by simp) ?_
  refine AllReadyH.cons rfl (fun K hK => ?_) ?_
  · go_simp
    refine hK.out _ _ (by (try dsimp only); first | (with_reducible assumption) | ((repeat' apply And.intro) <;> (first | (go_keep; done) | (go_simp; done)))) (fun hHeld => ?_)
    clear hK K
    (try simp only [Act.put, List.setIfInBounds_toArray, List.set_cons_zero, List.set_cons_succ])
    refine wpAnyH_ready (rs := [3, 4]) (by kernel_rfl) (by simp) ?_
    refine AllReadyH.cons rfl (fun K hK => ?_) ?_
    · go_simp
      (go_at_call 41; refine (filledV _ _ _ _ _ _ _ (by intro h; first | exact ⟨rfl, rfl, rfl, rfl⟩ | exact absurd h (by decide))).mono ?_; rintro e w3 ⟨rfl, hb⟩; have hB : Below w.heap.size w w3 := bup (by with_reducible (first | assumption | exact Below.drew (by assumption) | exact bal _ _ | exact (bal _ _).alloc (by simp) _ | exact (bal _ _).drew | exact ((bal _ _).alloc (by simp) _).drew | exact Below.refl _ _ | exact (Below.refl _ _).drew)) hb; have o0 : Own w3 (w.heap.size) #[.int .i64 (1), .int .i64 (n), .string ⟨#[]⟩, .bool false, .int .i64 (0)] := Own.keep (by with_reducible (first | assumption | exact Own.drew (by assumption) | exact Own.new _ _ _ | exact Own.new2 _ _ _ _ | exact (Own.new _ _ _).past _ | exact Own.drew (Own.new _ _ _) | exact (Own.new2 _ _ _ _).drew | exact ((Own.new _ _ _).past _).drew)) hb; have c0 := o0.cell; have f0 := o0.fro; have o1 : Own w3 (w.heap.size + 1) #[.int .i64 (0), .int .i64 (0), .string ⟨#[]⟩, .bool false, .int .i64 (0)] := Own.keep (by with_reducible (first | assumption | exact Own.drew (by assumption) | exact Own.new _ _ _ | exact Own.new2 _ _ _ _ | exact (Own.new _ _ _).past _ | exact Own.drew (Own.new _ _ _) | exact (Own.new2 _ _ _ _).drew | exact ((Own.new _ _ _).past _).drew)) hb; have c1 := o1.cell; have f1 := o1.fro)
      go_wp2_with fail
      refine hK.out _ _ (by (try dsimp only); first | (with_reducible assumption) | ((repeat' apply And.intro) <;> (first | (go_keep; done) | (go_simp; done)))) (fun hHeld => ?_)
      clear hK K
      (try simp only [Act.put, List.setIfInBounds_toArray, List.set_cons_zero, List.set_cons_succ])
      refine wpAnyH_ready (rs := [4]) (by kernel_rfl) (by simp) ?_
      refine AllReadyH.cons rfl (fun K hK => ?_) ?_
      · go_simp
        refine hK.out _ _ (by (try dsimp only); first | (with_reducible assumption) | ((repeat' apply And.intro) <;> (first | (go_keep; done) | (go_simp; done)))) (fun hHeld => ?_)
        clear hK K
        (try simp only [Act.put, List.setIfInBounds_toArray, List.set_cons_zero, List.set_cons_succ])
        refine wpAnyH_ready (rs := [7]) (by kernel_rfl) (by simp) ?_
        refine AllReadyH.cons rfl (fun K hK => ?_) ?_
        · go_simp
          (go_at_call 41; refine (filledV _ _ _ _ _ _ _ (by intro h; first | exact ⟨rfl, rfl, rfl, rfl⟩ | exact absurd h (by decide))).mono ?_; rintro e w3 ⟨rfl, hb⟩; have hB : Below w.heap.size w w3 := bup (by with_reducible (first | assumption | exact Below.drew (by assumption) | exact bal _ _ | exact (bal _ _).alloc (by simp) _ | exact (bal _ _).drew | exact ((bal _ _).alloc (by simp) _).drew | exact Below.refl _ _ | exact (Below.refl _ _).drew)) hb; have o0 : Own w3 (w.heap.size) #[.int .i64 (1), .int .i64 (n), .string ⟨#[]⟩, .bool false, .int .i64 (0)] := Own.keep (by with_reducible (first | assumption | exact Own.drew (by assumption) | exact Own.new _ _ _ | exact Own.new2 _ _ _ _ | exact (Own.new _ _ _).past _ | exact Own.drew (Own.new _ _ _) | exact (Own.new2 _ _ _ _).drew | exact ((Own.new _ _ _).past _).drew)) hb; have c0 := o0.cell; have f0 := o0.fro; have o1 : Own w3 (w.heap.size + 1) #[.int .i64 (0), .int .i64 (0), .string ⟨#[]⟩, .bool false, .int .i64 (0)] := Own.keep (by with_reducible (first | assumption | exact Own.drew (by assumption) | exact Own.new _ _ _ | exact Own.new2 _ _ _ _ | exact (Own.new _ _ _).past _ | exact Own.drew (Own.new _ _ _) | exact (Own.new2 _ _ _ _).drew | exact ((Own.new _ _ _).past _).drew)) hb; have c1 := o1.cell; have f1 := o1.fro)
          go_wp2_with fail
          refine hK.out _ _ (by (try dsimp only); first | (with_reducible assumption) | ((repeat' apply And.intro) <;> (first | (go_keep; done) | (go_simp; done)))) (fun hHeld => ?_)
          clear hK K
          (try simp only [Act.put, List.setIfInBounds_toArray, List.set_cons_zero, List.set_cons_succ])
          refine wpAnyH_ready (rs := [8]) (by kernel_rfl) (by simp) ?_
          refine AllReadyH.cons rfl (fun K hK => ?_) ?_
          · go_simp
            refine hK.out _ _ (by (try dsimp only); first | (with_reducible assumption) | ((repeat' apply And.intro) <;> (first | (go_keep; done) | (go_simp; done)))) (fun hHeld => ?_)
            clear hK K
            (try simp only [Act.put, List.setIfInBounds_toArray, List.set_cons_zero, List.set_cons_succ])
            refine wpAnyH_ready (rs := [9]) (by kernel_rfl) (by simp) ?_
            refine AllReadyH.cons rfl (fun K hK => ?_) ?_
            · go_simp
              refine hK.out _ _ (by (try dsimp only); first | (with_reducible assumption) | ((repeat' apply And.intro) <;> (first | (go_keep; done) | (go_simp; done)))) (fun hHeld => ?_)
              clear hK K
              (try simp only [Act.put, List.setIfInBounds_toArray, List.set_cons_zero, List.set_cons_succ])
              refine wpAnyH_done (by kernel_rfl) ?_ _
              go_wp2_with (first | (go_at_call 42; refine (cmpTag _ _ _).mono ?_; rintro e w5 ⟨rfl, rfl⟩) | (go_at_call 43; refine (cmp64 _ _ _).mono ?_; rintro e w5 ⟨rfl, rfl⟩) | (go_at_call 44; refine (cmpSV _ _ _).mono ?_; rintro e w5 ⟨rfl, rfl⟩) | (go_at_call 45; refine (partsV _ _).mono ?_; rintro e w5 ⟨rfl, rfl⟩))
              go_ret
              refine ⟨rfl, ?_⟩
              repeat' with_reducible first | assumption | refine Below.setCell ?_ (by first | exact Nat.le_refl _ | (simp; done) | (simp; omega)) _ | refine Below.drew ?_
            exact AllReadyH.nil
          exact AllReadyH.nil
        exact AllReadyH.nil
      exact AllReadyH.nil
    refine AllReadyH.cons rfl (fun K hK => ?_) ?_
    · go_simp
      refine hK.out _ _ (by (try dsimp only); first | (with_reducible assumption) | ((repeat' apply And.intro) <;> (first | (go_keep; done) | (go_simp; done)))) (fun hHeld => ?_)
      clear hK K
      (try simp only [Act.put, List.setIfInBounds_toArray, List.set_cons_zero, List.set_cons_succ])
      refine wpAnyH_ready (rs := [3]) (by kernel_rfl) (by simp) ?_
      refine AllReadyH.cons rfl (fun K hK => ?_) ?_
      · go_simp
        (go_at_call 41; refine (filledV _ _ _ _ _ _ _ (by intro h; first | exact ⟨rfl, rfl, rfl, rfl⟩ | exact absurd h (by decide))).mono ?_; rintro e w3 ⟨rfl, hb⟩; have hB : Below w.heap.size w w3 := bup (by with_reducible (first | assumption | exact Below.drew (by assumption) | exact bal _ _ | exact (bal _ _).alloc (by simp) _ | exact (bal _ _).drew | exact ((bal _ _).alloc (by simp) _).drew | exact Below.refl _ _ | exact (Below.refl _ _).drew)) hb; have o0 : Own w3 (w.heap.size) #[.int .i64 (1), .int .i64 (n), .string ⟨#[]⟩, .bool false, .int .i64 (0)] := Own.keep (by with_reducible (first | assumption | exact Own.drew (by assumption) | exact Own.new _ _ _ | exact Own.new2 _ _ _ _ | exact (Own.new _ _ _).past _ | exact Own.drew (Own.new _ _ _) | exact (Own.new2 _ _ _ _).drew | exact ((Own.new _ _ _).past _).drew)) hb; have c0 := o0.cell; have f0 := o0.fro; have o1 : Own w3 (w.heap.size + 1) #[.int .i64 (0), .int .i64 (0), .string ⟨#[]⟩, .bool false, .int .i64 (0)] := Own.keep (by with_reducible (first | assumption | exact Own.drew (by assumption) | exact Own.new _ _ _ | exact Own.new2 _ _ _ _ | exact (Own.new _ _ _).past _ | exact Own.drew (Own.new _ _ _) | exact (Own.new2 _ _ _ _).drew | exact ((Own.new _ _ _).past _).drew)) hb; have c1 := o1.cell; have f1 := o1.fro)
        go_wp2_with fail
        refine hK.out _ _ (by (try dsimp only); first | (with_reducible assumption) | ((repeat' apply And.intro) <;> (first | (go_keep; done) | (go_simp; done)))) (fun hHeld => ?_)
        clear hK K
        (try simp only [Act.put, List.setIfInBounds_toArray, List.set_cons_zero, List.set_cons_succ])
        refine wpAnyH_ready (rs := [7]) (by kernel_rfl) (by simp) ?_
        refine AllReadyH.cons rfl (fun K hK => ?_) ?_
        · go_simp
          (go_at_call 41; refine (filledV _ _ _ _ _ _ _ (by intro h; first | exact ⟨rfl, rfl, rfl, rfl⟩ | exact absurd h (by decide))).mono ?_; rintro e w3 ⟨rfl, hb⟩; have hB : Below w.heap.size w w3 := bup (by with_reducible (first | assumption | exact Below.drew (by assumption) | exact bal _ _ | exact (bal _ _).alloc (by simp) _ | exact (bal _ _).drew | exact ((bal _ _).alloc (by simp) _).drew | exact Below.refl _ _ | exact (Below.refl _ _).drew)) hb; have o0 : Own w3 (w.heap.size) #[.int .i64 (1), .int .i64 (n), .string ⟨#[]⟩, .bool false, .int .i64 (0)] := Own.keep (by with_reducible (first | assumption | exact Own.drew (by assumption) | exact Own.new _ _ _ | exact Own.new2 _ _ _ _ | exact (Own.new _ _ _).past _ | exact Own.drew (Own.new _ _ _) | exact (Own.new2 _ _ _ _).drew | exact ((Own.new _ _ _).past _).drew)) hb; have c0 := o0.cell; have f0 := o0.fro; have o1 : Own w3 (w.heap.size + 1) #[.int .i64 (0), .int .i64 (0), .string ⟨#[]⟩, .bool false, .int .i64 (0)] := Own.keep (by with_reducible (first | assumption | exact Own.drew (by assumption) | exact Own.new _ _ _ | exact Own.new2 _ _ _ _ | exact (Own.new _ _ _).past _ | exact Own.drew (Own.new _ _ _) | exact (Own.new2 _ _ _ _).drew | exact ((Own.new _ _ _).past _).drew)) hb; have c1 := o1.cell; have f1 := o1.fro)
          go_wp2_with fail
          refine hK.out _ _ (by (try dsimp only); first | (with_reducible assumption) | ((repeat' apply And.intro) <;> (first | (go_keep; done) | (go_simp; done)))) (fun hHeld => ?_)
          clear hK K
          (try simp only [Act.put, List.setIfInBounds_toArray, List.set_cons_zero, List.set_cons_succ])
          refine wpAnyH_ready (rs := [8]) (by kernel_rfl) (by simp) ?_
          refine AllReadyH.cons rfl (fun K hK => ?_) ?_
          · go_simp
            refine hK.out _ _ (by (try dsimp only); first | (with_reducible assumption) | ((repeat' apply And.intro) <;> (first | (go_keep; done) | (go_simp; done)))) (fun hHeld => ?_)
            clear hK K
            (try simp only [Act.put, List.setIfInBounds_toArray, List.set_cons_zero, List.set_cons_succ])
            refine wpAnyH_ready (rs := [9]) (by kernel_rfl) (by simp) ?_
            refine AllReadyH.cons rfl (fun K hK => ?_) ?_
            · go_simp
              refine hK.out _ _ (by (try dsimp only); first | (with_reducible assumption) | ((repeat' apply And.intro) <;> (first | (go_keep; done) | (go_simp; done)))) (fun hHeld => ?_)
              clear hK K
              (try simp only [Act.put, List.setIfInBounds_toArray, List.set_cons_zero, List.set_cons_succ])
              refine wpAnyH_done (by kernel_rfl) ?_ _
              go_wp2_with (first | (go_at_call 42; refine (cmpTag _ _ _).mono ?_; rintro e w5 ⟨rfl, rfl⟩) | (go_at_call 43; refine (cmp64 _ _ _).mono ?_; rintro e w5 ⟨rfl, rfl⟩) | (go_at_call 44; refine (cmpSV _ _ _).mono ?_; rintro e w5 ⟨rfl, rfl⟩) | (go_at_call 45; refine (partsV _ _).mono ?_; rintro e w5 ⟨rfl, rfl⟩))
              go_ret
              refine ⟨rfl, ?_⟩
              repeat' with_reducible first | assumption | refine Below.setCell ?_ (by first | exact Nat.le_refl _ | (simp; done) | (simp; omega)) _ | refine Below.drew ?_
            exact AllReadyH.nil
          exact AllReadyH.nil
        exact AllReadyH.nil
      exact AllReadyH.nil
    exact AllReadyH.nil
  refine AllReadyH.cons rfl (fun K hK => ?_) ?_
  · go_simp
    refine hK.out _ _ (by (try dsimp only); first | (with_reducible assumption) | ((repeat' apply And.intro) <;> (first | (go_keep; done) | (go_simp; done)))) (fun hHeld => ?_)
    clear hK K
    (try simp only [Act.put, List.setIfInBounds_toArray, List.set_cons_zero, List.set_cons_succ])
    refine wpAnyH_ready (rs := [2]) (by kernel_rfl) (by simp) ?_
    refine AllReadyH.cons rfl (fun K hK => ?_) ?_
    · go_simp
      refine hK.out _ _ (by (try dsimp only); first | (with_reducible assumption) | ((repeat' apply And.intro) <;> (first | (go_keep; done) | (go_simp; done)))) (fun hHeld => ?_)
      clear hK K
      (try simp only [Act.put, List.setIfInBounds_toArray, List.set_cons_zero, List.set_cons_succ])
      refine wpAnyH_ready (rs := [3]) (by kernel_rfl) (by simp) ?_
      refine AllReadyH.cons rfl (fun K hK => ?_) ?_
      · go_simp
        (go_at_call 41; refine (filledV _ _ _ _ _ _ _ (by intro h; first | exact ⟨rfl, rfl, rfl, rfl⟩ | exact absurd h (by decide))).mono ?_; rintro e w3 ⟨rfl, hb⟩; have hB : Below w.heap.size w w3 := bup (by with_reducible (first | assumption | exact Below.drew (by assumption) | exact bal _ _ | exact (bal _ _).alloc (by simp) _ | exact (bal _ _).drew | exact ((bal _ _).alloc (by simp) _).drew | exact Below.refl _ _ | exact (Below.refl _ _).drew)) hb; have o0 : Own w3 (w.heap.size) #[.int .i64 (1), .int .i64 (n), .string ⟨#[]⟩, .bool false, .int .i64 (0)] := Own.keep (by with_reducible (first | assumption | exact Own.drew (by assumption) | exact Own.new _ _ _ | exact Own.new2 _ _ _ _ | exact (Own.new _ _ _).past _ | exact Own.drew (Own.new _ _ _) | exact (Own.new2 _ _ _ _).drew | exact ((Own.new _ _ _).past _).drew)) hb; have c0 := o0.cell; have f0 := o0.fro; have o1 : Own w3 (w.heap.size + 1) #[.int .i64 (0), .int .i64 (0), .string ⟨#[]⟩, .bool false, .int .i64 (0)] := Own.keep (by with_reducible (first | assumption | exact Own.drew (by assumption) | exact Own.new _ _ _ | exact Own.new2 _ _ _ _ | exact (Own.new _ _ _).past _ | exact Own.drew (Own.new _ _ _) | exact (Own.new2 _ _ _ _).drew | exact ((Own.new _ _ _).past _).drew)) hb; have c1 := o1.cell; have f1 := o1.fro)
        go_wp2_with fail
        refine hK.out _ _ (by (try dsimp only); first | (with_reducible assumption) | ((repeat' apply And.intro) <;> (first | (go_keep; done) | (go_simp; done)))) (fun hHeld => ?_)
        clear hK K
        (try simp only [Act.put, List.setIfInBounds_toArray, List.set_cons_zero, List.set_cons_succ])
        refine wpAnyH_ready (rs := [7]) (by kernel_rfl) (by simp) ?_
        refine AllReadyH.cons rfl (fun K hK => ?_) ?_
        · go_simp
          (go_at_call 41; refine (filledV _ _ _ _ _ _ _ (by intro h; first | exact ⟨rfl, rfl, rfl, rfl⟩ | exact absurd h (by decide))).mono ?_; rintro e w3 ⟨rfl, hb⟩; have hB : Below w.heap.size w w3 := bup (by with_reducible (first | assumption | exact Below.drew (by assumption) | exact bal _ _ | exact (bal _ _).alloc (by simp) _ | exact (bal _ _).drew | exact ((bal _ _).alloc (by simp) _).drew | exact Below.refl _ _ | exact (Below.refl _ _).drew)) hb; have o0 : Own w3 (w.heap.size) #[.int .i64 (1), .int .i64 (n), .string ⟨#[]⟩, .bool false, .int .i64 (0)] := Own.keep (by with_reducible (first | assumption | exact Own.drew (by assumption) | exact Own.new _ _ _ | exact Own.new2 _ _ _ _ | exact (Own.new _ _ _).past _ | exact Own.drew (Own.new _ _ _) | exact (Own.new2 _ _ _ _).drew | exact ((Own.new _ _ _).past _).drew)) hb; have c0 := o0.cell; have f0 := o0.fro; have o1 : Own w3 (w.heap.size + 1) #[.int .i64 (0), .int .i64 (0), .string ⟨#[]⟩, .bool false, .int .i64 (0)] := Own.keep (by with_reducible (first | assumption | exact Own.drew (by assumption) | exact Own.new _ _ _ | exact Own.new2 _ _ _ _ | exact (Own.new _ _ _).past _ | exact Own.drew (Own.new _ _ _) | exact (Own.new2 _ _ _ _).drew | exact ((Own.new _ _ _).past _).drew)) hb; have c1 := o1.cell; have f1 := o1.fro)
          go_wp2_with fail
          refine hK.out _ _ (by (try dsimp only); first | (with_reducible assumption) | ((repeat' apply And.intro) <;> (first | (go_keep; done) | (go_simp; done)))) (fun hHeld => ?_)
          clear hK K
          (try simp only [Act.put, List.setIfInBounds_toArray, List.set_cons_zero, List.set_cons_succ])
          refine wpAnyH_ready (rs := [8]) (by kernel_rfl) (by simp) ?_
          refine AllReadyH.cons rfl (fun K hK => ?_) ?_
          · go_simp
            refine hK.out _ _ (by (try dsimp only); first | (with_reducible assumption) | ((repeat' apply And.intro) <;> (first | (go_keep; done) | (go_simp; done)))) (fun hHeld => ?_)
            clear hK K
            (try simp only [Act.put, List.setIfInBounds_toArray, List.set_cons_zero, List.set_cons_succ])
            refine wpAnyH_ready (rs := [9]) (by kernel_rfl) (by simp) ?_
            refine AllReadyH.cons rfl (fun K hK => ?_) ?_
            · go_simp
              refine hK.out _ _ (by (try dsimp only); first | (with_reducible assumption) | ((repeat' apply And.intro) <;> (first | (go_keep; done) | (go_simp; done)))) (fun hHeld => ?_)
              clear hK K
              (try simp only [Act.put, List.setIfInBounds_toArray, List.set_cons_zero, List.set_cons_succ])
              refine wpAnyH_done (by kernel_rfl) ?_ _
              go_wp2_with (first | (go_at_call 42; refine (cmpTag _ _ _).mono ?_; rintro e w5 ⟨rfl, rfl⟩) | (go_at_call 43; refine (cmp64 _ _ _).mono ?_; rintro e w5 ⟨rfl, rfl⟩) | (go_at_call 44; refine (cmpSV _ _ _).mono ?_; rintro e w5 ⟨rfl, rfl⟩) | (go_at_call 45; refine (partsV _ _).mono ?_; rintro e w5 ⟨rfl, rfl⟩))
              go_ret
              refine ⟨rfl, ?_⟩
              repeat' with_reducible first | assumption | refine Below.setCell ?_ (by first | exact Nat.le_refl _ | (simp; done) | (simp; omega)) _ | refine Below.drew ?_
            exact AllReadyH.nil
          exact AllReadyH.nil
        exact AllReadyH.nil
      exact AllReadyH.nil
    exact AllReadyH.nil
  exact AllReadyH.nil
end Go.Proofs.YtnaonpienaddaaaDoor
