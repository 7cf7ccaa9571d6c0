/- The contracts of row.drop and chunk.empty: a column's content is taken away; whether no row of a chunk has a content. -/
import Derived.Test.YtaafpfjmnhmalaaS15
import Derived.Deep.RegionWith
namespace Go.Proofs.Ytaafpfjmnhmalaa
open Go.RowKit
set_option linter.all false
set_option maxRecDepth 100000 in
set_option maxHeartbeats 1000000 in
theorem empty_yes (w : World) (kb : Nat) (B : Array Value) (rows : Nat → List Sp) (hB : Hid (Own w kb B)) (hr : Hid (∀ j, j < 64 → ∃ u, B[j]? = some u ∧ RowW w u (rows j))) (he : Hid (∀ j, j < 64 → rows j = [])) :
    Calls Try.prog 36 #[.pointer (some ⟨kb, 0, none⟩)] w fun e w' => e = .returned (.bool true) ∧ w' = w := by
  go_enter Try.func36, Try.ntmps36
  go_wp2
  go_loop [7] (fun v => ∃ j : Nat, v = .int .i64 j ∧ j ≤ 64) (fun v => 64 - (intOf v).toNat)
  case atStart => exact ⟨0, rfl, by omega⟩
  case round =>
    obtain ⟨j, rfl, hj⟩ := hrel
    by_cases hlt : j < 64
    · have hlt' : (j : Int) < 64 := by omega
      obtain ⟨u, u1, u2⟩ := hr.out j hlt
      rw [he.out j hlt] at u2
      have hsl : ∃ q cp, u = .slice q 0 cp := by
        rcases u2.two with ⟨rfl, _⟩ | ⟨g, cap, cur, rfl, _⟩ <;> exact ⟨_, _, rfl⟩
      obtain ⟨q, cp, rfl⟩ := hsl
      have y0 : w.cell? ⟨kb, j, none⟩ = some (.slice q 0 cp) := (hB.out.cell j).trans u1
      clear u1 u2
      go_wp2
      exact ⟨⟨j + 1, by go_num, by omega⟩, by simp [intOf]; omega⟩
    · have hlt' : ¬ (j : Int) < 64 := by omega
      go_wp2
      go_ret
      exact ⟨rfl, rfl⟩
set_option maxRecDepth 100000 in
set_option maxHeartbeats 1000000 in
theorem empty_no (w : World) (kb : Nat) (B : Array Value) (rows : Nat → List Sp) (hB : Hid (Own w kb B)) (hr : Hid (∀ j, j < 64 → ∃ u, B[j]? = some u ∧ RowW w u (rows j))) (hfew : Hid (∀ j, (rows j).length ≤ 65536)) (he : Hid (¬ ∀ j, j < 64 → rows j = [])) :
    Calls Try.prog 36 #[.pointer (some ⟨kb, 0, none⟩)] w fun e w' => e = .returned (.bool false) ∧ w' = w := by
  go_enter Try.func36, Try.ntmps36
  go_wp2
  go_loop [7] (fun v => ∃ j : Nat, v = .int .i64 j ∧ j ≤ 64 ∧ Hid (∀ k, k < j → rows k = [])) (fun v => 64 - (intOf v).toNat)
  case atStart => exact ⟨0, rfl, by omega, (show Hid _ from fun k hk => absurd hk (Nat.not_lt_zero _))⟩
  case round =>
    obtain ⟨j, rfl, hj, hall⟩ := hrel
    by_cases hlt : j < 64
    · have hlt' : (j : Int) < 64 := by omega
      obtain ⟨u, u1, u2⟩ := hr.out j hlt
      have hsl : ∃ q cp, u = .slice q (rows j).length cp := by
        rcases u2.two with ⟨rfl, e⟩ | ⟨g, cap, cur, rfl, _⟩
        · exact ⟨none, 0, by rw [e]; rfl⟩
        · exact ⟨_, _, rfl⟩
      obtain ⟨q, cp, rfl⟩ := hsl
      have y0 : w.cell? ⟨kb, j, none⟩ = some (.slice q (rows j).length cp) := (hB.out.cell j).trans u1
      have hf := hfew.out j
      by_cases h0 : (rows j).length = 0
      · have HE : Hid (∀ k, k < j + 1 → rows k = []) := (show _ from fun k hk => by
          by_cases e : k = j
          · rw [e]; exact List.length_eq_zero_iff.1 h0
          · exact hall.out k (by omega))
        rw [h0] at y0
        clear u1 u2 h0 hf
        go_wp2
        exact ⟨⟨j + 1, by go_num, by omega, HE⟩, by simp [intOf]; omega⟩
      · clear u1 u2
        revert y0 h0 hf
        generalize (rows j).length = m
        intro y0 h0 hf
        have h0' : (0 : Int) < m := by omega
        clear h0
        go_wp2
        go_ret
        exact ⟨rfl, rfl⟩
    · exfalso
      exact he.out (fun k hk => hall.out k (by omega))
/-- What a drop leaves. -/
def RDrp (w : World) (kb j : Nat) (B : Array Value) (l' : List Sp) (e : Ending) (w' : World) : Prop :=
  e = .returned (.bool true) ∧ ∃ v', Own w' kb (B.setIfInBounds j v') ∧ RowW w' v' l' ∧ (∀ g, v'.ownBlock = some g → w.heap.size ≤ g) ∧ Mut (fun k => k = kb) w w'
set_option maxRecDepth 100000 in
theorem rdrop_n (w : World) (kb j : Nat) (v : Value) (l : List Sp) (c : Int) (hkb : kb < w.heap.size) (hb0 : w.cell? ⟨kb, j, none⟩ = some v) (hv : Hid (RowW w v l)) (hl : l.length ≤ 65536) (hS : Hid (Srt l)) (hh : hasS l c = false) :
    Calls Try.prog 35 #[.pointer (some ⟨kb, j, none⟩), .int .i64 c] w fun e w' => e = .returned (.bool false) ∧ Below w.heap.size w w' := by
  have H := find_any w v l c hv (by omega) hS
  rw [hh] at H
  obtain ⟨i, hi⟩ : ∃ i : Nat, i = idxS l c := ⟨_, rfl⟩
  rw [← hi] at H
  clear hi hh hv hS
  go_enter Try.func35, Try.ntmps35
  go_wp2_with (go_at_call 38; refine H.mono ?_; rintro e wa ⟨rfl, hbwa⟩)
  go_ret
  exact ⟨rfl, hbwa⟩
set_option maxRecDepth 100000 in
set_option maxHeartbeats 4000000 in
theorem rdrop_y (w : World) (kb j : Nat) (B : Array Value) (v : Value) (l : List Sp) (c : Int) (ho : Hid (Own w kb B)) (hj : B[j]? = some v) (hv : Hid (RowW w v l)) (hl : l.length ≤ 65536) (hS : Hid (Srt l)) (hh : hasS l c = true) :
    Calls Try.prog 35 #[.pointer (some ⟨kb, j, none⟩), .int .i64 c] w (RDrp w kb j B (dropS l c)) := by
  have mixed : Try.prog.follows .mixedOrders = true := by kernel_rfl
  have H := find_any w v l c hv (by omega) hS
  have hlt := idx_lt hS.out hh
  have hda := drop_at hS.out hh
  rw [hh] at H
  rcases hv.out.two with ⟨rfl, rfl⟩ | ⟨g, cap, cur, rfl, h1, h2, h3, h4, h5, h6⟩
  · simp at hlt
  · have hb0 : w.cell? ⟨kb, j, none⟩ = some (.slice (some ⟨g, 0, none⟩) l.length cap) := (ho.out.cell j).trans hj
    have hkb := ho.out.lt
    have hfk := ho.out.fro j
    have hjB : j < B.size := (Array.getElem?_eq_some_iff.1 hj).1
    obtain ⟨i, hi⟩ : ∃ i : Nat, i = idxS l c := ⟨_, rfl⟩
    rw [← hi] at H hlt hda
    have hcell : ∀ (w1 : World), Below w.heap.size w w1 → ∀ j u, (flat l)[j]? = some u → w1.cell? ⟨g, j, none⟩ = some u := fun w1 hb j u hu => by
      have hg1 : w1.heap[g]? = some (.cells cur 97 (0, 0)) := (hb.block g h1).trans h2
      rw [cell_row hg1]
      rw [← h6, List.getElem?_take] at hu
      split at hu
      · simpa using hu
      · cases hu
    have HV1 : Hid (∀ w1, Below w.heap.size w w1 → VW w1 (.slice (some ⟨g, 0, none⟩) i cap) (l.take i)) := fun w1 hb => by
      refine ⟨⟨g, 0, none⟩, cap, by rw [List.length_take, Nat.min_eq_left (by omega)], fun j u hu => ?_⟩
      rw [add_none, Nat.zero_add]
      rw [flat_take, List.getElem?_take] at hu
      split at hu
      · exact hcell w1 hb j u hu
      · cases hu
    have HV2 : Hid (∀ w1, Below w.heap.size w w1 → VW w1 (.slice (some ⟨g, (i + 1) * 2, none⟩) (l.length - (i + 1)) (cap - (i + 1))) (l.drop (i + 1))) := fun w1 hb => by
      refine ⟨⟨g, (i + 1) * 2, none⟩, _, by rw [List.length_drop], fun j u hu => ?_⟩
      rw [add_none]
      rw [flat_drop, List.getElem?_drop] at hu
      exact hcell w1 hb _ u hu
    have HV3 : Hid (∀ w1, Below w.heap.size w w1 → cap = i + 1 → VW w1 (.slice (some ⟨g, 0, none⟩) 0 0) (l.drop (i + 1))) := fun w1 hb he => by
      have e : l.drop (i + 1) = [] := List.drop_of_length_le (by omega)
      rw [e]
      exact ⟨⟨g, 0, none⟩, 0, rfl, fun j u hu => by simp [flat] at hu⟩
    have HF : Hid (∀ w1 W v', Below w.heap.size w w1 → RowW W v' (l.take i ++ l.drop (i + 1)) → (∀ g, v'.ownBlock = some g → w1.heap.size ≤ g) → Below w1.heap.size w1 W → RDrp w kb j B (dropS l c) (.returned (.bool true)) (W.setCell ⟨kb, j, none⟩ v')) := (show _ from fun w1 W v' hb r1 r2 r3 => by
      have z1 := hb.size
      have hO : Own W kb B := (ho.out.keep hb).keep r3
      refine ⟨rfl, v', own_put' hO hjB, ?_, fun g hg => Nat.le_trans z1 (r2 g hg), Mut.set (S := fun k => k = kb) (Mut.of_below (bup hb r3)) (.inl rfl) _⟩
      rw [← hda]
      refine r1.of_block (fun g hg => Below.heap_setCell W _ _ g (fun e => ?_))
      have := r2 g hg
      simp at e
      omega)
    have hfew : (l.take i).length + (l.drop (i + 1)).length ≤ 65536 := by simp; omega
    revert HF
    generalize RDrp w kb j B (dropS l c) = PP
    intro HF
    have HC : Hid (∀ (W : World) (sb : Nat) (x1 x2 : Value), Own W sb #[x1, x2] → VW W x1 (l.take i) → VW W x2 (l.drop (i + 1)) → Calls Try.prog 40 #[.slice (some ⟨sb, 0, none⟩) 2 2] W fun e w' => ∃ v, e = .returned v ∧ RowW w' v (l.take i ++ l.drop (i + 1)) ∧ (∀ g, v.ownBlock = some g → W.heap.size ≤ g) ∧ Below W.heap.size W w' ∧ ∃ q n cp, v = .slice q n cp) := fun W sb x1 x2 k1 k2 k3 => (concat_two W sb x1 x2 _ _ k1 k2 k3 hfew).mono (by
      rintro e w' ⟨v, rfl, k4, k5, k6⟩
      refine ⟨v, rfl, k4, k5, k6, ?_⟩
      rcases k4.two with ⟨rfl, _⟩ | ⟨g, cap, cur, rfl, _⟩ <;> exact ⟨_, _, _, rfl⟩)
    obtain ⟨n, hn⟩ : ∃ n : Nat, n = l.length := ⟨_, rfl⟩
    rw [← hn] at H hlt h3 hb0 HV2
    have hlt' : (i : Int) < n := by omega
    have hle' : (i : Int) + 1 ≤ n := by omega
    have hw1 : IntKind.i64.wrap ((i : Int) + 1) = (i : Int) + 1 := by rw [IntKind.wrap_i64]; omega
    have hb1 : (0 : Int) ≤ (i : Int) + 1 := by omega
    have htn : ((i : Int) + 1).toNat = i + 1 := by omega
    have hin : i ≤ n := by omega
    have hin1 : i + 1 ≤ n := by omega
    have hic : i ≤ cap := by omega
    unfold maxLen at h4
    clear hi hda h2 h6 hv hS h5 hj ho hcell hh hn
    by_cases hci : cap = i + 1
    · subst hci
      obtain rfl : n = i + 1 := by omega
      clear HV2
      have HV4 : Hid (∀ w1, Below w.heap.size w w1 → VW w1 (.slice (some ⟨g, 0, none⟩) 0 0) (l.drop (i + 1))) := fun w1 hb => HV3.out w1 hb rfl
      clear HV3
      go_enter Try.func35, Try.ntmps35
      go_wp2_with (go_at_call 38; refine H.mono ?_; rintro e wa ⟨rfl, hbwa⟩; have zwa := hbwa.size; have y0 := (hbwa.cell (p := ⟨kb, j, none⟩) hkb).trans hb0; have f0 := (hbwa.frozen (p := ⟨kb, j, none⟩) hkb).trans hfk)
      go_region_with (first | (go_at_call 40; refine (HC.out _ _ _ _ (by with_reducible (repeat' first | assumption | refine Own.drew ?_ | refine Own.drewN ?_ _ | (refine Own.at ?_; first | rfl | (simp; done)) | refine Own.past ?_ _)) (HV1.out _ (by with_reducible (repeat' first | assumption | exact Below.refl _ _ | refine Below.drew ?_ | refine bdrewN ?_ _ | refine Below.setCell ?_ (by first | exact Nat.le_refl _ | (simp; done) | (simp; omega) | omega) _ | refine Below.alloc ?_ (by first | exact Nat.le_refl _ | (simp; done) | (simp; omega) | omega) _))) (HV4.out _ (by with_reducible (repeat' first | assumption | exact Below.refl _ _ | refine Below.drew ?_ | refine bdrewN ?_ _ | refine Below.setCell ?_ (by first | exact Nat.le_refl _ | (simp; done) | (simp; omega) | omega) _ | refine Below.alloc ?_ (by first | exact Nat.le_refl _ | (simp; done) | (simp; omega) | omega) _)))).mono ?_; rintro e wb ⟨v', rfl, q1, q2, q3, qq, qn, qc, rfl⟩; have hBwb : Below w.heap.size w wb := bup (by with_reducible (repeat' first | assumption | exact Below.refl _ _ | refine Below.drew ?_ | refine bdrewN ?_ _ | refine Below.setCell ?_ (by first | exact Nat.le_refl _ | (simp; done) | (simp; omega) | omega) _ | refine Below.alloc ?_ (by first | exact Nat.le_refl _ | (simp; done) | (simp; omega) | omega) _)) q3; have d0 := (hBwb.cell (p := ⟨kb, j, none⟩) hkb).trans hb0; have f1 := (hBwb.frozen (p := ⟨kb, j, none⟩) hkb).trans hfk; have HQ := HF.out _ _ _ (show Below w.heap.size w _ from by with_reducible (repeat' first | assumption | exact Below.refl _ _ | refine Below.drew ?_ | refine bdrewN ?_ _ | refine Below.setCell ?_ (by first | exact Nat.le_refl _ | (simp; done) | (simp; omega) | omega) _ | refine Below.alloc ?_ (by first | exact Nat.le_refl _ | (simp; done) | (simp; omega) | omega) _)) q1 q2 q3; have HQ' : Hid _ := HQ; clear HQ q1 q2 q3))
      go_wp2
      all_goals first | exact HQ'.out | (go_ret; exact HQ'.out)
    · go_enter Try.func35, Try.ntmps35
      go_wp2_with (go_at_call 38; refine H.mono ?_; rintro e wa ⟨rfl, hbwa⟩; have zwa := hbwa.size; have y0 := (hbwa.cell (p := ⟨kb, j, none⟩) hkb).trans hb0; have f0 := (hbwa.frozen (p := ⟨kb, j, none⟩) hkb).trans hfk)
      go_region_with (first | (go_at_call 40; refine (HC.out _ _ _ _ (by with_reducible (repeat' first | assumption | refine Own.drew ?_ | refine Own.drewN ?_ _ | (refine Own.at ?_; first | rfl | (simp; done)) | refine Own.past ?_ _)) (HV1.out _ (by with_reducible (repeat' first | assumption | exact Below.refl _ _ | refine Below.drew ?_ | refine bdrewN ?_ _ | refine Below.setCell ?_ (by first | exact Nat.le_refl _ | (simp; done) | (simp; omega) | omega) _ | refine Below.alloc ?_ (by first | exact Nat.le_refl _ | (simp; done) | (simp; omega) | omega) _))) (HV2.out _ (by with_reducible (repeat' first | assumption | exact Below.refl _ _ | refine Below.drew ?_ | refine bdrewN ?_ _ | refine Below.setCell ?_ (by first | exact Nat.le_refl _ | (simp; done) | (simp; omega) | omega) _ | refine Below.alloc ?_ (by first | exact Nat.le_refl _ | (simp; done) | (simp; omega) | omega) _)))).mono ?_; rintro e wb ⟨v', rfl, q1, q2, q3, qq, qn, qc, rfl⟩; have hBwb : Below w.heap.size w wb := bup (by with_reducible (repeat' first | assumption | exact Below.refl _ _ | refine Below.drew ?_ | refine bdrewN ?_ _ | refine Below.setCell ?_ (by first | exact Nat.le_refl _ | (simp; done) | (simp; omega) | omega) _ | refine Below.alloc ?_ (by first | exact Nat.le_refl _ | (simp; done) | (simp; omega) | omega) _)) q3; have d0 := (hBwb.cell (p := ⟨kb, j, none⟩) hkb).trans hb0; have f1 := (hBwb.frozen (p := ⟨kb, j, none⟩) hkb).trans hfk; have HQ := HF.out _ _ _ (show Below w.heap.size w _ from by with_reducible (repeat' first | assumption | exact Below.refl _ _ | refine Below.drew ?_ | refine bdrewN ?_ _ | refine Below.setCell ?_ (by first | exact Nat.le_refl _ | (simp; done) | (simp; omega) | omega) _ | refine Below.alloc ?_ (by first | exact Nat.le_refl _ | (simp; done) | (simp; omega) | omega) _)) q1 q2 q3; have HQ' : Hid _ := HQ; clear HQ q1 q2 q3))
      go_wp2
      all_goals first | exact HQ'.out | (go_ret; exact HQ'.out)
end Go.Proofs.Ytaafpfjmnhmalaa
