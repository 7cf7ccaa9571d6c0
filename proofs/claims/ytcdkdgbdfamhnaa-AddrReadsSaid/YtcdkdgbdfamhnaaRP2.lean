/- The contract of the document's Parse: of every text the cell whose name it is, and whether it is one. New memory alone is made. No condition but that the text is no longer than a text may be. -/
import Derived.Test.YtcdkdgbdfamhnaaRP1
namespace Go.Proofs.Ytcdkdgbdfamhnaa
open Go.RowKit
set_option linter.all false
set_option maxHeartbeats 4000000 in
set_option maxRecDepth 100000 in
theorem rparse_any (s : ByteArray) (w : World) (hs : s.size ≤ maxLen) : Calls Try.prog 11 #[.string s] w fun e w' => e = .returned (.tuple #[.agg #[.int .i64 (pR s), .int .i64 (pC s)], .bool (pB s)]) ∧ Below w.heap.size w w' := by
  unfold maxLen at hs
  go_enter Try.func11, Try.ntmps11
  go_wp2
  go_loopw [3, 4] (fun v x w' => ∃ k : Nat, v = .bool false ∧ x = .int .i64 k ∧ 1 ≤ k ∧ k ≤ 257 ∧ NoCol s k ∧ Below w.heap.size w w' ∧ Own w' w.heap.size #[.int .i64 (0), .int .i64 (0)]) (fun _ x _ => 257 - (intOf x).toNat)
  case atStart => exact ⟨1, rfl, rfl, by omega, by omega, NoCol.one s, bal _ _, Own.new _ _ _⟩
  case round =>
    obtain ⟨k, rfl, rfl, hk1, hk2, hN, hB, o0⟩ := hrel
    have c0 := o0.cell
    have f0 := o0.fro
    have l0 := o0.lt
    by_cases hk : k ≤ 256
    · have hk' : (k : Int) ≤ 256 := by omega
      have hn := colS_size (k : Int)
      by_cases ta : s.size ≤ (colS (k : Int)).size
      · have ta' : (s.size : Int) ≤ ((colS (k : Int)).size : Int) := by omega
        go_wp2_with (go_at_call 20; refine (rcol_any _ _ (by omega) (by omega)).mono ?_; rintro e w1 ⟨rfl, hb⟩; have hB1 : Below w.heap.size w w1 := bup (by with_reducible (repeat' first | assumption | exact Below.refl _ _ | refine Below.drew ?_ | refine Below.setCell ?_ (by first | exact Nat.le_refl _ | (simp; done) | (simp; omega) | omega) _ | refine Below.alloc ?_ (by first | exact Nat.le_refl _ | (simp; done) | (simp; omega) | omega) _)) hb; have o1 : Own w1 (w.heap.size) #[.int .i64 (0), .int .i64 (0)] := Own.keep (by with_reducible (repeat' first | assumption | refine Own.drew ?_ | (refine Own.at ?_; first | rfl | (simp; done)) | refine Own.past ?_ _)) hb; have c1 := o1.cell; have f1 := o1.fro; have l1 := o1.lt)
        exact ⟨⟨k + 1, rfl, by go_num, by omega, by omega, hN.a ta, hB1, o1⟩, by simp [intOf]; omega⟩
      · have ta' : ¬ (s.size : Int) ≤ ((colS (k : Int)).size : Int) := by omega
        have ta2 : decide ((s.size : Int) ≤ ((colS (k : Int)).size : Int)) = false := by simpa using ta
        by_cases tb : (colS (k : Int)).size + 4 < s.size
        · have tb' : ((colS (k : Int)).size : Int) + 4 < (s.size : Int) := by omega
          go_wp2_with (go_at_call 20; refine (rcol_any _ _ (by omega) (by omega)).mono ?_; rintro e w1 ⟨rfl, hb⟩; have hB1 : Below w.heap.size w w1 := bup (by with_reducible (repeat' first | assumption | exact Below.refl _ _ | refine Below.drew ?_ | refine Below.setCell ?_ (by first | exact Nat.le_refl _ | (simp; done) | (simp; omega) | omega) _ | refine Below.alloc ?_ (by first | exact Nat.le_refl _ | (simp; done) | (simp; omega) | omega) _)) hb; have o1 : Own w1 (w.heap.size) #[.int .i64 (0), .int .i64 (0)] := Own.keep (by with_reducible (repeat' first | assumption | refine Own.drew ?_ | (refine Own.at ?_; first | rfl | (simp; done)) | refine Own.past ?_ _)) hb; have c1 := o1.cell; have f1 := o1.fro; have l1 := o1.lt)
          exact ⟨⟨k + 1, rfl, by go_num, by omega, by omega, hN.b tb, hB1, o1⟩, by simp [intOf]; omega⟩
        · have tb' : (s.size : Int) ≤ ((colS (k : Int)).size : Int) + 4 := by omega
          have tb2 : decide (((colS (k : Int)).size : Int) + 4 < (s.size : Int)) = false := by simp; omega
          by_cases tc : s.extract 0 (colS (k : Int)).size = colS (k : Int)
          · have tc2 := teq_t tc
            have TC : Hid (s.extract 0 (colS (k : Int)).size = colS (k : Int)) := tc
            clear tc
            go_wp2_with (go_at_call 20; refine (rcol_any _ _ (by omega) (by omega)).mono ?_; rintro e w1 ⟨rfl, hb⟩; have hB1 : Below w.heap.size w w1 := bup (by with_reducible (repeat' first | assumption | exact Below.refl _ _ | refine Below.drew ?_ | refine Below.setCell ?_ (by first | exact Nat.le_refl _ | (simp; done) | (simp; omega) | omega) _ | refine Below.alloc ?_ (by first | exact Nat.le_refl _ | (simp; done) | (simp; omega) | omega) _)) hb; have o1 : Own w1 (w.heap.size) #[.int .i64 (0), .int .i64 (0)] := Own.keep (by with_reducible (repeat' first | assumption | refine Own.drew ?_ | (refine Own.at ?_; first | rfl | (simp; done)) | refine Own.past ?_ _)) hb; have c1 := o1.cell; have f1 := o1.fro; have l1 := o1.lt)
            obtain ⟨q, hQ⟩ : ∃ q, rowO s (colS (k : Int)).size = q := ⟨_, rfl⟩
            have q4 : q.size ≤ 4 := by rw [← hQ, rowO_size]; omega
            have e : s.extract (colS (k : Int)).size s.size = q := hQ
            rw [e]
            have HQ : Hid (rowO s (colS (k : Int)).size = q) := hQ
            clear e hQ
            go_loop [6, 8] (fun a b => ∃ i : Nat, i ≤ q.size ∧ a = .int .i64 (rowF (q.data.toList.take i)) ∧ b = .int .i64 i) (fun _ b => q.size - (intOf b).toNat)
            case atStart => exact ⟨0, by omega, rfl, rfl⟩
            case round =>
              obtain ⟨i, hi, rfl, rfl⟩ := hrel
              have hbd := rowF_bd (q.data.toList.take i) (by simp; omega)
              by_cases hlt : i < q.size
              · have hsn : rowF (q.data.toList.take (i + 1)) = rowStep (rowF (q.data.toList.take i)) q[i] := by
                  rw [← rowF_snoc, List.take_succ_eq_append_getElem (by simpa using hlt)]; rfl
                have HS : Hid (rowF (q.data.toList.take (i + 1)) = rowStep (rowF (q.data.toList.take i)) q[i]) := hsn
                clear hsn
                have hx := q[i].toNat_lt
                by_cases hx1 : q[i].toNat < 48
                · have hx1' : (q[i].toNat : Int) < 48 := by omega
                  go_wp2
                  all_goals exact ⟨⟨i + 1, by omega, by rw [HS.out, rowStep_bad _ _ (by omega)]; go_num, by go_num⟩, by simp [intOf]; omega⟩
                · have hx1' : decide ((q[i].toNat : Int) < 48) = false := by simp; omega
                  by_cases hx2 : 57 < q[i].toNat
                  · have hx2' : 57 < (q[i].toNat : Int) := by omega
                    go_wp2
                    all_goals exact ⟨⟨i + 1, by omega, by rw [HS.out, rowStep_bad _ _ (by omega)]; go_num, by go_num⟩, by simp [intOf]; omega⟩
                  · have hx2' : (q[i].toNat : Int) ≤ 57 := by omega
                    have hx3 : 48 ≤ (q[i].toNat : Int) := by omega
                    go_wp2
                    all_goals exact ⟨⟨i + 1, by omega, by rw [HS.out, rowStep_ok _ _ (by omega) (by omega)], by go_num⟩, by simp [intOf]; omega⟩
              · have hall : q.data.toList.take i = q.data.toList := List.take_of_length_le (by simp; omega)
                rw [hall] at hbd ⊢
                clear hall
                by_cases hf : nameS (rowF q.data.toList) (k : Int) = s
                · have hf2 := teq_t hf
                  have HF : Hid (nameS (rowF q.data.toList) (k : Int) = s) := hf
                  clear hf
                  go_wp2_with (go_at_call 21; refine (rname_any _ _ _).mono ?_; rintro e w2 ⟨rfl, hb⟩; have hB2 : Below w.heap.size w w2 := bup (by with_reducible (repeat' first | assumption | exact Below.refl _ _ | refine Below.drew ?_ | refine Below.setCell ?_ (by first | exact Nat.le_refl _ | (simp; done) | (simp; omega) | omega) _ | refine Below.alloc ?_ (by first | exact Nat.le_refl _ | (simp; done) | (simp; omega) | omega) _)) hb; have p0 : Own w2 (w.heap.size) #[.int .i64 (0), .int .i64 (0)] := Own.keep (by with_reducible (repeat' first | assumption | refine Own.drew ?_ | (refine Own.at ?_; first | rfl | (simp; done)) | refine Own.past ?_ _)) hb; have d0 := p0.cell; have g0 := p0.fro; have m0 := p0.lt; have p1 : Own w2 (w1.heap.size) #[.int .i64 (rowF q.data.toList), .int .i64 ((k : Int))] := Own.keep (by with_reducible (repeat' first | assumption | refine Own.drew ?_ | (refine Own.at ?_; first | rfl | (simp; done)) | refine Own.past ?_ _)) hb; have d1 := p1.cell; have g1 := p1.fro; have m1 := p1.lt)
                  all_goals exact bodyPost_ret (v := .tuple #[.agg #[.int .i64 (rowF q.data.toList), .int .i64 k], .bool true]) (by simp [results, Try.results11, go_sem, d0, g0]) rfl ⟨by have z := name_found (by omega) HF.out; rw [z.1, z.2.1, z.2.2], by with_reducible (repeat' first | assumption | exact Below.refl _ _ | refine Below.drew ?_ | refine Below.setCell ?_ (by first | exact Nat.le_refl _ | (simp; done) | (simp; omega) | omega) _ | refine Below.alloc ?_ (by first | exact Nat.le_refl _ | (simp; done) | (simp; omega) | omega) _)⟩
                · have hf2 := teq_f hf
                  have hd : NoCol s (k + 1) := hN.d (by rw [HQ.out]; exact hf)
                  clear hf
                  go_wp2_with (go_at_call 21; refine (rname_any _ _ _).mono ?_; rintro e w2 ⟨rfl, hb⟩; have hB2 : Below w.heap.size w w2 := bup (by with_reducible (repeat' first | assumption | exact Below.refl _ _ | refine Below.drew ?_ | refine Below.setCell ?_ (by first | exact Nat.le_refl _ | (simp; done) | (simp; omega) | omega) _ | refine Below.alloc ?_ (by first | exact Nat.le_refl _ | (simp; done) | (simp; omega) | omega) _)) hb; have p0 : Own w2 (w.heap.size) #[.int .i64 (0), .int .i64 (0)] := Own.keep (by with_reducible (repeat' first | assumption | refine Own.drew ?_ | (refine Own.at ?_; first | rfl | (simp; done)) | refine Own.past ?_ _)) hb; have d0 := p0.cell; have g0 := p0.fro; have m0 := p0.lt; have p1 : Own w2 (w1.heap.size) #[.int .i64 (rowF q.data.toList), .int .i64 ((k : Int))] := Own.keep (by with_reducible (repeat' first | assumption | refine Own.drew ?_ | (refine Own.at ?_; first | rfl | (simp; done)) | refine Own.past ?_ _)) hb; have d1 := p1.cell; have g1 := p1.fro; have m1 := p1.lt)
                  all_goals exact ⟨⟨k + 1, rfl, by go_num, by omega, by omega, hd, hB2, p0⟩, by simp [intOf]; omega⟩
          · have tc2 := teq_f tc
            go_wp2_with (go_at_call 20; refine (rcol_any _ _ (by omega) (by omega)).mono ?_; rintro e w1 ⟨rfl, hb⟩; have hB1 : Below w.heap.size w w1 := bup (by with_reducible (repeat' first | assumption | exact Below.refl _ _ | refine Below.drew ?_ | refine Below.setCell ?_ (by first | exact Nat.le_refl _ | (simp; done) | (simp; omega) | omega) _ | refine Below.alloc ?_ (by first | exact Nat.le_refl _ | (simp; done) | (simp; omega) | omega) _)) hb; have o1 : Own w1 (w.heap.size) #[.int .i64 (0), .int .i64 (0)] := Own.keep (by with_reducible (repeat' first | assumption | refine Own.drew ?_ | (refine Own.at ?_; first | rfl | (simp; done)) | refine Own.past ?_ _)) hb; have c1 := o1.cell; have f1 := o1.fro; have l1 := o1.lt)
            exact ⟨⟨k + 1, rfl, by go_num, by omega, by omega, hN.c tc, hB1, o1⟩, by simp [intOf]; omega⟩
    · obtain rfl : k = 257 := by omega
      have hO := hN.stop
      go_wp2
      all_goals exact bodyPost_ret (v := .tuple #[.agg #[.int .i64 0, .int .i64 0], .bool false]) (by simp [results, Try.results11, go_sem, c0, f0]) rfl ⟨by rw [(pN hO).1, (pN hO).2.1, (pN hO).2.2], by with_reducible (repeat' first | assumption | exact Below.refl _ _ | refine Below.drew ?_ | refine Below.setCell ?_ (by first | exact Nat.le_refl _ | (simp; done) | (simp; omega) | omega) _ | refine Below.alloc ?_ (by first | exact Nat.le_refl _ | (simp; done) | (simp; omega) | omega) _)⟩
end Go.Proofs.Ytcdkdgbdfamhnaa
