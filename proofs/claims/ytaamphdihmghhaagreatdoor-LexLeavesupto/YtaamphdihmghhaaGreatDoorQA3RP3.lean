/- The contract of the document's MayRect: of every rectangle whether it may be. New memory alone is made. No condition. · The contract of the document's ParseRect: of every text the rectangle whose name it is, and whether it is one. New memory alone is made. No condition but that the text is no longer than a text may be. -/
import Derived.Test.YtaamphdihmghhaaGreatDoorQA2
import Derived.Test.YtaamphdihmghhaaGreatDoorQRP1RP2
namespace Go.Proofs.YtaamphdihmghhaaGreatDoor
open Go.RowKit
set_option linter.all false
set_option maxHeartbeats 1000000 in
theorem rmayR1 (t l b r : Int) (w : World) (h1 : mayC t l = false) : Calls Tryz.prog 60 #[(.agg #[.int .i64 (t), .int .i64 (l), .int .i64 (b), .int .i64 (r)])] w fun e w' => e = .returned (.bool false) ∧ Below w.heap.size w w' := by
  go_enter Tryz.func60, Tryz.ntmps60
  go_wp2_with (go_at_call 79; refine (rmay_any _ _ _).mono ?_; rintro e w1 ⟨rfl, hb⟩; have hB : Below w.heap.size w w1 := bup (by with_reducible (repeat' first | assumption | exact Below.refl _ _ | refine Below.drew ?_ | refine Below.setCell ?_ (by first | exact Nat.le_refl _ | (simp; done) | (simp; omega) | omega) _ | refine Below.alloc ?_ (by first | exact Nat.le_refl _ | (simp; done) | (simp; omega) | omega) _)) hb; have o0 : Own w1 (w.heap.size) #[.int .i64 (t), .int .i64 (l), .int .i64 (b), .int .i64 (r)] := Own.keep (by with_reducible (repeat' first | assumption | refine Own.drew ?_ | (refine Own.at ?_; first | rfl | (simp; done)) | refine Own.past ?_ _)) hb; have c0 := o0.cell; have f0 := o0.fro; have l0 := o0.lt)
  all_goals go_ret
  all_goals exact ⟨rfl, by with_reducible (repeat' first | assumption | exact Below.refl _ _ | refine Below.drew ?_ | refine Below.setCell ?_ (by first | exact Nat.le_refl _ | (simp; done) | (simp; omega) | omega) _ | refine Below.alloc ?_ (by first | exact Nat.le_refl _ | (simp; done) | (simp; omega) | omega) _)⟩
set_option maxHeartbeats 1000000 in
theorem rmayR2 (t l b r : Int) (w : World) (h1 : mayC t l = true) (h2 : mayC b r = false) : Calls Tryz.prog 60 #[(.agg #[.int .i64 (t), .int .i64 (l), .int .i64 (b), .int .i64 (r)])] w fun e w' => e = .returned (.bool false) ∧ Below w.heap.size w w' := by
  go_enter Tryz.func60, Tryz.ntmps60
  go_wp2_with (go_at_call 79; refine (rmay_any _ _ _).mono ?_; rintro e w1 ⟨rfl, hb⟩; have hB : Below w.heap.size w w1 := bup (by with_reducible (repeat' first | assumption | exact Below.refl _ _ | refine Below.drew ?_ | refine Below.setCell ?_ (by first | exact Nat.le_refl _ | (simp; done) | (simp; omega) | omega) _ | refine Below.alloc ?_ (by first | exact Nat.le_refl _ | (simp; done) | (simp; omega) | omega) _)) hb; have o0 : Own w1 (w.heap.size) #[.int .i64 (t), .int .i64 (l), .int .i64 (b), .int .i64 (r)] := Own.keep (by with_reducible (repeat' first | assumption | refine Own.drew ?_ | (refine Own.at ?_; first | rfl | (simp; done)) | refine Own.past ?_ _)) hb; have c0 := o0.cell; have f0 := o0.fro; have l0 := o0.lt)
  all_goals go_ret
  all_goals exact ⟨rfl, by with_reducible (repeat' first | assumption | exact Below.refl _ _ | refine Below.drew ?_ | refine Below.setCell ?_ (by first | exact Nat.le_refl _ | (simp; done) | (simp; omega) | omega) _ | refine Below.alloc ?_ (by first | exact Nat.le_refl _ | (simp; done) | (simp; omega) | omega) _)⟩
set_option maxHeartbeats 1000000 in
theorem rmayR3 (t l b r : Int) (w : World) (h1 : mayC t l = true) (h2 : mayC b r = true) (h3 : decide (t ≤ b) = false) : Calls Tryz.prog 60 #[(.agg #[.int .i64 (t), .int .i64 (l), .int .i64 (b), .int .i64 (r)])] w fun e w' => e = .returned (.bool false) ∧ Below w.heap.size w w' := by
  go_enter Tryz.func60, Tryz.ntmps60
  go_wp2_with (go_at_call 79; refine (rmay_any _ _ _).mono ?_; rintro e w1 ⟨rfl, hb⟩; have hB : Below w.heap.size w w1 := bup (by with_reducible (repeat' first | assumption | exact Below.refl _ _ | refine Below.drew ?_ | refine Below.setCell ?_ (by first | exact Nat.le_refl _ | (simp; done) | (simp; omega) | omega) _ | refine Below.alloc ?_ (by first | exact Nat.le_refl _ | (simp; done) | (simp; omega) | omega) _)) hb; have o0 : Own w1 (w.heap.size) #[.int .i64 (t), .int .i64 (l), .int .i64 (b), .int .i64 (r)] := Own.keep (by with_reducible (repeat' first | assumption | refine Own.drew ?_ | (refine Own.at ?_; first | rfl | (simp; done)) | refine Own.past ?_ _)) hb; have c0 := o0.cell; have f0 := o0.fro; have l0 := o0.lt)
  all_goals go_ret
  all_goals exact ⟨rfl, by with_reducible (repeat' first | assumption | exact Below.refl _ _ | refine Below.drew ?_ | refine Below.setCell ?_ (by first | exact Nat.le_refl _ | (simp; done) | (simp; omega) | omega) _ | refine Below.alloc ?_ (by first | exact Nat.le_refl _ | (simp; done) | (simp; omega) | omega) _)⟩
set_option maxHeartbeats 1000000 in
theorem rmayR4 (t l b r : Int) (w : World) (h1 : mayC t l = true) (h2 : mayC b r = true) (h3 : t ≤ b) : Calls Tryz.prog 60 #[(.agg #[.int .i64 (t), .int .i64 (l), .int .i64 (b), .int .i64 (r)])] w fun e w' => e = .returned (.bool (decide (l ≤ r))) ∧ Below w.heap.size w w' := by
  go_enter Tryz.func60, Tryz.ntmps60
  go_wp2_with (go_at_call 79; refine (rmay_any _ _ _).mono ?_; rintro e w1 ⟨rfl, hb⟩; have hB : Below w.heap.size w w1 := bup (by with_reducible (repeat' first | assumption | exact Below.refl _ _ | refine Below.drew ?_ | refine Below.setCell ?_ (by first | exact Nat.le_refl _ | (simp; done) | (simp; omega) | omega) _ | refine Below.alloc ?_ (by first | exact Nat.le_refl _ | (simp; done) | (simp; omega) | omega) _)) hb; have o0 : Own w1 (w.heap.size) #[.int .i64 (t), .int .i64 (l), .int .i64 (b), .int .i64 (r)] := Own.keep (by with_reducible (repeat' first | assumption | refine Own.drew ?_ | (refine Own.at ?_; first | rfl | (simp; done)) | refine Own.past ?_ _)) hb; have c0 := o0.cell; have f0 := o0.fro; have l0 := o0.lt)
  all_goals go_ret
  all_goals exact ⟨rfl, by with_reducible (repeat' first | assumption | exact Below.refl _ _ | refine Below.drew ?_ | refine Below.setCell ?_ (by first | exact Nat.le_refl _ | (simp; done) | (simp; omega) | omega) _ | refine Below.alloc ?_ (by first | exact Nat.le_refl _ | (simp; done) | (simp; omega) | omega) _)⟩
theorem rmayR_any (t l b r : Int) (w : World) : Calls Tryz.prog 60 #[(.agg #[.int .i64 (t), .int .i64 (l), .int .i64 (b), .int .i64 (r)])] w fun e w' => e = .returned (.bool (mayR t l b r)) ∧ Below w.heap.size w w' := by
  cases h1 : mayC t l
  · rw [mayR_no1 h1]; exact rmayR1 t l b r w h1
  cases h2 : mayC b r
  · rw [mayR_no2 h2]; exact rmayR2 t l b r w h1 h2
  by_cases h3 : t ≤ b
  · rw [mayR_yes h1 h2 h3]; exact rmayR4 t l b r w h1 h2 h3
  · rw [mayR_no3 h3]; exact rmayR3 t l b r w h1 h2 (by simpa using h3)
end Go.Proofs.YtaamphdihmghhaaGreatDoor
namespace Go.Proofs.YtaamphdihmghhaaGreatDoor
open Go.RowKit
set_option linter.all false
/-- No colon among the first i signs. -/
def NoPt (s : ByteArray) (i : Nat) : Prop := ∀ x ∈ s.data.toList.take i, x ≠ 58
theorem NoPt.next {s : ByteArray} {i : Nat} (h : NoPt s i) (hi : i < s.size) (hx : s[i].toNat ≠ 58) : NoPt s (i + 1) := by
  intro x hx'
  rw [List.take_succ_eq_append_getElem (by simpa using hi)] at hx'
  rcases List.mem_append.1 hx' with k | k
  · exact h x k
  · rw [List.mem_singleton] at k
    subst k
    intro e
    exact hx (congrArg UInt8.toNat e)
theorem NoPt.at {s : ByteArray} {i : Nat} (h : NoPt s i) (hi : i < s.size) (hx : s[i].toNat = 58) : ptAt s = i := by
  have h2 : s.data.toList[i]'(by simpa using hi) = 58 := by
    apply UInt8.toNat_inj.1; exact hx
  have h3 : s.data.toList.drop i = 58 :: s.data.toList.drop (i + 1) := by rw [List.drop_eq_getElem_cons (by simpa using hi), h2]
  have e : s.data.toList.take i ++ 58 :: s.data.toList.drop (i + 1) = s.data.toList := by rw [← h3, List.take_append_drop]
  have k := idx_app (s.data.toList.take i) (s.data.toList.drop (i + 1)) h
  rw [e] at k
  unfold ptAt
  rw [k]
  simp; omega
theorem NoPt.none {s : ByteArray} {i : Nat} (h : NoPt s i) (hi : ¬ i < s.size) : ¬ 0 ≤ ptAt s := by
  intro hp
  have hlt := ptAt_lt s hp
  have e : Lib.indexByte s.data.toList 58 = ((ptAt s).toNat : Nat) := by show ptAt s = _; omega
  have h1 := (Lib.indexByte_some e).1
  refine h 58 ?_ rfl
  rw [List.take_of_length_le (by simp; omega)]
  exact List.mem_of_getElem? h1
theorem cutA_at {s : ByteArray} {i : Nat} (h : ptAt s = i) : cutA s = s.extract 0 i := by unfold cutA; rw [if_pos (by omega), h]; simp
theorem cutB_at {s : ByteArray} {i : Nat} (h : ptAt s = i) : cutB s = s.extract (i + 1) s.size := by unfold cutB; rw [if_pos (by omega), h]; simp
theorem cut_sizes (s : ByteArray) : (cutA s).size ≤ s.size ∧ (cutB s).size ≤ s.size := by
  unfold cutA cutB
  constructor
  · split
    · simp; omega
    · omega
  · split
    · simp
    · exact Nat.zero_le _
theorem qB_none {s : ByteArray} (h : ¬ 0 ≤ ptAt s) : qB s = false := by
  have e : cutB s = ⟨#[]⟩ := by unfold cutB; rw [if_neg h]
  unfold qB
  rw [e, pB_nil]; simp
set_option maxHeartbeats 8000000 in
set_option maxRecDepth 100000 in
theorem rprect_any (s : ByteArray) (w : World) (hs : s.size ≤ maxLen) : Calls Tryz.prog 37 #[.string s] w fun e w' => e = .returned (.tuple #[(.agg #[.int .i64 (qT s), .int .i64 (qL s), .int .i64 (qO s), .int .i64 (qR s)]), .bool (qB s)]) ∧ Below w.heap.size w w' := by
  have hs' : s.size ≤ 9223372036854775807 := by unfold maxLen at hs; omega
  go_enter Tryz.func37, Tryz.ntmps37
  go_wp2
  go_loop [3, 4] (fun v x => ∃ i : Nat, v = .bool false ∧ x = .int .i64 i ∧ i ≤ s.size ∧ NoPt s i) (fun _ x => s.size - (intOf x).toNat)
  case atStart => exact ⟨0, rfl, rfl, by omega, fun x h => by simp at h⟩
  case round =>
    obtain ⟨i, rfl, rfl, hi, hN⟩ := hrel
    by_cases hlt : i < s.size
    · have hx := s[i].toNat_lt
      by_cases h58 : s[i].toNat = 58
      · have hp := hN.at hlt h58
        have eA : s.extract 0 i = cutA s := (cutA_at hp).symm
        have eB : s.extract (i + 1) s.size = cutB s := (cutB_at hp).symm
        have h58' : ((s[i].toNat : Int) != 58) = false := by simp [h58]
        clear h58 hp hN
        have hzA : (cutA s).size ≤ maxLen := by have := (cut_sizes s).1; omega
        have hzB : (cutB s).size ≤ maxLen := by have := (cut_sizes s).2; omega
        cases h1 : pB (cutA s)
        · have HB : Hid (qB s = false) := by show qB s = false; simp [qB, h1]
          go_wp2_with fail
          go_at_call 38
          refine (rparse_any _ _ (by assumption)).mono ?_
          rintro e w1 ⟨rfl, hb⟩
          have hBw1 : Below w.heap.size w w1 := bup (by with_reducible (repeat' first | assumption | exact Below.refl _ _ | refine Below.drew ?_ | refine Below.setCell ?_ (by first | exact Nat.le_refl _ | (simp; done) | (simp; omega) | omega) _ | refine Below.alloc ?_ (by first | exact Nat.le_refl _ | (simp; done) | (simp; omega) | omega) _)) hb
          have o0 : Own w1 (w.heap.size) #[.int .i64 (0), .int .i64 (0), .int .i64 (0), .int .i64 (0)] := Own.keep (by with_reducible (repeat' first | assumption | refine Own.drew ?_ | (refine Own.at ?_; first | rfl | (simp; done)) | refine Own.past ?_ _)) hb
          have c0 := o0.cell
          have f0 := o0.fro
          have l0 := o0.lt
          go_wp2_with fail
          go_at_call 38
          refine (rparse_any _ _ (by assumption)).mono ?_
          rintro e w2 ⟨rfl, hb⟩
          have hBw2 : Below w.heap.size w w2 := bup (by with_reducible (repeat' first | assumption | exact Below.refl _ _ | refine Below.drew ?_ | refine Below.setCell ?_ (by first | exact Nat.le_refl _ | (simp; done) | (simp; omega) | omega) _ | refine Below.alloc ?_ (by first | exact Nat.le_refl _ | (simp; done) | (simp; omega) | omega) _)) hb
          have o0 : Own w2 (w.heap.size) #[.int .i64 (0), .int .i64 (0), .int .i64 (0), .int .i64 (0)] := Own.keep (by with_reducible (repeat' first | assumption | refine Own.drew ?_ | (refine Own.at ?_; first | rfl | (simp; done)) | refine Own.past ?_ _)) hb
          have c0 := o0.cell
          have f0 := o0.fro
          have l0 := o0.lt
          have o1 : Own w2 (w1.heap.size) #[.int .i64 (pR (cutA s)), .int .i64 (pC (cutA s))] := Own.keep (by with_reducible (repeat' first | assumption | refine Own.drew ?_ | (refine Own.at ?_; first | rfl | (simp; done)) | refine Own.past ?_ _)) hb
          have c1 := o1.cell
          have f1 := o1.fro
          have l1 := o1.lt
          go_wp2_with (go_at_call 60; refine (rmayR_any _ _ _ _ _).mono ?_; rintro e w3 ⟨rfl, hb⟩; have hB3 : Below w.heap.size w w3 := bup (by with_reducible (repeat' first | assumption | exact Below.refl _ _ | refine Below.drew ?_ | refine Below.setCell ?_ (by first | exact Nat.le_refl _ | (simp; done) | (simp; omega) | omega) _ | refine Below.alloc ?_ (by first | exact Nat.le_refl _ | (simp; done) | (simp; omega) | omega) _)) hb; have o0 : Own w3 (w.heap.size) #[.int .i64 (0), .int .i64 (0), .int .i64 (0), .int .i64 (0)] := Own.keep (by with_reducible (repeat' first | assumption | refine Own.drew ?_ | (refine Own.at ?_; first | rfl | (simp; done)) | refine Own.past ?_ _)) hb; have c0 := o0.cell; have f0 := o0.fro; have l0 := o0.lt; have o1 : Own w3 (w2.heap.size + 1) #[.int .i64 (pR (cutA s)), .int .i64 (pC (cutA s)), .int .i64 (pR (cutB s)), .int .i64 (pC (cutB s))] := Own.keep (by with_reducible (repeat' first | assumption | refine Own.drew ?_ | (refine Own.at ?_; first | rfl | (simp; done)) | refine Own.past ?_ _)) hb; have c1 := o1.cell; have f1 := o1.fro; have l1 := o1.lt)
          all_goals exact bodyPost_ret (v := (.tuple #[(.agg #[.int .i64 (0), .int .i64 (0), .int .i64 (0), .int .i64 (0)]), .bool false])) (by simp [results, Tryz.results37, go_sem, c0, f0, l0]) rfl ⟨by have z := qN HB.out; rw [z.1, z.2.1, z.2.2.1, z.2.2.2, HB.out], by with_reducible (repeat' first | assumption | exact Below.refl _ _ | refine Below.drew ?_ | refine Below.setCell ?_ (by first | exact Nat.le_refl _ | (simp; done) | (simp; omega) | omega) _ | refine Below.alloc ?_ (by first | exact Nat.le_refl _ | (simp; done) | (simp; omega) | omega) _)⟩
        · cases h2 : pB (cutB s)
          · have HB : Hid (qB s = false) := by show qB s = false; simp [qB, h2]
            go_wp2_with fail
            go_at_call 38
            refine (rparse_any _ _ (by assumption)).mono ?_
            rintro e w1 ⟨rfl, hb⟩
            have hBw1 : Below w.heap.size w w1 := bup (by with_reducible (repeat' first | assumption | exact Below.refl _ _ | refine Below.drew ?_ | refine Below.setCell ?_ (by first | exact Nat.le_refl _ | (simp; done) | (simp; omega) | omega) _ | refine Below.alloc ?_ (by first | exact Nat.le_refl _ | (simp; done) | (simp; omega) | omega) _)) hb
            have o0 : Own w1 (w.heap.size) #[.int .i64 (0), .int .i64 (0), .int .i64 (0), .int .i64 (0)] := Own.keep (by with_reducible (repeat' first | assumption | refine Own.drew ?_ | (refine Own.at ?_; first | rfl | (simp; done)) | refine Own.past ?_ _)) hb
            have c0 := o0.cell
            have f0 := o0.fro
            have l0 := o0.lt
            go_wp2_with fail
            go_at_call 38
            refine (rparse_any _ _ (by assumption)).mono ?_
            rintro e w2 ⟨rfl, hb⟩
            have hBw2 : Below w.heap.size w w2 := bup (by with_reducible (repeat' first | assumption | exact Below.refl _ _ | refine Below.drew ?_ | refine Below.setCell ?_ (by first | exact Nat.le_refl _ | (simp; done) | (simp; omega) | omega) _ | refine Below.alloc ?_ (by first | exact Nat.le_refl _ | (simp; done) | (simp; omega) | omega) _)) hb
            have o0 : Own w2 (w.heap.size) #[.int .i64 (0), .int .i64 (0), .int .i64 (0), .int .i64 (0)] := Own.keep (by with_reducible (repeat' first | assumption | refine Own.drew ?_ | (refine Own.at ?_; first | rfl | (simp; done)) | refine Own.past ?_ _)) hb
            have c0 := o0.cell
            have f0 := o0.fro
            have l0 := o0.lt
            have o1 : Own w2 (w1.heap.size) #[.int .i64 (pR (cutA s)), .int .i64 (pC (cutA s))] := Own.keep (by with_reducible (repeat' first | assumption | refine Own.drew ?_ | (refine Own.at ?_; first | rfl | (simp; done)) | refine Own.past ?_ _)) hb
            have c1 := o1.cell
            have f1 := o1.fro
            have l1 := o1.lt
            go_wp2_with (go_at_call 60; refine (rmayR_any _ _ _ _ _).mono ?_; rintro e w3 ⟨rfl, hb⟩; have hB3 : Below w.heap.size w w3 := bup (by with_reducible (repeat' first | assumption | exact Below.refl _ _ | refine Below.drew ?_ | refine Below.setCell ?_ (by first | exact Nat.le_refl _ | (simp; done) | (simp; omega) | omega) _ | refine Below.alloc ?_ (by first | exact Nat.le_refl _ | (simp; done) | (simp; omega) | omega) _)) hb; have o0 : Own w3 (w.heap.size) #[.int .i64 (0), .int .i64 (0), .int .i64 (0), .int .i64 (0)] := Own.keep (by with_reducible (repeat' first | assumption | refine Own.drew ?_ | (refine Own.at ?_; first | rfl | (simp; done)) | refine Own.past ?_ _)) hb; have c0 := o0.cell; have f0 := o0.fro; have l0 := o0.lt; have o1 : Own w3 (w2.heap.size + 1) #[.int .i64 (pR (cutA s)), .int .i64 (pC (cutA s)), .int .i64 (pR (cutB s)), .int .i64 (pC (cutB s))] := Own.keep (by with_reducible (repeat' first | assumption | refine Own.drew ?_ | (refine Own.at ?_; first | rfl | (simp; done)) | refine Own.past ?_ _)) hb; have c1 := o1.cell; have f1 := o1.fro; have l1 := o1.lt)
            all_goals exact bodyPost_ret (v := (.tuple #[(.agg #[.int .i64 (0), .int .i64 (0), .int .i64 (0), .int .i64 (0)]), .bool false])) (by simp [results, Tryz.results37, go_sem, c0, f0, l0]) rfl ⟨by have z := qN HB.out; rw [z.1, z.2.1, z.2.2.1, z.2.2.2, HB.out], by with_reducible (repeat' first | assumption | exact Below.refl _ _ | refine Below.drew ?_ | refine Below.setCell ?_ (by first | exact Nat.le_refl _ | (simp; done) | (simp; omega) | omega) _ | refine Below.alloc ?_ (by first | exact Nat.le_refl _ | (simp; done) | (simp; omega) | omega) _)⟩
          · cases h3 : mayR (pR (cutA s)) (pC (cutA s)) (pR (cutB s)) (pC (cutB s))
            · have HB : Hid (qB s = false) := by show qB s = false; simp [qB, h3]
              go_wp2_with fail
              go_at_call 38
              refine (rparse_any _ _ (by assumption)).mono ?_
              rintro e w1 ⟨rfl, hb⟩
              have hBw1 : Below w.heap.size w w1 := bup (by with_reducible (repeat' first | assumption | exact Below.refl _ _ | refine Below.drew ?_ | refine Below.setCell ?_ (by first | exact Nat.le_refl _ | (simp; done) | (simp; omega) | omega) _ | refine Below.alloc ?_ (by first | exact Nat.le_refl _ | (simp; done) | (simp; omega) | omega) _)) hb
              have o0 : Own w1 (w.heap.size) #[.int .i64 (0), .int .i64 (0), .int .i64 (0), .int .i64 (0)] := Own.keep (by with_reducible (repeat' first | assumption | refine Own.drew ?_ | (refine Own.at ?_; first | rfl | (simp; done)) | refine Own.past ?_ _)) hb
              have c0 := o0.cell
              have f0 := o0.fro
              have l0 := o0.lt
              go_wp2_with fail
              go_at_call 38
              refine (rparse_any _ _ (by assumption)).mono ?_
              rintro e w2 ⟨rfl, hb⟩
              have hBw2 : Below w.heap.size w w2 := bup (by with_reducible (repeat' first | assumption | exact Below.refl _ _ | refine Below.drew ?_ | refine Below.setCell ?_ (by first | exact Nat.le_refl _ | (simp; done) | (simp; omega) | omega) _ | refine Below.alloc ?_ (by first | exact Nat.le_refl _ | (simp; done) | (simp; omega) | omega) _)) hb
              have o0 : Own w2 (w.heap.size) #[.int .i64 (0), .int .i64 (0), .int .i64 (0), .int .i64 (0)] := Own.keep (by with_reducible (repeat' first | assumption | refine Own.drew ?_ | (refine Own.at ?_; first | rfl | (simp; done)) | refine Own.past ?_ _)) hb
              have c0 := o0.cell
              have f0 := o0.fro
              have l0 := o0.lt
              have o1 : Own w2 (w1.heap.size) #[.int .i64 (pR (cutA s)), .int .i64 (pC (cutA s))] := Own.keep (by with_reducible (repeat' first | assumption | refine Own.drew ?_ | (refine Own.at ?_; first | rfl | (simp; done)) | refine Own.past ?_ _)) hb
              have c1 := o1.cell
              have f1 := o1.fro
              have l1 := o1.lt
              go_wp2_with (go_at_call 60; refine (rmayR_any _ _ _ _ _).mono ?_; rintro e w3 ⟨rfl, hb⟩; have hB3 : Below w.heap.size w w3 := bup (by with_reducible (repeat' first | assumption | exact Below.refl _ _ | refine Below.drew ?_ | refine Below.setCell ?_ (by first | exact Nat.le_refl _ | (simp; done) | (simp; omega) | omega) _ | refine Below.alloc ?_ (by first | exact Nat.le_refl _ | (simp; done) | (simp; omega) | omega) _)) hb; have o0 : Own w3 (w.heap.size) #[.int .i64 (0), .int .i64 (0), .int .i64 (0), .int .i64 (0)] := Own.keep (by with_reducible (repeat' first | assumption | refine Own.drew ?_ | (refine Own.at ?_; first | rfl | (simp; done)) | refine Own.past ?_ _)) hb; have c0 := o0.cell; have f0 := o0.fro; have l0 := o0.lt; have o1 : Own w3 (w2.heap.size + 1) #[.int .i64 (pR (cutA s)), .int .i64 (pC (cutA s)), .int .i64 (pR (cutB s)), .int .i64 (pC (cutB s))] := Own.keep (by with_reducible (repeat' first | assumption | refine Own.drew ?_ | (refine Own.at ?_; first | rfl | (simp; done)) | refine Own.past ?_ _)) hb; have c1 := o1.cell; have f1 := o1.fro; have l1 := o1.lt)
              all_goals exact bodyPost_ret (v := (.tuple #[(.agg #[.int .i64 (0), .int .i64 (0), .int .i64 (0), .int .i64 (0)]), .bool false])) (by simp [results, Tryz.results37, go_sem, c0, f0, l0]) rfl ⟨by have z := qN HB.out; rw [z.1, z.2.1, z.2.2.1, z.2.2.2, HB.out], by with_reducible (repeat' first | assumption | exact Below.refl _ _ | refine Below.drew ?_ | refine Below.setCell ?_ (by first | exact Nat.le_refl _ | (simp; done) | (simp; omega) | omega) _ | refine Below.alloc ?_ (by first | exact Nat.le_refl _ | (simp; done) | (simp; omega) | omega) _)⟩
            · have HB : Hid (qB s = true) := by show qB s = true; simp [qB, h1, h2, h3]
              go_wp2_with fail
              go_at_call 38
              refine (rparse_any _ _ (by assumption)).mono ?_
              rintro e w1 ⟨rfl, hb⟩
              have hBw1 : Below w.heap.size w w1 := bup (by with_reducible (repeat' first | assumption | exact Below.refl _ _ | refine Below.drew ?_ | refine Below.setCell ?_ (by first | exact Nat.le_refl _ | (simp; done) | (simp; omega) | omega) _ | refine Below.alloc ?_ (by first | exact Nat.le_refl _ | (simp; done) | (simp; omega) | omega) _)) hb
              have o0 : Own w1 (w.heap.size) #[.int .i64 (0), .int .i64 (0), .int .i64 (0), .int .i64 (0)] := Own.keep (by with_reducible (repeat' first | assumption | refine Own.drew ?_ | (refine Own.at ?_; first | rfl | (simp; done)) | refine Own.past ?_ _)) hb
              have c0 := o0.cell
              have f0 := o0.fro
              have l0 := o0.lt
              go_wp2_with fail
              go_at_call 38
              refine (rparse_any _ _ (by assumption)).mono ?_
              rintro e w2 ⟨rfl, hb⟩
              have hBw2 : Below w.heap.size w w2 := bup (by with_reducible (repeat' first | assumption | exact Below.refl _ _ | refine Below.drew ?_ | refine Below.setCell ?_ (by first | exact Nat.le_refl _ | (simp; done) | (simp; omega) | omega) _ | refine Below.alloc ?_ (by first | exact Nat.le_refl _ | (simp; done) | (simp; omega) | omega) _)) hb
              have o0 : Own w2 (w.heap.size) #[.int .i64 (0), .int .i64 (0), .int .i64 (0), .int .i64 (0)] := Own.keep (by with_reducible (repeat' first | assumption | refine Own.drew ?_ | (refine Own.at ?_; first | rfl | (simp; done)) | refine Own.past ?_ _)) hb
              have c0 := o0.cell
              have f0 := o0.fro
              have l0 := o0.lt
              have o1 : Own w2 (w1.heap.size) #[.int .i64 (pR (cutA s)), .int .i64 (pC (cutA s))] := Own.keep (by with_reducible (repeat' first | assumption | refine Own.drew ?_ | (refine Own.at ?_; first | rfl | (simp; done)) | refine Own.past ?_ _)) hb
              have c1 := o1.cell
              have f1 := o1.fro
              have l1 := o1.lt
              go_wp2_with (go_at_call 60; refine (rmayR_any _ _ _ _ _).mono ?_; rintro e w3 ⟨rfl, hb⟩; have hB3 : Below w.heap.size w w3 := bup (by with_reducible (repeat' first | assumption | exact Below.refl _ _ | refine Below.drew ?_ | refine Below.setCell ?_ (by first | exact Nat.le_refl _ | (simp; done) | (simp; omega) | omega) _ | refine Below.alloc ?_ (by first | exact Nat.le_refl _ | (simp; done) | (simp; omega) | omega) _)) hb; have o0 : Own w3 (w.heap.size) #[.int .i64 (0), .int .i64 (0), .int .i64 (0), .int .i64 (0)] := Own.keep (by with_reducible (repeat' first | assumption | refine Own.drew ?_ | (refine Own.at ?_; first | rfl | (simp; done)) | refine Own.past ?_ _)) hb; have c0 := o0.cell; have f0 := o0.fro; have l0 := o0.lt; have o1 : Own w3 (w2.heap.size + 1) #[.int .i64 (pR (cutA s)), .int .i64 (pC (cutA s)), .int .i64 (pR (cutB s)), .int .i64 (pC (cutB s))] := Own.keep (by with_reducible (repeat' first | assumption | refine Own.drew ?_ | (refine Own.at ?_; first | rfl | (simp; done)) | refine Own.past ?_ _)) hb; have c1 := o1.cell; have f1 := o1.fro; have l1 := o1.lt)
              all_goals exact bodyPost_ret (v := (.tuple #[.agg #[.int .i64 (pR (cutA s)), .int .i64 (pC (cutA s)), .int .i64 (pR (cutB s)), .int .i64 (pC (cutB s))], .bool true])) (by simp [results, Tryz.results37, go_sem, c0, f0, l0]) rfl ⟨by have z := qS HB.out; rw [z.1, z.2.1, z.2.2.1, z.2.2.2, HB.out], by with_reducible (repeat' first | assumption | exact Below.refl _ _ | refine Below.drew ?_ | refine Below.setCell ?_ (by first | exact Nat.le_refl _ | (simp; done) | (simp; omega) | omega) _ | refine Below.alloc ?_ (by first | exact Nat.le_refl _ | (simp; done) | (simp; omega) | omega) _)⟩
      · have h58' : ((s[i].toNat : Int) != 58) = true := by simp; omega
        go_wp2
        all_goals exact ⟨⟨i + 1, rfl, by go_num, by omega, hN.next hlt h58⟩, by simp [intOf]; omega⟩
    · have hq := qB_none (hN.none hlt)
      have HB : Hid (qB s = false) := hq
      clear hq
      go_wp2
      all_goals exact bodyPost_ret (v := (.tuple #[(.agg #[.int .i64 (0), .int .i64 (0), .int .i64 (0), .int .i64 (0)]), .bool false])) (by simp [results, Tryz.results37, go_sem]) rfl ⟨by have z := qN HB.out; rw [z.1, z.2.1, z.2.2.1, z.2.2.2, HB.out], by with_reducible (repeat' first | assumption | exact Below.refl _ _ | refine Below.drew ?_ | refine Below.setCell ?_ (by first | exact Nat.le_refl _ | (simp; done) | (simp; omega) | omega) _ | refine Below.alloc ?_ (by first | exact Nat.le_refl _ | (simp; done) | (simp; omega) | omega) _)⟩
end Go.Proofs.YtaamphdihmghhaaGreatDoor
