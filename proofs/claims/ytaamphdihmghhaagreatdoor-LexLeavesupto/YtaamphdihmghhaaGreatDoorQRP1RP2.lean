/- Plain facts for the document's Parse: how a name is cut behind its column's letters, and what its row is reckoned as. No program's text is walked here. · The contract of the document's Parse: of every text the cell whose name it is, and whether it is one. New memory alone is made. No condition but that the text is no longer than a text may be. -/
import Derived.Test.YtaamphdihmghhaaGreatDoorQN1N2AN
namespace Go.Proofs.YtaamphdihmghhaaGreatDoor
open Go.RowKit
set_option linter.all false
/-- One sign more of a row, as the document reckons it. -/
def rowStep (a : Int) (x : UInt8) : Int := 10 * (if x.toNat < 48 ∨ 57 < x.toNat then -100000 else a) + x.toNat - 48
def rowF (l : List UInt8) : Int := l.foldl rowStep 0
theorem rowF_snoc (l : List UInt8) (x : UInt8) : rowF (l ++ [x]) = rowStep (rowF l) x := by simp [rowF, List.foldl_append]
theorem rowStep_bad (a : Int) (x : UInt8) (h : x.toNat < 48 ∨ 57 < x.toNat) : rowStep a x = 10 * (-100000) + x.toNat - 48 := by unfold rowStep; rw [if_pos h]
theorem rowStep_ok (a : Int) (x : UInt8) (h1 : 48 ≤ x.toNat) (h2 : x.toNat ≤ 57) : rowStep a x = 10 * a + x.toNat - 48 := by unfold rowStep; rw [if_neg (by omega)]
theorem rowStep_bd (a b : Int) (x : UInt8) (h1 : -b ≤ a) (h2 : a ≤ b) (h3 : 100000 ≤ b) : -(10 * b + 300) ≤ rowStep a x ∧ rowStep a x ≤ 10 * b + 300 := by
  have := x.toNat_lt
  unfold rowStep
  split <;> omega
theorem rowF_bd : ∀ (l : List UInt8), l.length ≤ 4 → -1100000000 ≤ rowF l ∧ rowF l ≤ 1100000000
  | [], _ => by simp [rowF]
  | [a], _ => by
    have := rowStep_bd 0 100000 a (by omega) (by omega) (by omega)
    simp only [rowF, List.foldl]; omega
  | [a, b], _ => by
    have h1 := rowStep_bd 0 100000 a (by omega) (by omega) (by omega)
    have h2 := rowStep_bd _ _ b h1.1 h1.2 (by omega)
    simp only [rowF, List.foldl]; omega
  | [a, b, c], _ => by
    have h1 := rowStep_bd 0 100000 a (by omega) (by omega) (by omega)
    have h2 := rowStep_bd _ _ b h1.1 h1.2 (by omega)
    have h3 := rowStep_bd _ _ c h2.1 h2.2 (by omega)
    simp only [rowF, List.foldl]; omega
  | [a, b, c, d], _ => by
    have h1 := rowStep_bd 0 100000 a (by omega) (by omega) (by omega)
    have h2 := rowStep_bd _ _ b h1.1 h1.2 (by omega)
    have h3 := rowStep_bd _ _ c h2.1 h2.2 (by omega)
    have h4 := rowStep_bd _ _ d h3.1 h3.2 (by omega)
    simp only [rowF, List.foldl]; omega
  | _ :: _ :: _ :: _ :: _ :: _, h => by simp at h
theorem rowF_dec (r : Nat) : rowF (Lib.decDigits r) = r := by
  induction r using Nat.strongRecOn with
  | _ r ih =>
    by_cases h : r < 10
    · have e := ofn (n := 48 + r) (by omega)
      rw [Lib.decDigits_one h]
      show rowStep 0 _ = _
      rw [rowStep_ok _ _ (by omega) (by omega), e]; omega
    · have e := ofn (n := 48 + r % 10) (by omega)
      rw [Lib.decDigits, dif_neg h, rowF_snoc, ih _ (by omega), rowStep_ok _ _ (by omega) (by omega), e]; omega
/-- The document's reckoning of the row of what stands behind a column's letters. -/
def rowO (s : ByteArray) (n : Nat) : ByteArray := s.extract n s.size
theorem rowO_list (s : ByteArray) (n : Nat) : (rowO s n).data.toList = s.data.toList.drop n := by
  unfold rowO
  rw [ByteArray.data_extract, Array.toList_extract, List.extract_eq_take_drop, List.take_of_length_le (by simp)]
theorem rowO_size (s : ByteArray) (n : Nat) : (rowO s n).size = s.size - n := by
  have h := congrArg List.length (rowO_list s n)
  simpa using h
theorem size_list (s : ByteArray) : s.size = s.data.toList.length := by simp
theorem name_cut {r k : Int} {s : ByteArray} (hm : mayC r k = true) (h : nameS r k = s) : s.size = (colS k).size + (digS r).size ∧ s.extract 0 (colS k).size = colS k ∧ rowO s (colS k).size = digS r := by
  have e : s.data.toList = (colS k).data.toList ++ (digS r).data.toList := by rw [← h, nameS_t hm]; simp
  refine ⟨by rw [size_list s, e, List.length_append, ← size_list, ← size_list], bytes_ext ?_, bytes_ext ?_⟩
  · rw [ByteArray.data_extract, Array.toList_extract, List.extract_eq_take_drop, e, Nat.sub_zero, List.drop_zero, List.take_left' (size_list _).symm]
  · rw [rowO_list, e, List.drop_left' (size_list _).symm]
theorem digS_pos (r : Int) (h1 : 1 ≤ r) (h2 : r ≤ 4096) : 1 ≤ (digS r).size ∧ (digS r).size ≤ 4 := by
  have := dec_len r.toNat (by omega) (by omega)
  rw [size_list]
  exact this
theorem name_row {r k : Int} {s : ByteArray} (hm : mayC r k = true) (h : nameS r k = s) : rowF (rowO s (colS k).size).data.toList = r := by
  have k1 := mayC_is hm
  rw [(name_cut hm h).2.2]
  show rowF (Lib.decDigits r.toNat) = r
  rw [rowF_dec]; omega
/-- No column below k has the text for a name. -/
def NoCol (s : ByteArray) (k : Nat) : Prop := ∀ r c : Int, mayC r c = true → nameS r c = s → (k : Int) ≤ c
theorem NoCol.one (s : ByteArray) : NoCol s 1 := fun r c h _ => by have := mayC_is h; omega
theorem NoCol.next {s : ByteArray} {k : Nat} (h : NoCol s k) (hk : ∀ r : Int, mayC r (k : Int) = true → nameS r (k : Int) ≠ s) : NoCol s (k + 1) := fun r c hm e => by
  have h1 := h r c hm e
  by_cases hc : c = k
  · subst hc; exact absurd e (hk r hm)
  · omega
theorem NoCol.a {s : ByteArray} {k : Nat} (h : NoCol s k) (ht : s.size ≤ (colS (k : Int)).size) : NoCol s (k + 1) := h.next fun r hm e => by
  have k1 := mayC_is hm
  have := (name_cut hm e).1
  have := digS_pos r k1.1 k1.2.1
  omega
theorem NoCol.b {s : ByteArray} {k : Nat} (h : NoCol s k) (ht : (colS (k : Int)).size + 4 < s.size) : NoCol s (k + 1) := h.next fun r hm e => by
  have k1 := mayC_is hm
  have := (name_cut hm e).1
  have := digS_pos r k1.1 k1.2.1
  omega
theorem NoCol.c {s : ByteArray} {k : Nat} (h : NoCol s k) (ht : s.extract 0 (colS (k : Int)).size ≠ colS (k : Int)) : NoCol s (k + 1) := h.next fun r hm e => ht (name_cut hm e).2.1
theorem NoCol.d {s : ByteArray} {k : Nat} (h : NoCol s k) (ht : nameS (rowF (rowO s (colS (k : Int)).size).data.toList) (k : Int) ≠ s) : NoCol s (k + 1) := h.next fun r hm e => by
  rw [name_row hm e] at ht
  exact ht e
theorem NoCol.stop {s : ByteArray} (h : NoCol s 257) : pO s = none := by
  cases hO : pO s with
  | none => rfl
  | some x =>
    have hb : pB s = true := by unfold pB; rw [hO]; rfl
    have k := name_p hb
    have k1 := h _ _ k.2 k.1
    have k2 := mayC_is k.2
    omega
theorem name_found {s : ByteArray} {r c : Int} (hs : 0 < s.size) (h : nameS r c = s) : pR s = r ∧ pC s = c ∧ pB s = true := by
  cases hm : mayC r c
  · rw [nameS_f hm] at h; subst h; exact absurd hs (by decide)
  · subst h; exact ⟨pR_name hm, pC_name hm, by rw [pB_name, hm]⟩
theorem bne_f {a b : ByteArray} (h : a = b) : (a != b) = false := by subst h; unfold bne; rw [beq_toListBytes]; simp
theorem beq_t {a b : ByteArray} (h : a = b) : (a == b) = true := by subst h; rw [beq_toListBytes]; simp
theorem beq_f {a b : ByteArray} (h : a ≠ b) : (a == b) = false := by
  rw [beq_toListBytes]
  have h' : ¬ a.toList = b.toList := fun k => h (by
    rw [ByteArray.toList_eq, ByteArray.toList_eq] at k
    exact bytes_ext k)
  simpa using h'
theorem bne_t {a b : ByteArray} (h : a ≠ b) : (a != b) = true := by unfold bne; rw [beq_f h]; rfl
theorem teq_t {a b : ByteArray} (h : a = b) : (a.toList == b.toList) = true := by subst h; simp
theorem teq_f {a b : ByteArray} (h : a ≠ b) : (a.toList == b.toList) = false := by rw [← beq_toListBytes]; exact beq_f h
end Go.Proofs.YtaamphdihmghhaaGreatDoor
namespace Go.Proofs.YtaamphdihmghhaaGreatDoor
open Go.RowKit
set_option linter.all false
set_option maxHeartbeats 4000000 in
set_option maxRecDepth 100000 in
theorem rparse_any (s : ByteArray) (w : World) (hs : s.size ≤ maxLen) : Calls Tryz.prog 38 #[.string s] w fun e w' => e = .returned (.tuple #[.agg #[.int .i64 (pR s), .int .i64 (pC s)], .bool (pB s)]) ∧ Below w.heap.size w w' := by
  unfold maxLen at hs
  go_enter Tryz.func38, Tryz.ntmps38
  go_wp2
  go_loopw [3, 4] (fun v x w' => ∃ k : Nat, v = .bool false ∧ x = .int .i64 k ∧ 1 ≤ k ∧ k ≤ 257 ∧ NoCol s k ∧ Below w.heap.size w w' ∧ Own w' w.heap.size #[.int .i64 (0), .int .i64 (0)]) (fun _ x _ => 257 - (intOf x).toNat)
  case atStart => exact ⟨1, rfl, rfl, by omega, by omega, NoCol.one s, bal _ _, Own.new _ _ _⟩
  case round =>
    obtain ⟨k, rfl, rfl, hk1, hk2, hN, hB, o0⟩ := hrel
    have c0 := o0.cell
    have f0 := o0.fro
    have l0 := o0.lt
    by_cases hk : k ≤ 256
    · have hk' : (k : Int) ≤ 256 := by omega
      have hn := colS_size (k : Int)
      by_cases ta : s.size ≤ (colS (k : Int)).size
      · have ta' : (s.size : Int) ≤ ((colS (k : Int)).size : Int) := by omega
        go_wp2_with (go_at_call 61; refine (rcol_any _ _ (by omega) (by omega)).mono ?_; rintro e w1 ⟨rfl, hb⟩; have hB1 : Below w.heap.size w w1 := bup (by with_reducible (repeat' first | assumption | exact Below.refl _ _ | refine Below.drew ?_ | refine Below.setCell ?_ (by first | exact Nat.le_refl _ | (simp; done) | (simp; omega) | omega) _ | refine Below.alloc ?_ (by first | exact Nat.le_refl _ | (simp; done) | (simp; omega) | omega) _)) hb; have o1 : Own w1 (w.heap.size) #[.int .i64 (0), .int .i64 (0)] := Own.keep (by with_reducible (repeat' first | assumption | refine Own.drew ?_ | (refine Own.at ?_; first | rfl | (simp; done)) | refine Own.past ?_ _)) hb; have c1 := o1.cell; have f1 := o1.fro; have l1 := o1.lt)
        exact ⟨⟨k + 1, rfl, by go_num, by omega, by omega, hN.a ta, hB1, o1⟩, by simp [intOf]; omega⟩
      · have ta' : ¬ (s.size : Int) ≤ ((colS (k : Int)).size : Int) := by omega
        have ta2 : decide ((s.size : Int) ≤ ((colS (k : Int)).size : Int)) = false := by simpa using ta
        by_cases tb : (colS (k : Int)).size + 4 < s.size
        · have tb' : ((colS (k : Int)).size : Int) + 4 < (s.size : Int) := by omega
          go_wp2_with (go_at_call 61; refine (rcol_any _ _ (by omega) (by omega)).mono ?_; rintro e w1 ⟨rfl, hb⟩; have hB1 : Below w.heap.size w w1 := bup (by with_reducible (repeat' first | assumption | exact Below.refl _ _ | refine Below.drew ?_ | refine Below.setCell ?_ (by first | exact Nat.le_refl _ | (simp; done) | (simp; omega) | omega) _ | refine Below.alloc ?_ (by first | exact Nat.le_refl _ | (simp; done) | (simp; omega) | omega) _)) hb; have o1 : Own w1 (w.heap.size) #[.int .i64 (0), .int .i64 (0)] := Own.keep (by with_reducible (repeat' first | assumption | refine Own.drew ?_ | (refine Own.at ?_; first | rfl | (simp; done)) | refine Own.past ?_ _)) hb; have c1 := o1.cell; have f1 := o1.fro; have l1 := o1.lt)
          exact ⟨⟨k + 1, rfl, by go_num, by omega, by omega, hN.b tb, hB1, o1⟩, by simp [intOf]; omega⟩
        · have tb' : (s.size : Int) ≤ ((colS (k : Int)).size : Int) + 4 := by omega
          have tb2 : decide (((colS (k : Int)).size : Int) + 4 < (s.size : Int)) = false := by simp; omega
          by_cases tc : s.extract 0 (colS (k : Int)).size = colS (k : Int)
          · have tc2 := teq_t tc
            have TC : Hid (s.extract 0 (colS (k : Int)).size = colS (k : Int)) := tc
            clear tc
            go_wp2_with (go_at_call 61; refine (rcol_any _ _ (by omega) (by omega)).mono ?_; rintro e w1 ⟨rfl, hb⟩; have hB1 : Below w.heap.size w w1 := bup (by with_reducible (repeat' first | assumption | exact Below.refl _ _ | refine Below.drew ?_ | refine Below.setCell ?_ (by first | exact Nat.le_refl _ | (simp; done) | (simp; omega) | omega) _ | refine Below.alloc ?_ (by first | exact Nat.le_refl _ | (simp; done) | (simp; omega) | omega) _)) hb; have o1 : Own w1 (w.heap.size) #[.int .i64 (0), .int .i64 (0)] := Own.keep (by with_reducible (repeat' first | assumption | refine Own.drew ?_ | (refine Own.at ?_; first | rfl | (simp; done)) | refine Own.past ?_ _)) hb; have c1 := o1.cell; have f1 := o1.fro; have l1 := o1.lt)
            obtain ⟨q, hQ⟩ : ∃ q, rowO s (colS (k : Int)).size = q := ⟨_, rfl⟩
            have q4 : q.size ≤ 4 := by rw [← hQ, rowO_size]; omega
            have e : s.extract (colS (k : Int)).size s.size = q := hQ
            rw [e]
            have HQ : Hid (rowO s (colS (k : Int)).size = q) := hQ
            clear e hQ
            go_loop [6, 8] (fun a b => ∃ i : Nat, i ≤ q.size ∧ a = .int .i64 (rowF (q.data.toList.take i)) ∧ b = .int .i64 i) (fun _ b => q.size - (intOf b).toNat)
            case atStart => exact ⟨0, by omega, rfl, rfl⟩
            case round =>
              obtain ⟨i, hi, rfl, rfl⟩ := hrel
              have hbd := rowF_bd (q.data.toList.take i) (by simp; omega)
              by_cases hlt : i < q.size
              · have hsn : rowF (q.data.toList.take (i + 1)) = rowStep (rowF (q.data.toList.take i)) q[i] := by
                  rw [← rowF_snoc, List.take_succ_eq_append_getElem (by simpa using hlt)]; rfl
                have HS : Hid (rowF (q.data.toList.take (i + 1)) = rowStep (rowF (q.data.toList.take i)) q[i]) := hsn
                clear hsn
                have hx := q[i].toNat_lt
                by_cases hx1 : q[i].toNat < 48
                · have hx1' : (q[i].toNat : Int) < 48 := by omega
                  go_wp2
                  all_goals exact ⟨⟨i + 1, by omega, by rw [HS.out, rowStep_bad _ _ (by omega)]; go_num, by go_num⟩, by simp [intOf]; omega⟩
                · have hx1' : decide ((q[i].toNat : Int) < 48) = false := by simp; omega
                  by_cases hx2 : 57 < q[i].toNat
                  · have hx2' : 57 < (q[i].toNat : Int) := by omega
                    go_wp2
                    all_goals exact ⟨⟨i + 1, by omega, by rw [HS.out, rowStep_bad _ _ (by omega)]; go_num, by go_num⟩, by simp [intOf]; omega⟩
                  · have hx2' : (q[i].toNat : Int) ≤ 57 := by omega
                    have hx3 : 48 ≤ (q[i].toNat : Int) := by omega
                    go_wp2
                    all_goals exact ⟨⟨i + 1, by omega, by rw [HS.out, rowStep_ok _ _ (by omega) (by omega)], by go_num⟩, by simp [intOf]; omega⟩
              · have hall : q.data.toList.take i = q.data.toList := List.take_of_length_le (by simp; omega)
                rw [hall] at hbd ⊢
                clear hall
                by_cases hf : nameS (rowF q.data.toList) (k : Int) = s
                · have hf2 := teq_t hf
                  have HF : Hid (nameS (rowF q.data.toList) (k : Int) = s) := hf
                  clear hf
                  go_wp2_with (go_at_call 62; refine (rname_any _ _ _).mono ?_; rintro e w2 ⟨rfl, hb⟩; have hB2 : Below w.heap.size w w2 := bup (by with_reducible (repeat' first | assumption | exact Below.refl _ _ | refine Below.drew ?_ | refine Below.setCell ?_ (by first | exact Nat.le_refl _ | (simp; done) | (simp; omega) | omega) _ | refine Below.alloc ?_ (by first | exact Nat.le_refl _ | (simp; done) | (simp; omega) | omega) _)) hb; have p0 : Own w2 (w.heap.size) #[.int .i64 (0), .int .i64 (0)] := Own.keep (by with_reducible (repeat' first | assumption | refine Own.drew ?_ | (refine Own.at ?_; first | rfl | (simp; done)) | refine Own.past ?_ _)) hb; have d0 := p0.cell; have g0 := p0.fro; have m0 := p0.lt; have p1 : Own w2 (w1.heap.size) #[.int .i64 (rowF q.data.toList), .int .i64 ((k : Int))] := Own.keep (by with_reducible (repeat' first | assumption | refine Own.drew ?_ | (refine Own.at ?_; first | rfl | (simp; done)) | refine Own.past ?_ _)) hb; have d1 := p1.cell; have g1 := p1.fro; have m1 := p1.lt)
                  all_goals exact bodyPost_ret (v := .tuple #[.agg #[.int .i64 (rowF q.data.toList), .int .i64 k], .bool true]) (by simp [results, Tryz.results38, go_sem, d0, g0]) rfl ⟨by have z := name_found (by omega) HF.out; rw [z.1, z.2.1, z.2.2], by with_reducible (repeat' first | assumption | exact Below.refl _ _ | refine Below.drew ?_ | refine Below.setCell ?_ (by first | exact Nat.le_refl _ | (simp; done) | (simp; omega) | omega) _ | refine Below.alloc ?_ (by first | exact Nat.le_refl _ | (simp; done) | (simp; omega) | omega) _)⟩
                · have hf2 := teq_f hf
                  have hd : NoCol s (k + 1) := hN.d (by rw [HQ.out]; exact hf)
                  clear hf
                  go_wp2_with (go_at_call 62; refine (rname_any _ _ _).mono ?_; rintro e w2 ⟨rfl, hb⟩; have hB2 : Below w.heap.size w w2 := bup (by with_reducible (repeat' first | assumption | exact Below.refl _ _ | refine Below.drew ?_ | refine Below.setCell ?_ (by first | exact Nat.le_refl _ | (simp; done) | (simp; omega) | omega) _ | refine Below.alloc ?_ (by first | exact Nat.le_refl _ | (simp; done) | (simp; omega) | omega) _)) hb; have p0 : Own w2 (w.heap.size) #[.int .i64 (0), .int .i64 (0)] := Own.keep (by with_reducible (repeat' first | assumption | refine Own.drew ?_ | (refine Own.at ?_; first | rfl | (simp; done)) | refine Own.past ?_ _)) hb; have d0 := p0.cell; have g0 := p0.fro; have m0 := p0.lt; have p1 : Own w2 (w1.heap.size) #[.int .i64 (rowF q.data.toList), .int .i64 ((k : Int))] := Own.keep (by with_reducible (repeat' first | assumption | refine Own.drew ?_ | (refine Own.at ?_; first | rfl | (simp; done)) | refine Own.past ?_ _)) hb; have d1 := p1.cell; have g1 := p1.fro; have m1 := p1.lt)
                  all_goals exact ⟨⟨k + 1, rfl, by go_num, by omega, by omega, hd, hB2, p0⟩, by simp [intOf]; omega⟩
          · have tc2 := teq_f tc
            go_wp2_with (go_at_call 61; refine (rcol_any _ _ (by omega) (by omega)).mono ?_; rintro e w1 ⟨rfl, hb⟩; have hB1 : Below w.heap.size w w1 := bup (by with_reducible (repeat' first | assumption | exact Below.refl _ _ | refine Below.drew ?_ | refine Below.setCell ?_ (by first | exact Nat.le_refl _ | (simp; done) | (simp; omega) | omega) _ | refine Below.alloc ?_ (by first | exact Nat.le_refl _ | (simp; done) | (simp; omega) | omega) _)) hb; have o1 : Own w1 (w.heap.size) #[.int .i64 (0), .int .i64 (0)] := Own.keep (by with_reducible (repeat' first | assumption | refine Own.drew ?_ | (refine Own.at ?_; first | rfl | (simp; done)) | refine Own.past ?_ _)) hb; have c1 := o1.cell; have f1 := o1.fro; have l1 := o1.lt)
            exact ⟨⟨k + 1, rfl, by go_num, by omega, by omega, hN.c tc, hB1, o1⟩, by simp [intOf]; omega⟩
    · obtain rfl : k = 257 := by omega
      have hO := hN.stop
      go_wp2
      all_goals exact bodyPost_ret (v := .tuple #[.agg #[.int .i64 0, .int .i64 0], .bool false]) (by simp [results, Tryz.results38, go_sem, c0, f0]) rfl ⟨by rw [(pN hO).1, (pN hO).2.1, (pN hO).2.2], by with_reducible (repeat' first | assumption | exact Below.refl _ _ | refine Below.drew ?_ | refine Below.setCell ?_ (by first | exact Nat.le_refl _ | (simp; done) | (simp; omega) | omega) _ | refine Below.alloc ?_ (by first | exact Nat.le_refl _ | (simp; done) | (simp; omega) | omega) _)⟩
end Go.Proofs.YtaamphdihmghhaaGreatDoor
