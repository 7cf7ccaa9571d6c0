/- The contract of Parse of package addr: of every text the cell whose name it is, and whether it is one. New memory alone is made. No condition. -/
import Derived.Test.YtaamphdihmghhaaGreatDoorQP1
import Derived.LoopTactic
namespace Go.Proofs.YtaamphdihmghhaaGreatDoor
open Go.RowKit
set_option linter.all false
theorem pN {s : ByteArray} (h : pO s = none) : pR s = 0 ∧ pC s = 0 ∧ pB s = false := by simp [pR, pC, pB, h]
theorem pS {s : ByteArray} {r c : Nat} (h : pO s = some (r, c)) : pR s = r ∧ pC s = c ∧ pB s = true := by simp [pR, pC, pB, h]
/-- The world of a round: the result's cell, the cell that is read so far, the place in the text. -/
def pW (w : World) (s : ByteArray) (r c : Int) (pos : Nat) : World := ((w.alloc (.cells #[.int .i64 0, .int .i64 0] 32)).alloc (.cells #[.int .i64 r, .int .i64 c] 32)).iter s pos
theorem pW_own0 (w : World) (s : ByteArray) (r c : Int) (pos : Nat) : Own (pW w s r c pos) w.heap.size #[.int .i64 0, .int .i64 0] := by
  unfold pW World.iter
  exact ((Own.new _ _ _).past _).past _
theorem pW_own1 (w : World) (s : ByteArray) (r c : Int) (pos : Nat) : Own (pW w s r c pos) (w.heap.size + 1) #[.int .i64 r, .int .i64 c] := by
  unfold pW World.iter
  exact (Own.at (by simp)).past _
theorem pW_bel (w : World) (s : ByteArray) (r c : Int) (pos : Nat) : Below w.heap.size w (pW w s r c pos) := by
  unfold pW World.iter
  exact ((bal _ _).alloc (by simp) _).alloc (by simp; omega) _
theorem pW_row (w : World) (s : ByteArray) (r c x : Int) (pos : Nat) : (pW w s r c pos).setCell ⟨w.heap.size + 1, 0, none⟩ (.int .i64 x) = pW w s x c pos := by
  unfold pW World.iter
  rw [World.setCell_alloc_past _ _ _ _ (by simp), World.setCell_alloc_at _ _ _ _ _ (by simp)]; rfl
theorem pW_col (w : World) (s : ByteArray) (r c x : Int) (pos : Nat) : (pW w s r c pos).setCell ⟨w.heap.size + 1, 1, none⟩ (.int .i64 x) = pW w s r x pos := by
  unfold pW World.iter
  rw [World.setCell_alloc_past _ _ _ _ (by simp), World.setCell_alloc_at _ _ _ _ _ (by simp)]; rfl
theorem pW_z0 (w : World) (s : ByteArray) (r c : Int) (pos : Nat) : (pW w s r c pos).setCell ⟨w.heap.size, 0, none⟩ (.int .i64 0) = pW w s r c pos := by
  unfold pW World.iter
  rw [World.setCell_alloc_past _ _ _ _ (by simp; omega), World.setCell_alloc_past _ _ _ _ (by simp), World.setCell_alloc_at _ _ _ _ _ rfl]; rfl
theorem pW_z1 (w : World) (s : ByteArray) (r c : Int) (pos : Nat) : (pW w s r c pos).setCell ⟨w.heap.size, 1, none⟩ (.int .i64 0) = pW w s r c pos := by
  unfold pW World.iter
  rw [World.setCell_alloc_past _ _ _ _ (by simp; omega), World.setCell_alloc_past _ _ _ _ (by simp), World.setCell_alloc_at _ _ _ _ _ rfl]; rfl
theorem pW_eq {w : World} {s : ByteArray} {r c r' c' : Int} {pos : Nat} (h : r = r') (h' : c = c') : pW w s r c pos = pW w s r' c' pos := by rw [h, h']
theorem pW_pos (w : World) (s : ByteArray) (r c : Int) (pos : Nat) : (pW w s r c pos).iterPos (w.heap.size + 1 + 1) = pos := by
  unfold pW
  have h := World.iterPos_iter ((w.alloc (.cells #[.int .i64 0, .int .i64 0] 32)).alloc (.cells #[.int .i64 r, .int .i64 c] 32)) s pos
  simpa using h
theorem pW_next (w : World) (s : ByteArray) (r c : Int) (pos : Nat) (ty : TypeId) (h : pos < s.size) : (Instr.next (.pointer (some ⟨w.heap.size + 1 + 1, 0, none⟩)) true ty).run Tryz.prog (pW w s r c pos) =
      .ok (.tuple #[.bool true, .int .i64 pos, .int .i32 (Utf8.decode s pos).1]) (pW w s r c (pos + (Utf8.decode s pos).2)) := by
  unfold pW
  have k := run_next_any (P := Tryz.prog) ((w.alloc (.cells #[.int .i64 0, .int .i64 0] 32)).alloc (.cells #[.int .i64 r, .int .i64 c] 32)) s pos ty h
  simpa using k
theorem pW_end (w : World) (s : ByteArray) (r c : Int) (pos : Nat) (ty : TypeId) (h : ¬ pos < s.size) : (Instr.next (.pointer (some ⟨w.heap.size + 1 + 1, 0, none⟩)) true ty).run Tryz.prog (pW w s r c pos) =
      .ok (.tuple #[.bool false]) (pW w s r c pos) := by
  unfold pW
  have k := run_next_end (P := Tryz.prog) ((w.alloc (.cells #[.int .i64 0, .int .i64 0] 32)).alloc (.cells #[.int .i64 r, .int .i64 c] 32)) s pos ty h
  simpa using k
theorem drop_at (s : ByteArray) (pos : Nat) (h : pos < s.size) : s.data.toList.drop pos = s[pos] :: s.data.toList.drop (pos + 1) := by
  rw [List.drop_eq_getElem_cons (by simpa using h)]; rfl
set_option maxHeartbeats 4000000 in
set_option maxRecDepth 100000 in
theorem parse_any (s : ByteArray) (w : World) : Calls Tryz.prog 77 #[.string s] w fun e w' => e = .returned (.tuple #[.agg #[.int .i64 (pR s), .int .i64 (pC s)], .bool (pB s)]) ∧ Below w.heap.size w w' := by
  go_enter Tryz.func77, Tryz.ntmps77
  go_wp2
  have c0 := fun (r c : Int) (pos : Nat) => (pW_own0 w s r c pos).cell
  have f0 := fun (r c : Int) (pos : Nat) => (pW_own0 w s r c pos).fro
  have c1 := fun (r c : Int) (pos : Nat) => (pW_own1 w s r c pos).cell
  have f1 := fun (r c : Int) (pos : Nat) => (pW_own1 w s r c pos).fro
  have t0 := pW_row w s
  have t1 := pW_col w s
  have t2 := pW_z0 w s
  have t3 := pW_z1 w s
  go_loopw [3] (fun n w' => ∃ pos c r : Nat, w' = pW w s r c pos ∧ n = .bool false ∧ c ≤ 256 ∧ r ≤ 4096 ∧ pst (s.data.toList.drop pos) c r = pO s) (fun _ w' => s.size - w'.iterPos (w.heap.size + 1 + 1))
  case atStart => exact ⟨0, 0, 0, rfl, rfl, by omega, by omega, rfl⟩
  case round =>
    obtain ⟨pos, c, r, rfl, rfl, hc, hr, hO⟩ := hrel
    by_cases hp : pos < s.size
    · have hnx := fun (r c : Int) ty => pW_next w s r c pos ty hp
      have hd := drop_at s pos hp
      rw [hd] at hO
      by_cases ha : (s[pos]'hp).toNat < 128
      · rw [decode_ascii s pos hp ha] at hnx
        generalize s[pos]'hp = x at hO hnx ha hd
        clear hd
        by_cases hl : 65 ≤ x.toNat ∧ x.toNat ≤ 90
        · have q1 : ltB (x.toNat : Int) = true := ltB_t (by omega)
          by_cases hr0 : r = 0
          · subst hr0
            by_cases hk : c * 26 + (x.toNat - 64) ≤ 256
            · rw [pst_let x _ c hl.1 hl.2 hk] at hO
              have hk' : (c : Int) * 26 + ((x.toNat : Int) - 65) + 1 ≤ 256 := by omega
              go_wp2_with (first | (go_at_call 91; refine (letter_any _ _).mono ?_; rintro e w5 ⟨rfl, rfl⟩) | (go_at_call 92; refine (digit_any _ _ _).mono ?_; rintro e w5 ⟨rfl, rfl⟩))
              refine ⟨⟨pos + 1, c * 26 + (x.toNat - 64), 0, pW_eq (by omega) (by omega), rfl, by omega, by omega, hO⟩, by rw [pW_pos, pW_pos]; omega⟩
            · rw [pst_let_no x _ c hl.1 hl.2 (by omega)] at hO
              have hk' : 256 < (c : Int) * 26 + ((x.toNat : Int) - 65) + 1 := by omega
              go_wp2_with (first | (go_at_call 91; refine (letter_any _ _).mono ?_; rintro e w5 ⟨rfl, rfl⟩) | (go_at_call 92; refine (digit_any _ _ _).mono ?_; rintro e w5 ⟨rfl, rfl⟩))
              all_goals exact bodyPost_ret (v := .tuple #[.agg #[.int .i64 0, .int .i64 0], .bool false]) (by simp [results, Tryz.results77, go_sem, c0, f0]) rfl ⟨by rw [(pN hO.symm).1, (pN hO.symm).2.1, (pN hO.symm).2.2], pW_bel _ _ _ _ _⟩
          · have hr1 : ((r : Int) == 0) = false := by simp; omega
            have q2 : dgB (x.toNat : Int) false = false := dgB_f (by omega)
            rw [pst_bad x _ c r (by omega) (by omega)] at hO
            go_wp2_with (first | (go_at_call 91; refine (letter_any _ _).mono ?_; rintro e w5 ⟨rfl, rfl⟩) | (go_at_call 92; refine (digit_any _ _ _).mono ?_; rintro e w5 ⟨rfl, rfl⟩))
            all_goals exact bodyPost_ret (v := .tuple #[.agg #[.int .i64 0, .int .i64 0], .bool false]) (by simp [results, Tryz.results77, go_sem, c0, f0]) rfl ⟨by rw [(pN hO.symm).1, (pN hO.symm).2.1, (pN hO.symm).2.2], pW_bel _ _ _ _ _⟩
        · have q1 : ltB (x.toNat : Int) = false := ltB_f (by omega)
          by_cases hg : 48 ≤ x.toNat ∧ x.toNat ≤ 57 ∧ ¬ (r = 0 ∧ x.toNat = 48)
          · by_cases hk : r * 10 + (x.toNat - 48) ≤ 4096
            · rw [pst_dig x _ c r hg.1 hg.2.1 (by omega) hk] at hO
              by_cases hr0 : r = 0
              · subst hr0
                have q2 : dgB (x.toNat : Int) true = true := dgB_t ⟨by omega, by omega, fun k => by omega⟩
                go_wp2_with (first | (go_at_call 91; refine (letter_any _ _).mono ?_; rintro e w5 ⟨rfl, rfl⟩) | (go_at_call 92; refine (digit_any _ _ _).mono ?_; rintro e w5 ⟨rfl, rfl⟩))
                refine ⟨⟨pos + 1, c, 0 * 10 + (x.toNat - 48), pW_eq (by omega) (by omega), rfl, by omega, by omega, hO⟩, by rw [pW_pos, pW_pos]; omega⟩
              · have hr1 : ((r : Int) == 0) = false := by simp; omega
                have q2 : dgB (x.toNat : Int) false = true := dgB_t ⟨by omega, by omega, fun k => by simp at k⟩
                have hk' : (r : Int) * 10 + ((x.toNat : Int) - 48) ≤ 4096 := by omega
                have hc' : (c : Int) ≤ 256 := by omega
                go_wp2_with (first | (go_at_call 91; refine (letter_any _ _).mono ?_; rintro e w5 ⟨rfl, rfl⟩) | (go_at_call 92; refine (digit_any _ _ _).mono ?_; rintro e w5 ⟨rfl, rfl⟩))
                refine ⟨⟨pos + 1, c, r * 10 + (x.toNat - 48), pW_eq (by omega) (by omega), rfl, by omega, by omega, hO⟩, by rw [pW_pos, pW_pos]; omega⟩
            · rw [pst_dig_no x _ c r hg.1 hg.2.1 (by omega)] at hO
              have hr1 : ((r : Int) == 0) = false := by simp; omega
              have q2 : dgB (x.toNat : Int) false = true := dgB_t ⟨by omega, by omega, fun k => by simp at k⟩
              have hk' : 4096 < (r : Int) * 10 + ((x.toNat : Int) - 48) := by omega
              have hc' : (c : Int) ≤ 256 := by omega
              go_wp2_with (first | (go_at_call 91; refine (letter_any _ _).mono ?_; rintro e w5 ⟨rfl, rfl⟩) | (go_at_call 92; refine (digit_any _ _ _).mono ?_; rintro e w5 ⟨rfl, rfl⟩))
              all_goals exact bodyPost_ret (v := .tuple #[.agg #[.int .i64 0, .int .i64 0], .bool false]) (by simp [results, Tryz.results77, go_sem, c0, f0]) rfl ⟨by rw [(pN hO.symm).1, (pN hO.symm).2.1, (pN hO.symm).2.2], pW_bel _ _ _ _ _⟩
          · rw [pst_bad x _ c r (by omega) (by omega)] at hO
            by_cases hr0 : r = 0
            · subst hr0
              have q2 : dgB (x.toNat : Int) true = false := dgB_f (by intro k; obtain ⟨k1, k2, k3⟩ := k; apply hg; refine ⟨by omega, by omega, fun h => k3 ⟨rfl, by omega⟩⟩)
              go_wp2_with (first | (go_at_call 91; refine (letter_any _ _).mono ?_; rintro e w5 ⟨rfl, rfl⟩) | (go_at_call 92; refine (digit_any _ _ _).mono ?_; rintro e w5 ⟨rfl, rfl⟩))
              all_goals exact bodyPost_ret (v := .tuple #[.agg #[.int .i64 0, .int .i64 0], .bool false]) (by simp [results, Tryz.results77, go_sem, c0, f0]) rfl ⟨by rw [(pN hO.symm).1, (pN hO.symm).2.1, (pN hO.symm).2.2], pW_bel _ _ _ _ _⟩
            · have hr1 : ((r : Int) == 0) = false := by simp; omega
              have q2 : dgB (x.toNat : Int) false = false := dgB_f (by intro k; obtain ⟨k1, k2, k3⟩ := k; apply hg; refine ⟨by omega, by omega, fun h => by omega⟩)
              go_wp2_with (first | (go_at_call 91; refine (letter_any _ _).mono ?_; rintro e w5 ⟨rfl, rfl⟩) | (go_at_call 92; refine (digit_any _ _ _).mono ?_; rintro e w5 ⟨rfl, rfl⟩))
              all_goals exact bodyPost_ret (v := .tuple #[.agg #[.int .i64 0, .int .i64 0], .bool false]) (by simp [results, Tryz.results77, go_sem, c0, f0]) rfl ⟨by rw [(pN hO.symm).1, (pN hO.symm).2.1, (pN hO.symm).2.2], pW_bel _ _ _ _ _⟩
      · have hh := decode_high s pos hp (by omega)
        generalize (Utf8.decode s pos).1 = n at hnx hh
        generalize (Utf8.decode s pos).2 = m at hnx hh
        have hh' : (128 : Int) ≤ n := by omega
        have q1 : ltB (n : Int) = false := ltB_f (by omega)
        have q2 : ∀ b, dgB (n : Int) b = false := fun b => dgB_f (by omega)
        rw [pst_bad _ _ c r (by omega) (by omega)] at hO
        clear hd
        go_wp2_with (first | (go_at_call 91; refine (letter_any _ _).mono ?_; rintro e w5 ⟨rfl, rfl⟩) | (go_at_call 92; refine (digit_any _ _ _).mono ?_; rintro e w5 ⟨rfl, rfl⟩))
        all_goals exact bodyPost_ret (v := .tuple #[.agg #[.int .i64 0, .int .i64 0], .bool false]) (by simp [results, Tryz.results77, go_sem, c0, f0]) rfl ⟨by rw [(pN hO.symm).1, (pN hO.symm).2.1, (pN hO.symm).2.2], pW_bel _ _ _ _ _⟩
    · have hnx := fun (r c : Int) ty => pW_end w s r c pos ty hp
      rw [List.drop_eq_nil_of_le (by simp; omega), pst_nil] at hO
      by_cases hm : mayN r c
      · have q : mayC (r : Int) (c : Int) = true := mayC_t (by unfold mayN at hm; omega)
        rw [if_pos hm] at hO
        go_wp2_with (go_at_call 93; refine (may_any _ _ _).mono ?_; rintro e w1 ⟨rfl, hb⟩; have hB : Below w.heap.size w w1 := bup (pW_bel _ _ _ _ _) hb; have p0 := (pW_own0 w s _ _ _).keep hb; have d0 := p0.cell; have g0 := p0.fro; have m0 := p0.lt; have p1 := (pW_own1 w s _ _ _).keep hb; have d1 := p1.cell; have g1 := p1.fro)
        all_goals exact bodyPost_ret (v := .tuple #[.agg #[.int .i64 r, .int .i64 c], .bool true]) (by simp [results, Tryz.results77, go_sem, d0, g0]) rfl ⟨by rw [(pS hO.symm).1, (pS hO.symm).2.1, (pS hO.symm).2.2], by with_reducible (repeat' first | assumption | exact Below.refl _ _ | refine Below.drew ?_ | refine Below.setCell ?_ (by first | exact Nat.le_refl _ | (simp; done) | (simp; omega) | omega) _ | refine Below.alloc ?_ (by first | exact Nat.le_refl _ | (simp; done) | (simp; omega) | omega) _)⟩
      · have q : mayC (r : Int) (c : Int) = false := mayC_f (by unfold mayN at hm; omega)
        rw [if_neg hm] at hO
        go_wp2_with (go_at_call 93; refine (may_any _ _ _).mono ?_; rintro e w1 ⟨rfl, hb⟩; have hB : Below w.heap.size w w1 := bup (pW_bel _ _ _ _ _) hb; have p0 := (pW_own0 w s _ _ _).keep hb; have d0 := p0.cell; have g0 := p0.fro; have m0 := p0.lt; have p1 := (pW_own1 w s _ _ _).keep hb; have d1 := p1.cell; have g1 := p1.fro)
        all_goals exact bodyPost_ret (v := .tuple #[.agg #[.int .i64 0, .int .i64 0], .bool false]) (by simp [results, Tryz.results77, go_sem, d0, g0]) rfl ⟨by rw [(pN hO.symm).1, (pN hO.symm).2.1, (pN hO.symm).2.2], by with_reducible (repeat' first | assumption | exact Below.refl _ _ | refine Below.drew ?_ | refine Below.setCell ?_ (by first | exact Nat.le_refl _ | (simp; done) | (simp; omega) | omega) _ | refine Below.alloc ?_ (by first | exact Nat.le_refl _ | (simp; done) | (simp; omega) | omega) _)⟩
end Go.Proofs.YtaamphdihmghhaaGreatDoor
