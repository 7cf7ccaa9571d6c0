/- The rest of the contract of the document's Power: the exponent 1, and 0 raised above 0; the refusals of its Sqrt. New memory alone is made. · The document's Power: 0 raised to 1. -/
import Derived.Test.YtfpbcokfianjaaaGreatQPwRPowPPwRSqrt
namespace Go.Proofs.YtfpbcokfianjaaaGreat.Pw
open Go.Shelf Go.RowKit
set_option linter.all false
theorem rq_neg (x : Int) (w : World) (hi : I64 x) (hm : mayOk x = true) (hx : x < 0) : Calls Tryz.prog 40 #[.int .i64 x] w fun e w' => e = .returned (.tuple #[.int .i64 0, .int .i64 8]) ∧ Below w.heap.size w w' := by
  go_enter Tryz.func40, Tryz.ntmps40
  go_wp2_with (go_at_call 37; refine (rmayAny _ _ hi).mono ?_; rintro e w ⟨rfl, rfl⟩)
  go_ret2
  exact ⟨rfl, Below.refl _ _⟩
set_option maxRecDepth 100000 in
set_option maxHeartbeats 1000000 in
theorem rp_pos1 (x : Int) (s : Nat) (low : Bool) (w : World) (hi : I64 x) (hm : mayOk x = true) (hs : (x = s ∧ 0 ≤ x ∧ low = false) ∨ (x = -(s : Int) ∧ x < 0 ∧ low = true)) (hs1 : 1 ≤ s) (hs2 : s ≤ 9223372036854775807) :
    Calls Tryz.prog 45 #[.int .i64 x, .int .i64 1] w fun e w' => e = .returned (.tuple #[.int .i64 (pwV (rnd (s ^ 1 * 10000) (10000 ^ 1)) (sgp low 1)), .int .i64 (pwC (rnd (s ^ 1 * 10000) (10000 ^ 1)))]) ∧ Below w.heap.size w w' := by
  obtain ⟨i0, hi0, hz0, hz1, hz2⟩ := info_parts infoInt
  have HI := Lib.hid hi0
  have HZ0 := Lib.hid hz0
  have HZ1 := Lib.hid hz1
  have HZ2 := Lib.hid hz2
  clear hi0 hz0 hz1 hz2
  have HS := Lib.hid hs
  have HP := Lib.hid (show 0 < s ^ 1 from Nat.pow_pos hs1)
  clear hs
  go_enter Tryz.func45, Tryz.ntmps45
  go_wp2_with (first
    | (go_at_call 37; refine (rmayAny _ _ hi).mono ?_; rintro e w ⟨rfl, rfl⟩)
    | (go_at_call 77; refine (rsize_n s x low _ HS.out hs2).mono ?_; rintro e w ⟨rfl, rfl⟩)
    | (go_at_call 75; refine (great_any s _ (by omega)).mono ?_; rintro e w2 ⟨g, vg, rfl, g1, g2, g3, g4, g5, g6⟩; have G1 := Lib.hid g1; have G2 := Lib.hid g2; have G4 := Lib.hid g4; clear g1 g2 g3 g4)
    | (go_at_call 80; refine (raised_any _ g 1 _ G1.out G2.out g5 (by decide)).mono ?_; rintro e w3 ⟨p, vp, rfl, p1, p2, p3, p4, p5, p6⟩; have P1 := Lib.hid p1; have P2 := Lib.hid p2; have P3 := Lib.hid p3; have P4 := Lib.hid (show wv p = s ^ 1 by rw [p4, G4.out]); clear p1 p2 p3 p4; obtain ⟨bp, cap, rfl, hcap, hcell⟩ := P1.out.some (by rintro rfl; have h1 := P4.out; have h2 := HP.out; rw [← h1] at h2; exact absurd h2 (by decide)); have HC := Lib.hid hcell; clear hcell)
    | (at_builtin; (refine wpList_append_own _ rfl _ _ 93 rfl 0 3 i0 (.int .i64 0) 1 8 Tryz.underlying93 HI.out HZ0.out HZ1.out HZ2.out rfl (by decide) (.slice none 0 0) 0 [] rfl (IsW.nil _) ⟨bp, 0, none⟩ p.length cap (ints (p.drop 0)) ?hx (by unfold ints; simp) (ints_drop_at HC.out) (ints_one _) (by unfold maxLen; omega) (by omega) (Nat.zero_le _) ?_; rotate_left 1; intro v' w4 hown' hgrow _; have R := app_drop (j := 0) hown' hgrow; have R1 := Lib.hid R.1; have R2 := Lib.hid R.2; clear hown' hgrow R))
    | (go_at_call 81; obtain ⟨m, hm9⟩ : ∃ m, m = p.drop 0 := ⟨_, rfl⟩; have M4 := Lib.hid (show wv m = rnd (s ^ 1 * 10000) (10000 ^ 1) by rw [hm9, ← P4.out, rnd_cut p P2.out 1 (by decide) (Nat.zero_le _), if_neg (by simp [wv])]; rfl); have M6 := Lib.hid (bup (bup g6 p6) R2.out); refine (small_any _ m _ (by rw [hm9]; exact R1.out) (by rw [hm9]; exact P2.out.drop _) (by rw [hm9]; exact P3.out.drop _)).mono ?_; clear hm9; rintro e w5 ⟨rfl, rfl⟩)
    | (go_at_call 78; refine (rsgn_any _ _ _ (smV_le _)).mono ?_; rintro e w5 ⟨rfl, rfl⟩))
  case hx => first | rfl | (simp; done) | (split <;> rfl)
  all_goals go_ret2
  all_goals refine ⟨?_, M6.out⟩
  all_goals first
    | (have hb : ¬ wv m ≤ 9223372036854775807 := nle_of (by assumption)
       rw [M4.out] at hb
       exact ret2 (pw_big _ _ hb).1.symm (pw_big _ true hb).2.symm)
    | (have hb : wv m ≤ 9223372036854775807 := le_of (by assumption)
       have hl : low = true := by assumption
       subst hl
       refine ret2 (b := pwV (rnd (s ^ 1 * 10000) (10000 ^ 1)) (sgp true 1)) (d := pwC (rnd (s ^ 1 * 10000) (10000 ^ 1))) ((pw_sm _ _ hb).1.trans ?_) ((pw_sm _ true hb).2.trans ?_)
       · rw [M4.out]; rfl
       · rw [M4.out])
    | (have hb : wv m ≤ 9223372036854775807 := le_of (by assumption)
       have hl : low = false := by first | assumption | exact Bool.eq_false_iff.mpr (by assumption) | exact eq_false_of_ne_true (by assumption)
       subst hl
       refine ret2 (b := pwV (rnd (s ^ 1 * 10000) (10000 ^ 1)) (sgp false 1)) (d := pwC (rnd (s ^ 1 * 10000) (10000 ^ 1))) ((pw_sm _ _ hb).1.trans ?_) ((pw_sm _ true hb).2.trans ?_)
       · rw [M4.out]; rfl
       · rw [M4.out])
set_option maxRecDepth 100000 in
theorem wv_pos0 (p : List Nat) (tp : Top p) (h : wv p = 0) (wp : Wds p) : p = [] := by
  cases e : p.getLast? with
  | none => exact List.getLast?_eq_none_iff.mp e
  | some a =>
    exfalso
    obtain ⟨q, rfl⟩ := List.getLast?_eq_some_iff.mp e
    have ha : a ≠ 0 := by intro h0; subst h0; exact tp e
    rw [wv_append] at h
    simp only [wv, Nat.mul_zero, Nat.add_zero] at h
    have : 0 < 10000 ^ q.length := Nat.pow_pos (by decide)
    have : 0 < 10000 ^ q.length * a := Nat.mul_pos this (by omega)
    omega
set_option maxRecDepth 100000 in
set_option maxHeartbeats 1000000 in
theorem rp_0p2 (k : Nat) (w : World) (hk1 : 2 ≤ k) (hk2 : k ≤ 64) : Calls Tryz.prog 45 #[.int .i64 0, .int .i64 (k : Int)] w fun e w' => e = .returned (.tuple #[.int .i64 0, .int .i64 0]) ∧ Below w.heap.size w w' := by
  have hi : I64 0 := ⟨by decide, by decide⟩
  have hm : mayOk 0 = true := mayOk_t (by decide)
  have d1 : decide (64 < (k : Int)) = false := decide_eq_false (by omega)
  have d2 : ¬ (k : Int) < -64 := by omega
  have d3 : ((k : Int) == 0) = false := by simp; omega
  have d5 : ¬ (k : Int) < 0 := by omega
  have e1 : (k : Int) - 1 = ((k - 1 : Nat) : Int) := by omega
  have d8 : 0 < k - 1 := by omega
  go_enter Tryz.func45, Tryz.ntmps45
  go_wp2_with (first
    | (go_at_call 37; refine (rmayAny _ _ hi).mono ?_; rintro e w ⟨rfl, rfl⟩)
    | (go_at_call 77; refine (rsize_n 0 0 false _ (.inl ⟨rfl, by decide, rfl⟩) (by decide)).mono ?_; rintro e w ⟨rfl, rfl⟩)
    | (go_at_call 75; refine (great_any 0 _ (by decide)).mono ?_; rintro e w2 ⟨g, vg, rfl, g1, g2, g3, g4, g5, g6⟩; have G1 := Lib.hid g1; have G2 := Lib.hid g2; have G4 := Lib.hid g4; clear g1 g2 g3 g4)
    | (go_at_call 80; refine (raised_any _ g k _ G1.out G2.out g5 (by omega)).mono ?_; rintro e w3 ⟨p, vp, rfl, p1, p2, p3, p4, p5, p6⟩; have P4 : p = [] := wv_pos0 p p3 (by rw [p4, G4.out]; exact Nat.zero_pow (by omega)) p2; subst P4; have P1 := Lib.hid p1; clear p1 p2 p3 p4; obtain ⟨pp, cap, rfl⟩ := P1.out.form))
  go_ret2
  exact ⟨rfl, bup g6 p6⟩
end Go.Proofs.YtfpbcokfianjaaaGreat.Pw
namespace Go.Proofs.YtfpbcokfianjaaaGreat.Pw
open Go.Shelf Go.RowKit
set_option linter.all false
set_option maxRecDepth 100000 in
set_option maxHeartbeats 1000000 in
theorem rp_0p1 (w : World) : Calls Tryz.prog 45 #[.int .i64 0, .int .i64 1] w fun e w' => e = .returned (.tuple #[.int .i64 0, .int .i64 0]) ∧ Below w.heap.size w w' := by
  have hi : I64 0 := ⟨by decide, by decide⟩
  have hm : mayOk 0 = true := mayOk_t (by decide)
  go_enter Tryz.func45, Tryz.ntmps45
  go_wp2_with (first
    | (go_at_call 37; refine (rmayAny _ _ hi).mono ?_; rintro e w ⟨rfl, rfl⟩)
    | (go_at_call 77; refine (rsize_n 0 0 false _ (.inl ⟨rfl, by decide, rfl⟩) (by decide)).mono ?_; rintro e w ⟨rfl, rfl⟩)
    | (go_at_call 75; refine (great_any 0 _ (by decide)).mono ?_; rintro e w2 ⟨g, vg, rfl, g1, g2, g3, g4, g5, g6⟩; have G1 := Lib.hid g1; have G2 := Lib.hid g2; have G4 := Lib.hid g4; clear g1 g2 g3 g4))
  refine (raised_any _ g 1 _ G1.out G2.out g5 (by decide)).mono ?_
  rintro e w3 ⟨p, vp, rfl, p1, p2, p3, p4, p5, p6⟩
  have P4 : p = [] := wv_pos0 p p3 (by rw [p4, G4.out]) p2
  subst P4
  have P1 := Lib.hid p1
  clear p1 p2 p3 p4
  rcases P1.out.lies with ⟨rfl, _⟩ | ⟨bp, cap, rfl, _, _, _⟩
  all_goals go_wp2_with (first
    | (go_at_call 81; refine (small_any _ [] _ (IsW.nil _) (fun x hx => by cases hx) Top.nil).mono ?_; rintro e w5 ⟨rfl, rfl⟩)
    | (go_at_call 78; refine (rsgn_any 0 false _ (by decide)).mono ?_; rintro e w5 ⟨rfl, rfl⟩))
  all_goals go_ret2
  all_goals exact ⟨rfl, bup g6 p6⟩
end Go.Proofs.YtfpbcokfianjaaaGreat.Pw
